import PyProof.Rows.All
import Wide.All
import OpenK.AllK
import Wide.FinOn
import Lean
import PyProof.EqAt
import PyProof.EqKinds
import PyProof.TupleCall
import KE.KSortTup
import KE.KDictSum
import PyProof.Rows.Range3
import PyProof.Rows.SortRev
import PyProof.StrBlock2
import PyProof.ZipIter
import PyProof.Rows.ZipGen
import PyProof.NeKinds
import PyProof.DictCompW
import PyProof.DictWalks
import PyProof.AttrMissHeap
import PyProof.WalksS
import KE.KDictOf
import KE.KListMore
import KE.KEqDict
import PyProof.StationsW
import PyProof.InstStoreFacts
import PyProof.ExcBaseAll.ValueError
import PyProof.ExcClass2
import PyProof.RulesAs
import KE.KTryMore
import PyProof.ExcArgs
import KE.KIsAll
import OpenK.KOwn
import PyProof.P3In
import PyProof.DictUpdate
import PyProof.MeetsSeq2
import KE.KIntText
import KE.KRevSl
import PyProof.Rows.StrLawsPart
import PyProof.EnumMake
import PyProof.Draws
import PyProof.ListRange
import PyProof.TupleOfStr
import KE.KLam
import KE.KNestM
import KE.KMinKey
import PySem.Challenge.RW_placedworks_k16_lists_of_deeds
set_option genSizeOf false
set_option genSizeOfSpec false
set_option bootstrap.genMatcherCode false
set_option Elab.async false
set_option linter.all false
set_option maxRecDepth 100000
abbrev FG:=PySem.W.Frag
abbrev PN:=List (PySem.Addr×PySem.Obj)
abbrev VP:=PySem.Value->PySem.Shared->Prop
abbrev ND(x:PySem.Str):Prop:=(x==("__debug__" : PySem.Str))=false
section
open PySem PySem.Spec PyProof.Rows
namespace L2
abbrev Key:=Sum Int Str
def oR:Key->Value->Bool
 | .inl k,v=>Value.isInt k v
 | .inr x,v=>Value.isStrOf x v
def ajY(w:World):Key->Int
 | .inl k=>hashInt k
 | .inr x=>hashStr w x
theorem bK:∀ {k:Key} {v:Value},oR k v=true->(∃ i t,k=Sum.inl i/\v=Value.int i t)\/(∃ x t,k=Sum.inr x/\v=Value.str x t)
 | .inl i,v,h=>by obtain⟨t,e⟩:=Value.isInt_shape (k:=i) (v:=v) h;exact .inl ⟨i,t,rfl,e⟩
 | .inr x,v,h=>by obtain⟨t,e⟩:=Value.isStrOf_shape (x:=x) (v:=v) h;exact .inr ⟨x,t,rfl,e⟩
theorem zE(i:Int)(t:Tok):oR (.inl i) (.int i t)=true:=by simp[oR,Value.isInt]
theorem zk(x:Str)(t:Tok):oR (.inr x) (.str x t)=true:=by simp[oR,Value.isStrOf]
theorem afi(a b:Int):decide ((Sum.inl a:Key)=Sum.inl b)=(a==b):=by
 by_cases e:a=b
 ·subst e;simp
 ·have h:¬ (Sum.inl a:Key)=Sum.inl b:=λ q=>e (Sum.inl.inj q);rw[decide_eq_false h];exact(beq_eq_false_iff_ne.mpr e).symm
theorem afJ(a b:Str):decide ((Sum.inr a:Key)=Sum.inr b)=decide (a=b):=by
 by_cases e:a=b
 ·subst e;simp
 ·have h:¬ (Sum.inr a:Key)=Sum.inr b:=λ q=>e (Sum.inr.inj q);rw[decide_eq_false h,decide_eq_false e]
theorem afT(a:Int)(b:Str):decide ((Sum.inl a:Key)=Sum.inr b)=false:=decide_eq_false (λ q=>nomatch q)
theorem agk(a:Str)(b:Int):decide ((Sum.inr a:Key)=Sum.inl b)=false:=decide_eq_false (λ q=>nomatch q)
def bb(prog:Program)(w:World):PySem.KeyKind prog w Key where
 is:=oR
 hash:=ajY w
 inj:=λ v a b ha hb=>by
  rcases bK ha with ⟨i,t,rfl,rfl⟩ | ⟨x,t,rfl,rfl⟩
  ·rcases bK hb with ⟨j,u,rfl,e⟩ | ⟨y,u,rfl,e⟩
   ·injection e with e1 _;rw[e1]
   ·exact nomatch e
  ·rcases bK hb with ⟨j,u,rfl,e⟩ | ⟨y,u,rfl,e⟩
   ·exact nomatch e
   ·injection e with e1 _;rw[e1]
 byValue:=λ k v h=>by
  rcases bK h with ⟨i,t,rfl,rfl⟩ | ⟨x,t,rfl,rfl⟩<;>rfl
 pyHash:=λ hv h=>by
  rcases bK hv with ⟨i,t,rfl,rfl⟩ | ⟨x,t,rfl,rfl⟩
  ·exact wpAny_pyHash_int h
  ·exact wpAny_pyHash_str h
 eqBool:=λ hu hv h=>by
  rcases bK hu with ⟨i,t,rfl,rfl⟩ | ⟨x,t,rfl,rfl⟩
  ·rcases bK hv with ⟨j,u,rfl,rfl⟩ | ⟨y,u,rfl,rfl⟩
   ·rw[afi] at h;exact wpAny_eqBool_int h
   ·rw[afT] at h;exact SeqAt.EqAt.int_str i t y u _ _ _ _ h
  ·rcases bK hv with ⟨j,u,rfl,rfl⟩ | ⟨y,u,rfl,rfl⟩
   ·rw[agk] at h;exact SeqAt.EqAt.str_int x t j u _ _ _ _ h
   ·rw[afJ] at h;exact wpAny_eqBool_str h
 «strs»:=λ k x t v h=>by
  rcases bK h with ⟨i,u,rfl,e⟩ | ⟨y,u,rfl,e⟩
  ·exact nomatch e
  ·injection e with e1 _
   subst e1;cases v<;>rfl
theorem vX(prog:Program)(w:World)(k:Key)(v:Value):(bb prog w).is k v=oR k v:=rfl
theorem sT(prog:Program)(w:World)(i:Int)(t:Tok):(bb prog w).is (.inl i) (.int i t)=true:=zE i t
theorem rD(prog:Program)(w:World)(x:Str)(t:Tok):(bb prog w).is (.inr x) (.str x t)=true:=zk x t
inductive V where
 | non | bl (b:Bool) | int (i:Int) | str (x:Str) | byt (b:Array UInt8) | flt (b:UInt64) | ref (a:Addr) | ty (n:String)
 deriving DecidableEq
def RelV:V->Value->Prop
 | .non,u=>u=Value.none
 | .bl b,u=>u=Value.bool b
 | .int i,u=>∃ t,u=Value.int i t
 | .str x,u=>∃ t,u=Value.str x t
 | .byt b,u=>∃ t,u=Value.bytes b t
 | .flt b,u=>∃ t,u=Value.float b t
 | .ref a,u=>u=Value.ref a
 | .ty n,u=>u=Value.type n
abbrev Vals:List V->List Value->Prop:=Paired RelV
theorem Vals.length(r:Vals xs us):xs.length=us.length:=Paired.length r
theorem Vals.get:∀ {xs:List V} {us:List Value} {i:Nat} {x:V},Vals xs us->xs[i]? =some x->∃ u,us[i]? =some u/\RelV x u
 | _,_,_,_,.nil,e=>by simp at e
 | _,_,0,_,.cons r _,e=>by simp at e;subst e;exact⟨_,rfl,r⟩
 | _,_,i+1,x,.cons _ t,e=>by obtain⟨u,h1,h2⟩:=Vals.get (i:=i) (x:=x) t (by simpa using e);exact⟨u,by simpa using h1,h2⟩
theorem Vals.set(r:RelV x u):∀ {xs:List V} {us:List Value} (i:Nat),Vals xs us->Vals (xs.set i x) (us.set i u)
 | _,_,_,.nil=>.nil
 | _,_,0,.cons _ t=>.cons r t
 | _,_,i+1,.cons q t=>.cons q (Vals.set r i t)
theorem Vals.append:∀ {xs ys:List V} {us ws:List Value},Vals xs us->Vals ys ws->Vals (xs++ys) (us++ws)
 | _,_,_,_,.nil,s=>s
 | _,_,_,_,.cons r t,s=>.cons r (Vals.append t s)
theorem Vals.take:∀ {xs:List V} {us:List Value} (n:Nat),Vals xs us->Vals (xs.take n) (us.take n)
 | _,_,0,_=>.nil
 | _,_,_+1,.nil=>.nil
 | _,_,n+1,.cons r t=>.cons r (Vals.take n t)
theorem Vals.drop:∀ {xs:List V} {us:List Value} (n:Nat),Vals xs us->Vals (xs.drop n) (us.drop n)
 | _,_,0,r=>r
 | _,_,_+1,.nil=>.nil
 | _,_,n+1,.cons _ t=>Vals.drop n t
def uL:Option V->Option Value->Prop
 | some v,some u=>RelV v u
 | none,none=>True
 | _,_=>False
def KV:List (κ×V)->List (κ×Value)->Prop:=Paired λ(p:κ×V) (q:κ×Value)=>p.1=q.1/\RelV p.2 q.2
def kV:Key->V
 | .inl i=>.int i
 | .inr x=>.str x
inductive HO where
 | lst (xs:List V)
 | tup (xs:List V)
 | dK (kvs:List (Key×V)) | dT (kvs:List (List Key×V))
 | set (S:Int->Bool) (n:Nat)
 | ins (C dx:Addr) (fs:List (Str×V))
 | own (x:Addr)
 | xd (fs:List (Str×V))
 | met (f x:Addr)
 | rng (lo hi:Int)
 | frz (o:Obj) (u:HO)
 | tbl (ps:Array Value)
 | ext (φ:Heap->Prop)
abbrev Hp:=Addr->Option HO
def upd(H:Hp)(a:Addr)(o:HO):Hp:=λ b=>if b=a then some o else H b
theorem ar:upd H a o a=some o:=by unfold upd;rw[if_pos rfl]
theorem aq(h:b≠a):upd H a o b=H b:=by unfold upd;rw[if_neg h]
theorem sD:upd (upd H a o) a u=upd H a u:=by
 funext b;unfold upd;split<;>rfl
theorem agF{H:Hp}{a b:Addr}{o u:HO}(h:H a=some o)(h':H b=some u)(d:o≠u):a≠b:=by intro e;subst e;rw[h] at h';exact d (Option.some.inj h')
theorem a6{H:Hp}{a b:Addr}{o:HO}(h:H a=some o)(h':H b=none):a≠b:=by intro e;subst e;rw[h] at h';cases h'
def abl(h:Heap)(a:Addr)(items:Array Value):Prop:=∃ o,h.get? a=some o/\o.cls=.type "tuple" /\ o.dict=none/\∃ n,o.data=.seq items n
theorem abl.tup(x:abl h a items):IsTup h a items:=let ⟨o,h1,h2,_,h3⟩:=x; ⟨o,h1,h2,h3⟩
theorem abl.new(h:Heap)(items:Array Value):abl (h.push {cls:=.type "tuple",data:=.seq items}) h.objs.size items:=⟨_,Heap.get?_push_size _ rfl,rfl,rfl,_,rfl⟩
section
variable (P:Program)(w:World)
def cF(H:Hp)(h:Heap)(a:Addr):HO->Prop
 | .lst xs=>xs.length<=sizeLine/\∃ (its:List Value) (n:Nat),Vals xs its/\h.get? a=some {cls:=.type "list",data:=.seq its.toArray n}
 | .tup xs=>xs.length<=sizeLine/\∃ its:List Value,Vals xs its/\abl h a its.toArray
 | .dK kvs=>kvs.length<=sizeLine/\(a==sysModules)=false/\∃ vs,KV kvs vs/\h.DictOf (bb P w) a vs
 | .dT kvs=>kvs.length<=sizeLine/\(a==sysModules)=false/\∃ xs:List (List Key×Addr×Value),
   Paired (λ(p:List Key×V) (q:List Key×Addr×Value)=>p.1=q.1/\H q.2.1=some (.tup (p.1.map kV))/\RelV p.2 q.2.2) kvs xs /\
   ∃ o es ep,h.get? a=some o/\o.ExactDict/\o.data=.dict es ep/\es.toList=xs.map (entryOfKey (tupleKind (bb P w)))/\(xs.map (·.1)).Nodup
 | .set S n=>h.SetOf (intKind P w) a S n
 | .ins C dx fs=>H dx=some (.own a)/\fs.length<=1000/\dx≠a/\h.get? a=some (W.instObj C dx) /\
   ∃ mA,h.Ns1 dx mA/\(∀ f,uL (fs.lookup f) (mA f))/\PySem.Within mA (fs.map (·.1))
 | .own _=>∃ o,h.get? a=some o
 | .xd fs=>∃ mA,h.Ns1 a mA/\∀ f,uL (fs.lookup f) (mA f)
 | .rng lo hi=>∃ t u v,h.get? a=some {cls:=.type "range",data:=.fields #[.int lo t,.int hi u,.int 1 v]}
 | .frz o u=>h.get? a=some o/\cF H h a u
 | .tbl ps=>h.get? a=some {cls:=.none,data:=.fields ps}
 | .met f x=>h.get? a=some (W.methodObj (.ref f) (.ref x))
 | .ext φ=>φ h/\(∃ o,h.get? a=some o)/\∀ h1 h2:Heap,φ h1->(∀ o,h1.get? a=some o->h2.get? a=some o)->φ h2
def HOk(H:Hp)(h:Heap):Prop:=∀ a o,H a=some o->cF P w H h a o
end
section
variable {P:Program}{w:World}{H H':Hp}{h h':Heap}{a:Addr}{o:HO}
theorem cF.lt(x:cF P w H h a o):a<h.objs.size:=by
 cases o with
 | lst xs=>obtain⟨_,_,_,_,e⟩:=x;exact Heap.lt_size e
 | tup xs=>obtain⟨_,_,_,p⟩:=x;exact p.tup.lt
 | dK kvs=>obtain⟨_,_,_,_,o,_,_,e,_⟩:=x;exact Heap.lt_size e
 | dT kvs=>obtain⟨_,_,_,_,o,_,_,e,_⟩:=x;exact Heap.lt_size e
 | set S n=>obtain⟨o,_,_,_,e,_⟩:=x;exact Heap.lt_size e
 | ins C dx fs=>obtain⟨_,_,_,e,_⟩:=x;exact Heap.lt_size e
 | own y=>obtain⟨_,e⟩:=x;exact Heap.lt_size e
 | xd fs=>obtain⟨_,⟨_,_,_,e,_⟩,_⟩:=x;exact Heap.lt_size e
 | rng lo hi=>obtain⟨_,_,_,e⟩:=x;exact Heap.lt_size e
 | frz ob u=>obtain⟨e,_⟩:=x;exact Heap.lt_size e
 | tbl ps=>exact Heap.lt_size (show h.get? a=some _ from x)
 | met f y=>exact Heap.lt_size (show h.get? a=some _ from x)
 | ext φ=>obtain⟨_,⟨_,e⟩,_⟩:=x;exact Heap.lt_size e
theorem Paired.mE:∀ {l₁:List α} {l₂:List β},Paired F l₁ l₂->(∀ a b,F a b->G a b)->Paired G l₁ l₂
 | _,_,.nil,_=>.nil
 | _,_,.cons r t,f=>.cons (f _ _ r) (Paired.mE t f)
theorem cF.sx(x:cF P w H h a o)(k:∀ b u,(b=a\/H b=some (.own a))->h.get? b=some u->h'.get? b=some u)
  (ho:∀ b,H b=some (.own a)->H' b=some (.own a))(ht:∀ b xs,H b=some (.tup xs)->H' b=some (.tup xs)):cF P w H' h' a o:=by
 induction o with
 | lst xs=>obtain⟨z,its,n,r,e⟩:=x;exact⟨z,its,n,r,k _ _ (.inl rfl) e⟩
 | tup xs=>obtain⟨z,its,r,ob,e,c⟩:=x;exact⟨z,its,r,ob,k _ _ (.inl rfl) e,c⟩
 | dK kvs=>obtain⟨z,y,vs,r,ob,es,ep,e,c⟩:=x;exact⟨z,y,vs,r,ob,es,ep,k _ _ (.inl rfl) e,c⟩
 | dT kvs =>
  obtain⟨z,y,xs,r,ob,es,ep,e,c⟩:=x;exact⟨z,y,xs,Paired.mE r λ p q z=>⟨z.1,ht _ _ z.2.1,z.2.2⟩,ob,es,ep,k _ _ (.inl rfl) e,c⟩
 | set S n=>obtain⟨ob,es,ep,t,e,c⟩:=x;exact⟨ob,es,ep,t,k _ _ (.inl rfl) e,c⟩
 | ins C dx fs =>
  obtain⟨d,z,ne,e,mA,⟨od,es,ep,e2,c⟩,r⟩:=x;exact⟨ho _ d,z,ne,k _ _ (.inl rfl) e,mA,⟨od,es,ep,k _ _ (.inr d) e2,c⟩,r⟩
 | own y=>obtain⟨ob,e⟩:=x;exact⟨ob,k _ _ (.inl rfl) e⟩
 | xd fs=>obtain⟨mA,⟨od,es,ep,e,c⟩,r⟩:=x;exact⟨mA,⟨od,es,ep,k _ _ (.inl rfl) e,c⟩,r⟩
 | rng lo hi=>obtain⟨t,u,v,e⟩:=x;exact⟨t,u,v,k _ _ (.inl rfl) e⟩
 | frz ob u ih=>obtain⟨e,q⟩:=x;exact⟨k _ _ (.inl rfl) e,ih q⟩
 | tbl ps =>
  have e:h.get? a=some {cls:=.none,data:=.fields ps}:=x;show h'.get? a=some {cls:=.none,data:=.fields ps};exact k a _ (.inl rfl) e
 | met f y =>
  have e:h.get? a=some (W.methodObj (.ref f) (.ref y)):=x;show h'.get? a=some (W.methodObj (.ref f) (.ref y));exact k a _ (.inl rfl) e
 | ext φ=>obtain⟨p,⟨o,e⟩,st⟩:=x;exact⟨st _ _ p λ o q=>k _ _ (.inl rfl) q,⟨o,k _ _ (.inl rfl) e⟩,st⟩
theorem HOk.lt(x:HOk P w H h)(e:H a=some o):a<h.objs.size:=(x a o e).lt
theorem HOk.fresh(x:HOk P w H h)(e:h.objs.size<=a):H a=none:=by
 cases q:H a with
 | none=>rfl
 | some u=>exact absurd (Nat.lt_of_lt_of_le (x.lt q) e) (Nat.lt_irrefl _)
theorem HOk.kept(x:HOk P w H h)(k:∀ b u,h.get? b=some u->h'.get? b=some u):HOk P w H h':=λ a o e =>
 (x a o e).sx (λ b u _ q=>k b u q) (λ _ q=>q) λ _ _ q=>q
theorem HOk.laid(x:HOk P w H h)(k:∀ b u,h.get? b=some u->h'.get? b=some u)(hp:h.objs.size<=a)(new:cF P w (upd H a o) h' a o):HOk P w (upd H a o) h':=λ b u e=>by
 have hn:=x.fresh hp
 by_cases hb:b=a
 ·subst hb;rw[ar] at e;cases e;exact new
 ·rw[aq hb] at e;exact(x b u e).sx (λ c v _ q=>k c v q) (λ c q=>by rw[aq (a6 q hn)];exact q) λ c xs q=>by rw[aq (a6 q hn)];exact q
end
def Rd(H:Hp)(a:Addr)(u:HO):Prop:=H a=some u\/∃ o,H a=some (.frz o u)
theorem Rd.ok(r:Rd H a u)(x:HOk P w H h):cF P w H h a u:=by
 rcases r with r | ⟨o,r⟩
 ·exact x a u r
 ·obtain⟨_,q⟩:=x a _ r;exact q
def Mut:Option HO->Prop
 | some (.lst _)=>True
 | some (.dK _)=>True
 | some (.dT _)=>True
 | some (.set _ _)=>True
 | some (.ins _ _ _)=>True
 | some (.ext _)=>True
 | _=>False
section
variable {P:Program}{w:World}{H:Hp}{h h':Heap}{x e:Addr}{o':HO}
theorem HOk.write(ok:HOk P w H h)(mu:Mut (H x))(he:e=x\/H e=some (.own x))(k:∀ b u,b≠e->h.get? b=some u->h'.get? b=some u)(heo:∃ u,h'.get? e=some u)
  (new:cF P w (upd H x o') h' x o'):HOk P w (upd H x o') h':=λ b u q=>by
 have nown:∀ c y,H c=some (.own y)->c≠x:=λ c y r z=>by subst z;rw[r] at mu;exact mu
 have ntup:∀ c xs,H c=some (.tup xs)->c≠x:=λ c xs r z=>by subst z;rw[r] at mu;exact mu
 by_cases hb:b=x
 ·subst hb;rw[ar] at q;cases q;exact new
 ·rw[aq hb] at q
  by_cases hbe:b=e
  ·have q':H b=some (.own x):=by
    rcases he with z | z
    ·exact absurd (hbe.trans z) hb
    ·rw[hbe];exact z
   rw[q] at q';cases q';obtain⟨v,hv⟩:=heo;exact⟨v,by rw[hbe];exact hv⟩
  ·refine(ok b u q).sx (λ c v hc r=>k c v ?_ r) (λ c r=>by rw[aq (nown c b r)];exact r) λ c xs r=>by rw[aq (ntup c xs r)];exact r
   rcases hc with rfl | hc
   ·exact hbe
   ·rintro rfl;rcases he with z | z
    ·exact nown c b hc z
    ·rw[hc] at z;cases z;exact hb rfl
end
structure Un(fs ex:List Addr)(H H':Hp)(h h':Heap):Prop where
 keep:∀ b o,h.get? b=some o->H b=none->b ∉ fs->b ∉ ex->h'.get? b=some o
 slot:∀ b o,h.get? b=some o->H b=none->b∈fs->b ∉ ex->∃ sl,h'.get? b=some {o with slots:=sl}
 free:∀ b o,h.get? b=some o->H b=none->b ∉ ex->H' b=none
 there:∀ b o,h.get? b=some o->b ∉ ex->∃ o',h'.get? b=some o'
 tups:∀ b xs,H b=some (.tup xs)->H' b=some (.tup xs)
 frzs:∀ b o u,H b=some (.frz o u)->H' b=some (.frz o u)
 tbls:∀ b ps,H b=some (.tbl ps)->∃ more,H' b=some (.tbl (ps++more))
theorem Un.any(u:Un fs ex H H1 h h1){b:Addr}{ob:Obj}(q:h.get? b=some ob)(n:H b=none)(hx:b ∉ ex):∃ sl,h1.get? b=some {ob with slots:=sl}:=by
 by_cases hb:b∈fs
 ·exact u.slot b ob q n hb hx
 ·exact⟨ob.slots,u.keep b ob q n hb hx⟩
theorem Un.kept(k:∀ b u,h.get? b=some u->h'.get? b=some u):Un fs ex H H h h':=
 ⟨λ b ob q _ _ _=>k b ob q,λ b ob q _ _ _=>⟨ob.slots,k b ob q⟩,λ _ _ _ n _=>n,λ b ob q _=>⟨ob,k b ob q⟩,λ _ _ q=>q,λ _ _ _ q=>q,λ _ ps q=>⟨#[],by rw[q];simp⟩⟩
theorem Un.refl:Un fs ex H H h h:=Un.kept λ _ _ q=>q
theorem Un.laid(k:∀ b u,h.get? b=some u->h'.get? b=some u)(hp:h.objs.size<=a)(hn:H a=none):Un fs ex H (upd H a o) h h' where
 keep:=λ b u q _ _ _=>k b u q
 slot:=λ b u q _ _ _=>⟨u.slots,k b u q⟩
 free:=λ b u q n _=>by rw[aq (Nat.ne_of_lt (Nat.lt_of_lt_of_le (Heap.lt_size q) hp))];exact n
 there:=λ b u q _=>⟨u,k b u q⟩
 tups:=λ b xs q=>by rw[aq (a6 q hn)];exact q
 frzs:=λ b u xs q=>by rw[aq (a6 q hn)];exact q
 tbls:=λ b ps q=>⟨#[],by rw[aq (a6 q hn),q];simp⟩
theorem Un.write(mu:Mut (H x))(he:e=x\/H e=some (.own x))(k:∀ b u,b≠e->h.get? b=some u->h'.get? b=some u)(heo:∃ u,h'.get? e=some u):Un fs ex H (upd H x o) h h':=by
 have hx:∀ b,H b=none->b≠x:=λ b n z=>by subst z;rw[n] at mu;exact mu
 have hb:∀ b,H b=none->b≠e:=λ b n z=>by
  subst z;rcases he with r | r
  ·exact hx b n r
  ·rw[n] at r;cases r
 have hm:∀ b u,H b=some u->¬ Mut (some u)->b≠x:=λ b u q nm z=>by subst z;rw[q] at mu;exact nm mu
 refine⟨λ b u q n _ _=>k b u (hb b n) q,λ b u q n _ _=>⟨u.slots,k b u (hb b n) q⟩,λ b u q n _=>by rw[aq (hx b n)];exact n,λ b u q _=>?_,
  λ b xs q=>by rw[aq (hm b _ q λ z=>z)];exact q,λ b u xs q=>by rw[aq (hm b _ q λ z=>z)];exact q,λ b ps q=>⟨#[],by rw[aq (hm b _ q λ z=>z),q];simp⟩⟩
 by_cases hbe:b=e
 ·subst hbe;exact heo
 ·exact⟨u,k b u hbe q⟩
def trk(h:Heap)(H:Hp):List Addr:=(List.range h.objs.size).filter λ a=>(H a).isSome
def aaP(h:Heap)(H:Hp):Heap:=W.hideAll h (trk h H)
theorem yM(h:Heap)(H:Hp):(aaP h H).objs.size=h.objs.size:=W.hideAll_size _ _
theorem aag(e:h.get? b=some o)(n:H b=none):(aaP h H).get? b=some o:=
 W.hideAll_get _ e λ hm=>by have q:(H b).isSome=true:=(List.mem_filter.mp hm).2;rw[n] at q;simp at q
theorem aem(e:(aaP h H).get? b=some o):h.get? b=some o/\H b=none:=by
 have e':h.get? b=some o:=W.of_hideAll (trk h H) e;refine⟨e',?_⟩;cases q:H b with
 | none=>rfl
 | some x =>
  have hm:b∈trk h H:=List.mem_filter.mpr ⟨List.mem_range.mpr (Heap.lt_size e'),by simp[q]⟩;have z:(aaP h H).get? b=none:=W.hideAll_none (trk h H) hm;rw[z] at e;cases e
def acI(g h:Heap)(L:Addr):PN:=(List.range h.objs.size).filterMap λ a=>if a=L\/(g.get? a).isSome=true then none else (h.get? a).map λ o=>(a,o)
def rest(g h:Heap)(L d:Addr):PN:=(acI g h L).filter λ p=>decide (p.1≠d)
def BM(mg:Str->Option Value)(h:Heap):Prop:=(∃ bm o,mg "__builtins__" = some (.ref bm)/\bm≠builtinsNs/\h.get? bm=some o/\o.cls=.type "module" /\ o.dict=some builtinsNs/\o.data=.plain)/\∃ mm,h.Ns sysModules mm
structure Mod(K:FG)(mg:Str->Option Value)(base:Heap):Prop where
 kin:K.In base
 glob:base.Ns mainGlobals mg
 blt:∃ mb,base.Ns builtinsNs mb/\∀ x:Str,x ≠ "__name__" -> mb x=bootBuiltins x
 nolimit:base.NoLimit
 bm:BM mg base
structure Cx where
 prog:Program
 w:World
 K:FG
 mg:Str->Option Value
 base:Heap
 A:Around
 N:List Str
 s₀:Shared
 H₀:Hp
 env:Env
 outer:List Env
 stack:List Env
 ex:List Addr
 fn:Str->Bool
 calm:Bool
 pn:PN
 xe:VP
def frs(l:List Env):List Addr:=l.filterMap (·.frame)
abbrev Cx.fs(X:Cx):List Addr:=frs X.outer
def Vis(sc:Scope)(x:Str):Prop:=sc.names.lookup x=some .local\/sc.names.lookup x=some .cell\/sc.names.lookup x=some .free
def Loc(sc:Scope)(x:Str):Prop:=sc.names.lookup x=some .local\/sc.names.lookup x=some .cell
def Look(env:Env)(h:Heap)(m:Str->Option Value)(x:Str)(u:Value):Prop:=
 (env.kindOf x=some .local/\m x=some u)\/((env.kindOf x=some .cell\/env.kindOf x=some .free)/\∃ c,env.cells.lookup x=some c/\h.IsCell c (some u))
structure Cx.Ok(X:Cx):Prop where
 mod:Mod X.K X.mg X.base
 kind:X.env.scope.kind=.function
 glob:X.env.globals=mainGlobals
 blt:X.env.builtins=builtinsNs
 above:X.s₀.heap.objs.size<=X.env.locals
 inj:∀ x y c,X.env.cells.lookup x=some c->X.env.cells.lookup y=some c->x=y
 has:∀ x,(X.env.kindOf x=some .cell\/X.env.kindOf x=some .free)->∃ c,X.env.cells.lookup x=some c
 cab:∀ x c,X.fn x=true->X.env.cells.lookup x=some c->X.s₀.heap.objs.size<=c
 hd:X.calm=true->X.A.handled=none
 frames:X.A.frames=some X.stack
 stk:X.stack=X.outer\/(X.stack=X.env::X.outer/\X.env.frame=some X.env.locals)
 exf:∀ b∈X.ex,b≠X.env.locals/\∀ x c,X.env.cells.lookup x=some c->c≠b
 bs:∀ b o,X.base.get? b=some o->X.s₀.heap.get? b=some o/\X.H₀ b=none
 bsz:X.base.objs.size<=X.s₀.heap.objs.size
 noex:∀ b o,X.base.get? b=some o->b ∉ X.ex
 exfs:∀ b∈X.ex,b ∉ X.fs
 oF:X.s₀.heap.FunFrames X.base X.outer
 frf:∀ b∈X.fs,X.H₀ b=none
structure Inv(X:Cx)(pins:PN)(σ:List (Option V))(H:Hp)(s:Shared):Prop where
 ok:X.Ok
 os:s.os=X.s₀.os
 bare:AllBare s.gens
 base:Un X.fs X.ex X.H₀ H X.s₀.heap s.heap
 loc:∃ m,s.heap.Ns X.env.locals m/\∀ (i:Nat) (x:Str) (v:V),X.N[i]? =some x->σ[i]? =some (some v)->Vis X.env.scope x->∃ u,RelV v u/\Look X.env s.heap m x u
 cell:∀ x c,X.env.cells.lookup x=some c->∃ v,s.heap.IsCell c v
 free:H X.env.locals=none
 freeC:∀ x c,X.env.cells.lookup x=some c->H c=none
 pin:∀ p∈X.pn++pins,s.heap.get? p.1=some p.2/\H p.1=none/\p.1≠X.env.locals/\p.1 ∉ X.fs/\∀ v,p.2.data ≠ .cell v
 hok:HOk X.prog X.w H s.heap
 len:σ.length=X.N.length
section
variable {X:Cx}{pins:PN}{σ:List (Option V)}{H H':Hp}{s:Shared}{h':Heap}
theorem Cx.Ok.ajR(ok:X.Ok)(e:X.base.get? b=some o):b ∉ X.fs:=λ hb=>by have:=(ok.oF.mem hb).1;rw[e] at this;cases this
theorem Inv.bs(I:Inv X pins σ H s):∀ b o,X.base.get? b=some o->s.heap.get? b=some o/\H b=none:=λ b o e =>
 ⟨I.base.keep b o (I.ok.bs b o e).1 (I.ok.bs b o e).2 (I.ok.ajR e) (I.ok.noex b o e),I.base.free b o (I.ok.bs b o e).1 (I.ok.bs b o e).2 (I.ok.noex b o e)⟩
theorem Inv.bk(I:Inv X pins σ H s):∀ b o,X.base.get? b=some o->s.heap.get? b=some o:=λ b o e=>(I.bs b o e).1
theorem Inv.mod(I:Inv X pins σ H s):Mod X.K X.mg X.base:=I.ok.mod
theorem Inv.kIn(I:Inv X pins σ H s):X.K.In s.heap:=I.ok.mod.kin.keeps I.bk
theorem Inv.fr(I:Inv X pins σ H s):∃ m,Fr X.base X.env.locals s.heap m:=
 let ⟨m,hn,_⟩:=I.loc
 ⟨m,hn,I.bk,Nat.le_trans I.ok.bsz I.ok.above⟩
theorem Inv.lt(I:Inv X pins σ H s):X.env.locals<s.heap.objs.size:=let ⟨_,hn,_⟩:=I.loc;hn.lt
theorem Inv.sz(I:Inv X pins σ H s):X.s₀.heap.objs.size<=s.heap.objs.size:=Nat.le_trans I.ok.above (Nat.le_of_lt I.lt)
theorem Inv.ajz(I:Inv X pins σ H s)(h:s.heap.objs.size<=a):a ∉ X.fs:=λ hb=>by obtain⟨_,o,ho,_⟩:=I.ok.oF.mem hb;exact absurd (Nat.lt_of_lt_of_le (Heap.lt_size ho) (Nat.le_trans I.sz h)) (Nat.lt_irrefl _)
theorem Inv.cne(I:Inv X pins σ H s):∀ x c,X.env.cells.lookup x=some c->c≠X.env.locals:=λ x c e z=>by obtain⟨v,o,ho,hd⟩:=I.cell x c e;obtain⟨m,⟨o',es,ep,ho',hd',_⟩,_⟩:=I.loc;rw[z,ho'] at ho;cases ho;rw[hd'] at hd;cases hd
theorem Inv.oF(I:Inv X pins σ H s):s.heap.FunFrames X.base X.outer:=by
 have all:∀ (l:List Env),(∀ b∈frs l,b∈X.fs)->X.s₀.heap.FunFrames X.base l->s.heap.FunFrames X.base l:=by
  intro l
  induction l with
  | nil=>intro _ _;trivial
  | cons env r ih =>
   intro hs hl;obtain⟨hk,⟨L,o,hf,hn,ho,hd⟩,hr⟩:=hl;have hL:L∈X.fs:=hs L (by unfold frs;rw[List.filterMap_cons,hf];exact List.mem_cons_self);obtain⟨sl,e⟩:=I.base.slot L o ho (I.ok.frf L hL) hL λ z=>I.ok.exfs L z hL;exact⟨hk,⟨L,_,hf,hn,e,hd⟩,ih (λ b hb=>hs b (by unfold frs;rw[List.filterMap_cons,hf];exact List.mem_cons_of_mem _ hb)) hr⟩
 exact all X.outer (λ _ hb=>hb) I.ok.oF
theorem Inv.stack(I:Inv X pins σ H s):s.heap.FunFrames X.base X.stack:=by
 rcases I.ok.stk with e | ⟨e,hf⟩
 ·rw[e];exact I.oF
 ·rw[e];obtain⟨m,hn,_⟩:=I.loc;refine .cons (by rw[I.ok.kind];decide) hf hn ?_ I.oF;exact Heap.get?_none_of_le (Nat.le_trans I.ok.bsz I.ok.above)
theorem Inv.mQ(I:Inv X pins σ H s):∀ b∈frs X.stack,b∈X.env.locals::X.fs:=λ b hb=>by
 rcases I.ok.stk with e | ⟨e,hf⟩
 ·rw[e] at hb;exact List.mem_cons_of_mem _ hb
 ·rw[e] at hb;unfold frs at hb;rw[List.filterMap_cons,hf] at hb;exact hb
theorem Inv.rQ(I:Inv X pins σ H s):∀ b∈frs X.stack,H b=none:=λ b hb=>by
 rcases List.mem_cons.mp (I.mQ b hb) with e | hb
 ·rw[e];exact I.free
 ·obtain⟨_,o,ho,_⟩:=I.ok.oF.mem hb;exact I.base.free b o ho (I.ok.frf b hb) λ z=>I.ok.exfs b z hb
theorem Inv.step{g':Array GenState}{t':Nat}{d':Drawn}{ch:List Addr}(I:Inv X pins σ H s)
  (hch:∀ b∈ch,(b∈X.ex\/X.s₀.heap.objs.size<=b)/\b≠X.env.locals/\(∀ x c,X.env.cells.lookup x=some c->c≠b)/\∀ p∈X.pn++pins,p.1≠b)
  (keep:∀ b o,b≠X.env.locals->b ∉ X.fs->b ∉ ch->s.heap.get? b=some o->H b=none->h'.get? b=some o)
  (slot:∀ b o,b≠X.env.locals->b∈X.fs->b ∉ ch->s.heap.get? b=some o->H b=none->∃ sl,h'.get? b=some {o with slots:=sl})(free:∀ b o,b ∉ ch->s.heap.get? b=some o->H b=none->H' b=none)
  (there:∀ b o,b ∉ ch->s.heap.get? b=some o->∃ o',h'.get? b=some o')
  (tups:∀ b xs,H b=some (.tup xs)->H' b=some (.tup xs))(frzs:∀ b o u,H b=some (.frz o u)->H' b=some (.frz o u))(tbls:∀ b ps,H b=some (.tbl ps)->∃ more,H' b=some (.tbl (ps++more)))
  (ns:∀ m,s.heap.Ns X.env.locals m->h'.Ns X.env.locals m)(hok:HOk X.prog X.w H' h')(hg:AllBare g') :
  Inv X pins σ H' {s with heap:=h',gens:=g',drawn:=d',toks:=t'}:=by
 have neL:∀ b o,X.s₀.heap.get? b=some o->b≠X.env.locals:=λ b o e=>Nat.ne_of_lt (Nat.lt_of_lt_of_le (Heap.lt_size e) I.ok.above);have neC:∀ b o,X.s₀.heap.get? b=some o->b ∉ X.ex->b ∉ ch:=λ b o e hx hb=>by
  rcases(hch b hb).1 with z | z
  ·exact hx z
  ·exact absurd (Nat.lt_of_lt_of_le (Heap.lt_size e) z) (Nat.lt_irrefl _)
 have cellK:∀ x c,X.env.cells.lookup x=some c->∀ v,s.heap.IsCell c v->h'.IsCell c v:=λ x c e v hq0=>by
  obtain⟨o,ho,hd⟩:=hq0;have nch:c ∉ ch:=λ z=>(hch c z).2.2.1 x c e rfl
  by_cases hc:c∈X.fs
  ·obtain⟨sl,q⟩:=slot c o (I.cne x c e) hc nch ho (I.freeC x c e);exact⟨_,q,hd⟩
  ·exact⟨o,keep c o (I.cne x c e) hc nch ho (I.freeC x c e),hd⟩
 refine⟨I.ok,I.os,hg,⟨λ b o e n hb hx=>?_,λ b o e n hb hx=>?_,λ b o e n hx=>?_,λ b o e hx=>?_,λ b xs e=>tups b xs (I.base.tups b xs e),λ b o xs e=>frzs b o xs (I.base.frzs b o xs e),λ b ps e=>?_⟩,?_,λ x c e=>?_,?_,λ x c e=>?_,λ p hp=>?_,hok,I.len⟩
 ·exact keep b o (neL b o e) hb (neC b o e hx) (I.base.keep b o e n hb hx) (I.base.free b o e n hx)
 ·obtain⟨sl,e1⟩:=I.base.slot b o e n hb hx;obtain⟨sl',e2⟩:=slot b _ (neL b o e) hb (neC b o e hx) e1 (I.base.free b o e n hx);exact⟨sl',e2⟩
 ·obtain⟨o',e1⟩:=I.base.there b o e hx;exact free b o' (neC b o e hx) e1 (I.base.free b o e n hx)
 ·obtain⟨o',e1⟩:=I.base.there b o e hx;exact there b o' (neC b o e hx) e1
 ·obtain⟨m1,e1⟩:=I.base.tbls b ps e;obtain⟨m2,e2⟩:=tbls b _ e1;exact⟨m1++m2,by rw[e2,Array.append_assoc]⟩
 ·obtain⟨m,hn,hl⟩:=I.loc;refine⟨m,ns m hn,λ i x v e1 e2 e3=>?_⟩;obtain⟨u,r,l⟩:=hl i x v e1 e2 e3;refine⟨u,r,?_⟩;rcases l with l | ⟨k,c,e,z⟩
  ·exact .inl l
  ·exact .inr ⟨k,c,e,cellK x c e _ z⟩
 ·obtain⟨v,z⟩:=I.cell x c e;exact⟨v,cellK x c e v z⟩
 ·obtain⟨m,⟨o,_,_,ho,_⟩,_⟩:=I.loc;exact free _ o (λ z=>(hch _ z).2.1 rfl) ho I.free
 ·obtain⟨v,o,ho,hd⟩:=I.cell x c e;exact free c o (λ z=>(hch c z).2.2.1 x c e rfl) ho (I.freeC x c e)
 ·obtain⟨e,n,ne,nf,d⟩:=I.pin p hp;have nch:p.1 ∉ ch:=λ z=>(hch p.1 z).2.2.2 p hp rfl;exact⟨keep p.1 p.2 ne nf nch e n,free p.1 p.2 nch e n,ne,nf,d⟩
theorem Inv.un{t':Nat}(I:Inv X pins σ H s)(u:Un X.fs [] H H' s.heap h')(hok:HOk X.prog X.w H' h'):Inv X pins σ H' {s with heap:=h',toks:=t'}:=by
 obtain⟨m,⟨o,es,ep,ho,r⟩,_⟩:=id I.loc;obtain⟨sl,hL⟩:=u.any ho I.free (by simp);exact I.step (g':=s.gens) (d':=s.drawn) (ch:=[]) (λ _ z=>nomatch z) (λ b o _ hb _ e n=>u.keep b o e n hb (by simp)) (λ b o _ hb _ e n=>u.slot b o e n hb (by simp)) (λ b o _ e n=>u.free b o e n (by simp)) (λ b o _ e=>u.there b o e (by simp)) u.tups u.frzs u.tbls (λ m' hm=>by obtain⟨o',es',ep',ho',r'⟩:=hm;rw[ho] at ho';cases ho';exact⟨_,es',ep',hL,r'⟩) hok I.bare
theorem Inv.call{g':Array GenState}{t':Nat}{d':Drawn}{ch:List Addr}(I:Inv X pins σ H s)(u:Un (frs X.stack) ch H H' s.heap h')(hok:HOk X.prog X.w H' h')(hg:AllBare g')
  (hch:∀ b∈ch,(b∈X.ex\/X.s₀.heap.objs.size<=b)/\b≠X.env.locals/\(∀ x c,X.env.cells.lookup x=some c->c≠b)/\∀ p∈X.pn++pins,p.1≠b) :
  Inv X pins σ H' {s with heap:=h',gens:=g',drawn:=d',toks:=t'}:=by
 obtain⟨m,⟨o,es,ep,ho,r⟩,_⟩:=id I.loc;obtain⟨sl,hL⟩:=u.any ho I.free λ z=>(hch _ z).2.1 rfl;exact I.step (ch:=ch) hch (λ b o hL hb hc e n=>u.keep b o e n (λ z=>(List.mem_cons.mp (I.mQ b z)).elim hL hb) hc) (λ b o _ _ hc e n=>u.any e n hc) (λ b o hc e n=>u.free b o e n hc) (λ b o hc e=>u.there b o e hc) u.tups u.frzs u.tbls (λ m' hm=>by obtain⟨o',es',ep',ho',r'⟩:=hm;rw[ho] at ho';cases ho';exact⟨_,es',ep',hL,r'⟩) hok hg
theorem Inv.turned{t':Nat}{it:Addr}(I:Inv X pins σ H s)(k:∀ b o,b≠it->s.heap.get? b=some o->h'.get? b=some o)(hn:H it=none)(hL:it≠X.env.locals)
  (h1:it∈X.ex\/X.s₀.heap.objs.size<=it)(h2:∀ x c,X.env.cells.lookup x=some c->c≠it)(h3:∀ p∈X.pn++pins,p.1≠it):Inv X pins σ H {s with heap:=h',toks:=t'}:=by
 have nit:∀ b u,H b=some u->b≠it:=λ b u e z=>by rw[z,hn] at e;cases e
 refine I.step (g':=s.gens) (d':=s.drawn) (ch:=[it]) (λ b hb=>?_) (λ b o _ _ hc e _=>k b o (λ z=>hc (by simp[z])) e) (λ b o _ _ hc e _=>⟨o.slots,k b o (λ z=>hc (by simp[z])) e⟩) (λ _ _ _ _ n=>n)
  (λ b o hc e=>⟨o,k b o (λ z=>hc (by simp[z])) e⟩) (λ _ _ e=>e) (λ _ _ _ e=>e) (λ b ps e=>⟨#[],by rw[e];simp⟩) (λ m hm=>?_) (λ b u e=>?_) I.bare
 ·have e:b=it:=by simpa using hb
  subst e;exact⟨h1,hL,h2,h3⟩
 ·obtain⟨o,es,ep,ho,r⟩:=hm;exact⟨o,es,ep,k _ o (Ne.symm hL) ho,r⟩
 ·refine(I.hok b u e).sx (λ c v hc q=>k c v ?_ q) (λ _ q=>q) λ _ _ q=>q;rcases hc with z | z
  ·rw[z];exact nit b u e
  ·exact nit c _ z
theorem Inv.tok(I:Inv X pins σ H s)(t:Nat):Inv X pins σ H {s with toks:=t}:=I.un (h':=s.heap) (t':=t) Un.refl I.hok
theorem Inv.kept(I:Inv X pins σ H s)(k:∀ b u,s.heap.get? b=some u->h'.get? b=some u):Inv X pins σ H {s with heap:=h',toks:=t'}:=I.un (Un.kept k) (I.hok.kept k)
theorem Inv.laid(I:Inv X pins σ H s)(k:∀ b u,s.heap.get? b=some u->h'.get? b=some u)(hp:s.heap.objs.size<=a)(new:cF X.prog X.w (upd H a o) h' a o) :
  Inv X pins σ (upd H a o) {s with heap:=h',toks:=t'}:=I.un (Un.laid k hp (I.hok.fresh hp)) (I.hok.laid k hp new)
theorem Inv.write(I:Inv X pins σ H s)(mu:Mut (H x))(he:e=x\/H e=some (.own x))(k:∀ b u,b≠e->s.heap.get? b=some u->h'.get? b=some u)(heo:∃ u,h'.get? e=some u)
  (new:cF X.prog X.w (upd H x o) h' x o):Inv X pins σ (upd H x o) {s with heap:=h',toks:=t'}:=I.un (Un.write mu he k heo) (I.hok.write mu he k heo new)
theorem Inv.iY(I:Inv X pins σ H s)(h:∀ p∈pins',s.heap.get? p.1=some p.2/\H p.1=none/\p.1≠X.env.locals/\p.1 ∉ X.fs/\∀ v,p.2.data ≠ .cell v):Inv X pins' σ H s:=
 ⟨I.ok,I.os,I.bare,I.base,I.loc,I.cell,I.free,I.freeC,λ p hp=>(List.mem_append.mp hp).elim (λ z=>I.pin p (List.mem_append_left _ z)) (h p),I.hok,I.len⟩
theorem uy{N:List Str}(hN:N.Nodup){i j:Nat}(a:N[i]? =some x)(b:N[j]? =some x):i=j:=by obtain⟨h1,e1⟩:=List.getElem?_eq_some_iff.mp a;obtain⟨h2,e2⟩:=List.getElem?_eq_some_iff.mp b;exact(List.getElem_inj hN).mp (e1.trans e2.symm)
theorem zw(I:Inv X pins σ H s)(hN:X.N.Nodup)(hi:X.N[i]? =some x)(hx:Loc X.env.scope x)(r:RelV v u)
  (h:∀ s',Inv X pins (σ.set i (some v)) H s'->(∃ a,Heap.SameBut a s.heap s'.heap/\(a=X.env.locals\/X.env.cells.lookup x=some a))->Q () s')(hf:X.fn x=true\/X.env.scope.names.lookup x=some .local:=by first | exact .inl rfl | exact .inr rfl | assumption):wpAny M A (storeName X.env x u) Q E s:=by
 obtain⟨m,hn,hl⟩:=id I.loc;have hcls:(X.env.scope.kind==.class || (X.env.scope.kind==.module&&X.env.locals != X.env.globals))=false:=by rw[I.ok.kind];rfl
 have hiσ:i<σ.length:=by rw[I.len];exact(List.getElem?_eq_some_iff.mp hi).1
 have cne:=I.cne;have tracked:∀ {a:Addr} {h':Heap},(∃ o,s.heap.get? a=some o/\H a=none)->Heap.SameBut a s.heap h'->HOk X.prog X.w H h':=λ {a h'} ha hs b ob e=>by
  obtain⟨_,_,hfree⟩:=ha;refine(I.hok b ob e).sx (λ c w' hc q=>(hs.2 c ?_).trans q) (λ _ q=>q) λ _ _ q=>q;rintro rfl;rcases hc with rfl | hc
  ·rw[hfree] at e;cases e
  ·rw[hfree] at hc;cases hc
 rcases hx with hk | hk
 ·refine wpAny_storeName_local hk hn (λ h' hn' hs=>?_) hcls;obtain⟨oL,_,_,hoL,_⟩:=id hn;refine h _ ⟨I.ok,I.os,I.bare,⟨λ b o e n hb hx=>?_,λ b o e n hb hx=>?_,I.base.free,λ b o e hx=>?_,I.base.tups,I.base.frzs,I.base.tbls⟩,⟨_,hn',λ j y v' e1 e2 e3=>?_⟩,λ y c e=>?_,I.free,I.freeC,λ p hp=>?_,tracked ⟨oL,hoL,I.free⟩ hs,by simpa using I.len⟩ ⟨_,hs,.inl rfl⟩
  ·exact(hs.2 b (Nat.ne_of_lt (Nat.lt_of_lt_of_le (Heap.lt_size e) I.ok.above))).trans (I.base.keep b o e n hb hx)
  ·obtain⟨sl,e1⟩:=I.base.slot b o e n hb hx;exact⟨sl,(hs.2 b (Nat.ne_of_lt (Nat.lt_of_lt_of_le (Heap.lt_size e) I.ok.above))).trans e1⟩
  ·obtain⟨o',e1⟩:=I.base.there b o e hx;exact⟨o',(hs.2 b (Nat.ne_of_lt (Nat.lt_of_lt_of_le (Heap.lt_size e) I.ok.above))).trans e1⟩
  ·by_cases hj:j=i
   ·subst hj;rw[hi] at e1;cases e1;rw[List.getElem?_set_self hiσ] at e2;cases e2;exact⟨u,r,.inl ⟨hk,by simp⟩⟩
   ·rw[List.getElem?_set_ne (Ne.symm hj)] at e2;obtain⟨u',r',q⟩:=hl j y v' e1 e2 e3;refine⟨u',r',?_⟩;rcases q with ⟨k,e⟩ | ⟨k,c,e,z⟩
    ·refine .inl ⟨k,?_⟩;have:y≠x:=λ e=>hj (uy hN e1 (e ▸ hi));simp[this,e]
    ·exact .inr ⟨k,c,e,z.sameBut hs (cne y c e)⟩
  ·obtain⟨w',z⟩:=I.cell y c e;exact⟨w',z.sameBut hs (cne y c e)⟩
  ·obtain⟨e,n,ne,nf,d⟩:=I.pin p hp;exact⟨(hs.2 p.1 ne).trans e,n,ne,nf,d⟩
 ·have hfn:X.fn x=true:=by
   rcases hf with z | z
   ·exact z
   ·rw[z] at hk;cases hk
  obtain⟨c,hc⟩:=I.ok.has x (.inl hk);obtain⟨w',z⟩:=I.cell x c hc;refine wpAny_storeName_cell I.ok.kind hk hc z (λ h' hc' hs=>?_);obtain⟨oc,hoc,hocd⟩:=id z;refine h {s with heap:=h'} ⟨I.ok,I.os,I.bare,⟨λ b o e n hb hx=>?_,λ b o e n hb hx=>?_,I.base.free,λ b o e hx=>?_,I.base.tups,I.base.frzs,I.base.tbls⟩,⟨m,hn.sameBut hs (Ne.symm (cne x c hc)),λ j y v' e1 e2 e3=>?_⟩,λ y c' e=>?_,I.free,I.freeC,λ p hp=>?_,tracked ⟨oc,hoc,I.freeC x c hc⟩ hs,by simpa using I.len⟩ ⟨c,hs,.inr hc⟩
  ·exact(hs.2 b (Nat.ne_of_lt (Nat.lt_of_lt_of_le (Heap.lt_size e) (I.ok.cab x c hfn hc)))).trans (I.base.keep b o e n hb hx)
  ·obtain⟨sl,e1⟩:=I.base.slot b o e n hb hx;exact⟨sl,(hs.2 b (Nat.ne_of_lt (Nat.lt_of_lt_of_le (Heap.lt_size e) (I.ok.cab x c hfn hc)))).trans e1⟩
  ·obtain⟨o',e1⟩:=I.base.there b o e hx;exact⟨o',(hs.2 b (Nat.ne_of_lt (Nat.lt_of_lt_of_le (Heap.lt_size e) (I.ok.cab x c hfn hc)))).trans e1⟩
  ·by_cases hj:j=i
   ·subst hj;rw[hi] at e1;cases e1;rw[List.getElem?_set_self hiσ] at e2;cases e2;exact⟨u,r,.inr ⟨.inl hk,c,hc,hc'⟩⟩
   ·rw[List.getElem?_set_ne (Ne.symm hj)] at e2;obtain⟨u',r',q⟩:=hl j y v' e1 e2 e3;refine⟨u',r',?_⟩;rcases q with q | ⟨k,c',e,z'⟩
    ·exact .inl q
    ·refine .inr ⟨k,c',e,z'.sameBut hs ?_⟩;rintro rfl;exact hj (uy hN e1 (I.ok.inj _ _ _ e hc ▸ hi))
  ·by_cases hcc:c'=c
   ·subst hcc;exact⟨_,hc'⟩
   ·obtain⟨w2,z2⟩:=I.cell y c' e;exact⟨w2,z2.sameBut hs hcc⟩
  ·obtain⟨e,n,ne,nf,d⟩:=I.pin p hp;refine⟨(hs.2 p.1 ?_).trans e,n,ne,nf,d⟩;intro q;rw[q,hoc] at e;have q':oc=p.2:=Option.some.inj e;exact d w' (by rw[<- q'];exact hocd)
theorem nD(I:Inv X pins σ H s)(hN:X.N.Nodup)(hi:X.N[i]? =some x)(hx:Loc X.env.scope x)(r:RelV v u)
  (h:∀ s',Inv X pins (σ.set i (some v)) H s'->Q () s')(hf:X.fn x=true\/X.env.scope.names.lookup x=some .local:=by first | exact .inl rfl | exact .inr rfl | assumption):wpAny M A (storeName X.env x u) Q E s:=
 zw I hN hi hx r (λ s' I' _=>h s' I') hf
theorem Inv.afx(I:Inv X pins σ H s)(ho:s'.os=s.os)(u:Un (frs X.stack) ch H H' s.heap s'.heap)(hok:HOk X.prog X.w H' s'.heap)(hg:AllBare s'.gens)
  (hch:∀ b∈ch,(b∈X.ex\/X.s₀.heap.objs.size<=b)/\b≠X.env.locals/\(∀ x c,X.env.cells.lookup x=some c->c≠b)/\∀ p∈X.pn++pins,p.1≠b):Inv X pins σ H' s':=by
 obtain⟨h',g',d',t',o'⟩:=s';have e:o'=s.os:=ho;subst e;exact I.call (g':=g') (t':=t') (d':=d') u hok hg hch
end
abbrev XK:=Value->Option Addr->Hp->Prop
abbrev St:=List (Option V)
abbrev VK:=V->Hp->Prop
abbrev TE:=St->Hp->VK->Prop
abbrev TT:=St->Hp->(Bool->Hp->Prop)->Prop
abbrev TA:=St->Hp->(List V->Hp->Prop)->Prop
structure Ends where
 nx:St->Hp->Prop
 rt:VK
 bk:St->Hp->Prop:=λ _ _=>False
 ct:St->Hp->Prop:=λ _ _=>False
abbrev TS:=Ends->St->Hp->Prop
def EP(X:Cx)(pins:PN)(σ:St)(Q:VK)(u:Value)(s':Shared):Prop:=∃ v H',Inv X pins σ H' s'/\RelV v u/\Q v H'
def TP(X:Cx)(pins:PN)(σ:St)(Q:Bool->Hp->Prop)(b:Bool)(s':Shared):Prop:=∃ H',Inv X pins σ H' s'/\Q b H'
def AP(X:Cx)(pins:PN)(σ:St)(Q:List V->Hp->Prop)(us:List Value)(s':Shared):Prop:=∃ vs H',Inv X pins σ H' s'/\Vals vs us/\Q vs H'
def SP(X:Cx)(pins:PN)(D:Ends)(f:Flow)(s':Shared):Prop:=
 match f with
 | .next=>∃ σ' H',Inv X pins σ' H' s'/\D.nx σ' H'
 | .brk=>∃ σ' H',Inv X pins σ' H' s'/\D.bk σ' H'
 | .cont=>∃ σ' H',Inv X pins σ' H' s'/\D.ct σ' H'
 | .ret u=>∃ v σ' H',Inv X pins σ' H' s'/\RelV v u/\D.rt v H'
def PE(X:Cx)(e:Expr)(t:TE):Prop:=
 ∀ (pins:PN) (s:Shared) (σ:St) (H:Hp) (Q:VK),Inv X pins σ H s->t σ H Q->wpAny (model X.prog X.w) X.A (eval e X.env) (EP X pins σ Q) X.xe s
def PT(X:Cx)(e:Expr)(t:TT):Prop:=
 ∀ (pins:PN) (s:Shared) (σ:St) (H:Hp) (Q:Bool->Hp->Prop),Inv X pins σ H s->t σ H Q->wpAny (model X.prog X.w) X.A (isTrue e X.env (eval e X.env)) (TP X pins σ Q) X.xe s
def PW(X:Cx)(e:Expr)(t:TT):Prop:=
 ∀ (whole:Sem Value) (pins:PN) (s:Shared) (σ:St) (H:Hp) (Q:Bool->Hp->Prop),Inv X pins σ H s->t σ H Q->wpAny (model X.prog X.w) X.A (isTrue e X.env whole) (TP X pins σ Q) X.xe s
theorem PW.pt(h:PW X e t):PT X e t:=h _
def PA(X:Cx)(es:List Expr)(t:TA):Prop:=
 ∀ (pos:Pos) (pins:PN) (s:Shared) (σ:St) (H:Hp) (Q:List V->Hp->Prop),Inv X pins σ H s->t σ H Q->wpAny (model X.prog X.w) X.A (spliced (backTo pos (starEach es X.env))) (AP X pins σ Q) X.xe s
def PS(X:Cx)(st:Stmt)(t:TS):Prop:=
 ∀ (pins:PN) (s:Shared) (σ:St) (H:Hp) (D:Ends),Inv X pins σ H s->t D σ H->wpAny (model X.prog X.w) X.A (exec st X.env) (SP X pins D) X.xe s
def PSs(X:Cx)(st:List Stmt)(t:TS):Prop:=
 ∀ (pins:PN) (s:Shared) (σ:St) (H:Hp) (D:Ends),Inv X pins σ H s->t D σ H->wpAny (model X.prog X.w) X.A (execs st X.env) (SP X pins D) X.xe s
theorem thn(h:wpAny M A t Q E s)(hQ:∀ a s,Q a s->Q' a s):wpAny M A t Q' E s:=wpAny_mono h hQ λ _ _ x=>x
section
variable {X:Cx}
def ajg(i:Nat):TE:=λ σ H Q=>∃ v,σ[i]? =some (some v)/\Q v H
def tC(v:V):TE:=λ _ H Q=>Q v H
theorem xX(hN:X.N[i]? =some x)(hv:Vis X.env.scope x)(hd:ND x:=by decide)(hcd:(x==("__classdict__" : Str))=false:=by decide):PE X (.Name x pos) (ajg i):=by
 intro pins s σ H Q I h;obtain⟨v,e,h⟩:=h;obtain⟨m,hn,hl⟩:=I.loc;obtain⟨u,r,l⟩:=hl i x v hN e hv;have fin:EP X pins σ Q u s:=⟨v,H,I,r,h⟩;rcases l with ⟨hk,hm⟩ | ⟨hk,c,hc,hcell⟩
 ·exact wpAny_Name (wpAny_loadName_local I.ok.kind hk hn hm fin) hd
 ·rcases hk with hk | hk
  ·exact wpAny_Name (wpAny_loadName_cell I.ok.kind hk hc hcell fin) hd
  ·exact wpAny_Name (wpAny_loadName_free I.ok.kind hk hc hcell fin hcd) hd
theorem aga{i j pos}:PE X (.Constant (.int i) j pos) (tC (.int i)):=λ _ _ _ H _ I h=>wpAny_Constant_int ⟨.int i,H,I.tok _,⟨_,rfl⟩,h⟩
theorem ai8{b j pos}:PE X (.Constant (.bool b) j pos) (tC (.bl b)):=λ _ _ _ H _ I h=>Constant_bool ⟨.bl b,H,I,rfl,h⟩
theorem agq{j pos}:PE X (.Constant .none j pos) (tC .non):=λ _ _ _ H _ I h=>Constant_none ⟨.non,H,I,rfl,h⟩
theorem afK{x j pos}:PE X (.Constant (.str x) j pos) (tC (.str x)):=λ _ _ _ H _ I h=>Calls.Constant_str ⟨.str x,H,I.tok _,⟨_,rfl⟩,h⟩
def Gl(X:Cx)(x:Str):Prop:=X.env.kindOf x=some .globalImplicit
theorem gi(I:Inv X pins σ H s)(hg:Gl X x)(hm:X.mg x=some u)(h:Q u s)
  (hd:ND x:=by decide):wpAny (model X.prog X.w) X.A (eval (.Name x pos) X.env) Q E s:=
 Calls.Name_function_global I.ok.kind hg (Calls.loadGlobal_global (by rw[I.ok.glob];exact I.mod.glob.keeps I.bk) hm h) hd
theorem lE(I:Inv X pins σ H s)(hg:Gl X x)(hm:X.mg x=none)(hv:bootBuiltins x=some u)(h:Q u s)
  (hn:x ≠ "__name__":= by decide)(hd:ND x:=by decide):wpAny (model X.prog X.w) X.A (eval (.Name x pos) X.env) Q E s:=by
 obtain⟨mb,h1,h2⟩:=I.mod.blt;exact Calls.Name_function_global I.ok.kind hg (Calls.loadGlobal_builtin (by rw[I.ok.glob];exact I.mod.glob.keeps I.bk) hm (by rw[I.ok.blt];exact h1.keeps I.bk) ((h2 x hn).trans hv) h) hd
theorem fI(hg:Gl X x)(hm:X.mg x=some u)(r:RelV v u)(hd:ND x:=by decide):PE X (.Name x pos) (tC v):=
 λ _ _ _ H _ I h=>gi I hg hm ⟨v,H,I,r,h⟩ hd
theorem zW{x:Str}{v:V}{u:Value}{pos:Pos}(hg:Gl X x)(hm:X.mg x=none)(hv:bootBuiltins x=some u)(r:RelV v u)(hn:x ≠ "__name__":= by decide)(hd:ND x:=by decide):PE X (.Name x pos) (tC v):=
 λ _ _ _ H _ I h=>lE I hg hm hv ⟨v,H,I,r,h⟩ hn hd
variable {a b:Expr}{ta tb:TE}{pos:Pos}
def PC(X:Cx)(op:CmpOp)(a b:Expr)(t:TE):Prop:=
 ∀ (pins:PN) (s:Shared) (σ:St) (H:Hp) (Q:VK),Inv X pins σ H s->t σ H Q ->
  wpAny (model X.prog X.w) X.A (eval a X.env) (λ v s₁=>wpAny (model X.prog X.w) X.A (eval b X.env) (λ u s₂=>wpAny (model X.prog X.w) X.A (compareOp op v u) (EP X pins σ Q) X.xe s₂) X.xe s₁) X.xe s
theorem hB(b:Expr)(h:op ≠ .In)(h2:op ≠ .NotIn):behindInMarks op b=false:=by
 have e1:(op==CmpOp.In)=false:=by cases op<;>first | rfl | exact absurd rfl h
 have e2:(op==CmpOp.NotIn)=false:=by cases op<;>first | rfl | exact absurd rfl h2
 cases b<;>simp[behindInMarks,e1,e2]
def tB(t:TE):TT:=λ σ H Q=>t σ H λ x H1=>∃ c,x=.bl c/\Q c H1
theorem ahe(h:PC X op a b t)(h1:behindInMarks op b=false:=by first | exact hB _ (by decide) (by decide) | rfl):PT X (.Compare a [op] [b] pos) (tB t):=by intro pins s σ H Q I hw;refine wpAny_isTrue_Compare1 (thn (h pins s σ H _ I hw) λ v s1 h1=>thn h1 λ u s2 h2=>thn h2 λ c s3 ⟨x,H1,I1,r1,q1⟩=>?_) h1;obtain⟨d,rfl,q⟩:=q1;cases r1;exact wpAny_truthy_bool ⟨H1,I1,q⟩
theorem afo(h:PE X e t)(he:∀ whole,isTrue e X.env whole=(do let v <- whole;standAt e.pos;holding [v] (truthy v)):=by intro _;rfl):PT X e (tB t):=by intro pins s σ H Q I hw;refine isTrue_plain (thn (h pins s σ H _ I hw) λ v s1 ⟨x,H1,I1,r1,q1⟩=>?_) (he _);obtain⟨d,rfl,q⟩:=q1;cases r1;exact wpAny_truthy_bool ⟨H1,I1,q⟩
variable {tA tB':TT}{rest:List Expr}
def aj8(t u:TT):TT:=λ σ H Q=>t σ H λ c H1=>if c=true then u σ H1 Q else Q false H1
def tOr(t u:TT):TT:=λ σ H Q=>t σ H λ c H1=>if c=true then Q true H1 else u σ H1 Q
def akc(t:TT):TT:=λ σ H Q=>t σ H λ c H1=>Q (!c) H1
theorem pw_and1(ha:PT X a tA):PW X (.BoolOp .And [a] pos) tA:=by
 intro wh pins s σ H Q I h;refine isTrue_and (thn (ha pins s σ H Q I h) λ c s1 e=>?_);cases c with
 | true=>exact isTrue_and_nil e
 | false=>exact e
theorem pw_or1(ha:PT X a tA):PW X (.BoolOp .Or [a] pos) tA:=by
 intro wh pins s σ H Q I h;refine isTrue_or (thn (ha pins s σ H Q I h) λ c s1 e=>?_);cases c with
 | false=>exact isTrue_or_nil e
 | true=>exact e
theorem pw_and(ha:PT X a tA)(hb:PW X (.BoolOp .And (b::rest) pos) tB'):PW X (.BoolOp .And (a::b::rest) pos) (aj8 tA tB'):=by
 intro wh pins s σ H Q I h;refine isTrue_and (thn (ha pins s σ H _ I h) λ c s1 hq1=>?_);obtain⟨H1,I1,q1⟩:=hq1;cases c with
 | true=>exact hb wh pins s1 σ H1 Q I1 q1
 | false=>exact⟨H1,I1,q1⟩
theorem pw_or(ha:PT X a tA)(hb:PW X (.BoolOp .Or (b::rest) pos) tB'):PW X (.BoolOp .Or (a::b::rest) pos) (tOr tA tB'):=by
 intro wh pins s σ H Q I h;refine isTrue_or (thn (ha pins s σ H _ I h) λ c s1 hq2=>?_);obtain⟨H1,I1,q1⟩:=hq2;cases c with
 | true=>exact⟨H1,I1,q1⟩
 | false=>exact hb wh pins s1 σ H1 Q I1 q1
theorem afh(ha:PT X a tA):PT X (.UnaryOp .Not a pos) (akc tA):=by intro pins s σ H Q I h;exact isTrue_not (ha pins s σ H (λ c H1=>Q (!c) H1) I h)
def aiO(ta tb:TE):TE:=λ σ H Q=>ta σ H λ x H1=>∃ c,x=.bl c/\if c=true then tb σ H1 Q else Q (.bl false) H1
def ajI(ta tb:TE):TE:=λ σ H Q=>ta σ H λ x H1=>∃ c,x=.bl c/\if c=true then Q (.bl true) H1 else tb σ H1 Q
def ahZ(ta:TE):TE:=λ σ H Q=>ta σ H λ x H1=>∃ c,x=.bl c/\Q (.bl (!c)) H1
theorem ahm{op}(h:PE X a t):PE X (.BoolOp op [a] pos) t:=λ pins s σ H Q I hw=>BoolOp_one (h pins s σ H Q I hw)
theorem afI(ha:PE X a ta)(hb:PE X (.BoolOp .And (b::rest) pos) tb):PE X (.BoolOp .And (a::b::rest) pos) (aiO ta tb):=by
 intro pins s σ H Q I h;refine BoolOp_and (thn (ha pins s σ H _ I h) λ v s1 hq3=>?_);obtain⟨x,H1,I1,r1,q1⟩:=hq3;obtain⟨c,rfl,q1⟩:=q1;cases r1;refine wpAny_truthy_bool ?_;cases c with
 | true=>exact hb pins s1 σ H1 Q I1 q1
 | false=>exact⟨.bl false,H1,I1,rfl,q1⟩
theorem aiQ(ha:PE X a ta)(hb:PE X (.BoolOp .Or (b::rest) pos) tb):PE X (.BoolOp .Or (a::b::rest) pos) (ajI ta tb):=by
 intro pins s σ H Q I h;refine BoolOp_or (thn (ha pins s σ H _ I h) λ v s1 hq4=>?_);obtain⟨x,H1,I1,r1,q1⟩:=hq4;obtain⟨c,rfl,q1⟩:=q1;cases r1;refine wpAny_truthy_bool ?_;cases c with
 | false=>exact hb pins s1 σ H1 Q I1 q1
 | true=>exact⟨.bl true,H1,I1,rfl,q1⟩
theorem agD(ha:PE X a ta):PE X (.UnaryOp .Not a pos) (ahZ ta):=by intro pins s σ H Q I h;refine UnaryOp_ (thn (ha pins s σ H _ I h) λ v s1 hq5=>?_);obtain⟨x,H1,I1,r1,q1⟩:=hq5;obtain⟨c,rfl,q1⟩:=q1;cases r1;exact not_of (wpAny_truthy_bool ⟨.bl (!c),H1,I1,rfl,q1⟩)
def tIf(t:TT)(ta tb:TE):TE:=λ σ H Q=>t σ H λ c H1=>if c=true then ta σ H1 Q else tb σ H1 Q
theorem abz(hc:PT X c tA)(ha:PE X a ta)(hb:PE X b tb):PE X (.IfExp c a b pos) (tIf tA ta tb):=by
 intro pins s σ H Q I h;refine wpAny_IfExp (thn (hc pins s σ H _ I h) λ d s1 hq6=>?_);obtain⟨H1,I1,q1⟩:=hq6;cases d with
 | true=>exact ha pins s1 σ H1 Q I1 q1
 | false=>exact hb pins s1 σ H1 Q I1 q1
end
def SqL(K:FG)(H:Hp)(a:Addr)(xs:List V):Prop:=
 Rd H a (.lst xs) \/
  ∃ (o:Obj) (its:Array Value) (n:Nat),K.lookup a=some o/\o.cls=.type "list" /\ o.dict=none/\o.data=.seq its n/\its.size<=sizeLine/\Vals xs its.toList
def SqT(K:FG)(H:Hp)(a:Addr)(xs:List V):Prop:=
 Rd H a (.tup xs) \/
  ∃ (o:Obj) (its:Array Value) (n:Nat),K.lookup a=some o/\o.cls=.type "tuple" /\ o.dict=none/\o.data=.seq its n/\its.size<=sizeLine/\Vals xs its.toList
def akd:Value->Option V
 | .none=>some .non
 | .bool b=>some (.bl b)
 | .int i _=>some (.int i)
 | .str x _=>some (.str x)
 | .bytes b _=>some (.byt b)
 | .float b _=>some (.flt b)
 | .ref a=>some (.ref a)
 | .type n=>some (.ty n)
 | _=>none
theorem RelV.abs(r:RelV x u):akd u=some x:=by
 cases x with
 | non=>cases r;rfl
 | bl _=>cases r;rfl
 | int _=>obtain⟨t,rfl⟩:=r;rfl
 | str _=>obtain⟨t,rfl⟩:=r;rfl
 | byt _=>obtain⟨t,rfl⟩:=r;rfl
 | flt _=>obtain⟨t,rfl⟩:=r;rfl
 | ref _=>cases r;rfl
 | ty _=>cases r;rfl
theorem RelV.inj(r:RelV x u)(q:RelV y u):x=y:=Option.some.inj (r.abs.symm.trans q.abs)
theorem Vals.inj:∀ {xs ys:List V} {us:List Value},Vals xs us->Vals ys us->xs=ys
 | _,_,_,.nil,.nil=>rfl
 | _,_,_,.cons r t,.cons r' t'=>by rw[r.inj r',Vals.inj t t']
theorem SqL.of{K:FG}(h:H a=some (.lst xs)):SqL K H a xs:=.inl (.inl h)
theorem Inv.list(I:Inv X pins σ H s)(h:SqL X.K H a xs):∃ its:List Value,Vals xs its/\PlainL s.heap a its.toArray/\xs.length<=sizeLine:=by
 rcases h with h | ⟨o,its,n,hk,hc,hd,hs,hz,r⟩
 ·obtain⟨z,its,n,r,e⟩:=h.ok I.hok;exact⟨its,r,⟨_,n,e,rfl,rfl,rfl⟩,z⟩
 ·refine⟨its.toList,r,⟨o,n,I.kIn a o hk,hc,hd,by simpa using hs⟩,?_⟩;have e:=r.length;simp only[Array.length_toList] at e;omega
theorem Inv.ajy(I:Inv X pins σ H s)(h:SqT X.K H a xs):∃ its:List Value,Vals xs its/\abl s.heap a its.toArray/\xs.length<=sizeLine:=by
 rcases h with h | ⟨o,its,n,hk,hc,hd,hs,hz,r⟩
 ·obtain⟨z,its,r,p⟩:=h.ok I.hok;exact⟨its,r,p,z⟩
 ·refine⟨its.toList,r,⟨o,I.kIn a o hk,hc,hd,n,by simpa using hs⟩,?_⟩;have e:=r.length;simp only[Array.length_toList] at e;omega
theorem Inv.tuple(I:Inv X pins σ H s)(h:SqT X.K H a xs):∃ its:List Value,Vals xs its/\IsTup s.heap a its.toArray/\xs.length<=sizeLine:=by obtain⟨its,r,p,z⟩:=I.ajy h;exact⟨its,r,p.tup,z⟩
theorem Inv.uC(I:Inv X pins σ H s)(h:SqL X.K H a xs)(h':SqL X.K H a ys):xs=ys:=by
 obtain⟨its,r,⟨o,n,e,_,_,d⟩,_⟩:=I.list h;obtain⟨its',r',⟨o',n',e',_,_,d'⟩,_⟩:=I.list h';rw[e] at e';cases e';rw[d] at d'
 injection d' with d1 _
 have:its=its':=by simpa using congrArg Array.toList d1
 subst this;exact r.inj r'
theorem Inv.qt(I:Inv X pins σ H s)(h:SqT X.K H a xs)(h':SqT X.K H a ys):xs=ys:=by
 obtain⟨its,r,⟨o,e,_,n,d⟩,_⟩:=I.tuple h;obtain⟨its',r',⟨o',e',_,n',d'⟩,_⟩:=I.tuple h';rw[e] at e';cases e';rw[d] at d'
 injection d' with d1 _
 have:its=its':=by simpa using congrArg Array.toList d1
 subst this;exact r.inj r'
abbrev Cx.aab(X:Cx)(E:VP):Cx:={X with xe:=E}
abbrev Cx.nox(X:Cx):Cx:=X.aab λ _ _=>False
theorem Cx.Ok.aab{X:Cx}(ok:X.Ok)(E:VP):(X.aab E).Ok:=
 ⟨ok.mod,ok.kind,ok.glob,ok.blt,ok.above,ok.inj,ok.has,ok.cab,ok.hd,ok.frames,ok.stk,ok.exf,ok.bs,ok.bsz,ok.noex,ok.exfs,ok.oF,ok.frf⟩
theorem Cx.Ok.jm{X:Cx}{E:VP}(ok:(X.aab E).Ok):X.Ok:=
 ⟨ok.mod,ok.kind,ok.glob,ok.blt,ok.above,ok.inj,ok.has,ok.cab,ok.hd,ok.frames,ok.stk,ok.exf,ok.bs,ok.bsz,ok.noex,ok.exfs,ok.oF,ok.frf⟩
theorem Inv.aab(I:Inv X pins σ H s)(E:VP):Inv (X.aab E) pins σ H s:=⟨I.ok.aab E,I.os,I.bare,I.base,I.loc,I.cell,I.free,I.freeC,I.pin,I.hok,I.len⟩
theorem Inv.jm(I:Inv (X.aab E) pins σ H s):Inv X pins σ H s:=⟨I.ok.jm,I.os,I.bare,I.base,I.loc,I.cell,I.free,I.freeC,I.pin,I.hok,I.len⟩
theorem SP.jm(h:SP (X.aab E) pins D f s'):SP X pins D f s':=by
 cases f with
 | next=>obtain⟨σ',H',I,q⟩:=h;exact⟨σ',H',I.jm,q⟩
 | brk=>obtain⟨σ',H',I,q⟩:=h;exact⟨σ',H',I.jm,q⟩
 | cont=>obtain⟨σ',H',I,q⟩:=h;exact⟨σ',H',I.jm,q⟩
 | ret u=>obtain⟨v,σ',H',I,r,q⟩:=h;exact⟨v,σ',H',I.jm,r,q⟩
theorem PSs.nox{st:List Stmt}{t:TS}(h:PSs X.nox st t):PSs X st t:=λ pins s σ H D I hw =>
 wpAny_mono (h pins s σ H D (I.aab _) hw) (λ _ _ q=>q.jm) λ _ _ z=>False.elim z
section
variable {X:Cx}{st:Stmt}{rest:List Stmt}{t u:TS}{e:Expr}{te:TE}{pos:Pos}
def aio:TS:=λ D σ H=>D.nx σ H
def aj0(t u:TS):TS:=λ D σ H=>t {D with nx:=u D} σ H
theorem adN:PSs X [] aio:=λ _ _ σ H _ I h=>wpAny_execs_nil ⟨σ,H,I,h⟩
theorem aat(h1:PS X st t)(h2:PSs X rest u):PSs X (st::rest) (aj0 t u):=by
 intro pins s σ H D I h;refine wpAny_execs_cons (thn (h1 pins s σ H {D with nx:=u D} I h) λ f s1 q=>?_);cases f with
 | next =>
  obtain⟨σ',H',I',q⟩:=q;exact h2 pins s1 σ' H' D I' q
 | ret v=>exact q
 | brk=>exact q
 | cont=>exact q
theorem zO(h1:PS X st t):PSs X [st] t:=by
 intro pins s σ H D I h;refine wpAny_execs_cons (thn (h1 pins s σ H D I h) λ f s1 q=>?_);cases f with
 | next=>exact wpAny_execs_nil q
 | ret v=>exact q
 | brk=>exact q
 | cont=>exact q
theorem Inv.quiet(I:Inv X pins σ H s):interactive X.env=false:=by simp[interactive,I.ok.kind]
def ai6(te:TE):TS:=λ D σ H=>te σ H λ _ H1=>D.nx σ H1
theorem adG(he:PE X e te)(hs:swapsWith e none pos.line X.env=pure false:=by rfl):PS X (.Expr e pos) (ai6 te):=by intro pins s σ H D I h;exact wpAny_Expr_any (thn (he pins s σ H _ I h) λ v s1 ⟨x,H1,I1,r1,q1⟩=>⟨σ,H1,I1,q1⟩) I.quiet hs
def ajW(te:TE):TS:=λ D σ H=>te σ H D.rt
theorem afz(he:PE X e te):PS X (.Return (some e) pos) (ajW te):=by intro pins s σ H D I h;exact wpAny_Return_some (thn (he pins s σ H _ I h) λ v s1 ⟨x,H1,I1,r1,q1⟩=>⟨x,σ,H1,I1,r1,q1⟩)
def ajU(c:TT)(t u:TS):TS:=λ D σ H=>c σ H λ b H1=>if b=true then t D σ H1 else u D σ H1
theorem aid(hc:PT X c tc)(ha:PSs X a t)(hb:PSs X b u):PS X (.If c a b pos) (ajU tc t u):=by
 intro pins s σ H D I h;refine wpAny_If (thn (hc pins s σ H _ I h) λ d s1 hq7=>?_);obtain⟨H1,I1,q1⟩:=hq7;cases d with
 | true=>exact ha pins s1 σ H1 D I1 q1
 | false=>exact hb pins s1 σ H1 D I1 q1
end
abbrev TG:=V->St->Hp->(St->Hp->Prop)->Prop
abbrev TGs:=List V->St->Hp->(St->Hp->Prop)->Prop
def PG(X:Cx)(target:Expr)(t:TG):Prop:=
 ∀ (pins:PN) (s:Shared) (σ:St) (H:Hp) (v:V) (u:Value) (Q:St->Hp->Prop),Inv X pins σ H s->RelV v u->t v σ H Q ->
  wpAny (model X.prog X.w) X.A (assign target X.env u) (λ _ s'=>∃ σ' H',Inv X pins σ' H' s'/\Q σ' H') X.xe s
def PGs(X:Cx)(ts:List Expr)(t:TGs):Prop:=
 ∀ (pins:PN) (s:Shared) (σ:St) (H:Hp) (vs:List V) (us:List Value) (Q:St->Hp->Prop),Inv X pins σ H s->Vals vs us->t vs σ H Q ->
  wpAny (model X.prog X.w) X.A (assignInOrder ((assignEach ts X.env).map (·.2)) us) (λ _ s'=>∃ σ' H',Inv X pins σ' H' s'/\Q σ' H') X.xe s
abbrev ai0:=V->V->V->Hp->(Hp->Prop)->Prop
def ahU(X:Cx)(t:ai0):Prop:=
 ∀ (pins:PN) (s:Shared) (σ:St) (H:Hp) (o i v:V) (ov iv u:Value) (Q:Hp->Prop),Inv X pins σ H s->RelV o ov->RelV i iv->RelV v u->t o i v H Q ->
  wpAny (model X.prog X.w) X.A (setItem ov iv u) (λ _ s'=>∃ H',Inv X pins σ H' s'/\Q H') X.xe s
abbrev TIp:=V->V->Hp->VK->Prop
def PIp(X:Cx)(op:Operator)(t:TIp):Prop:=
 ∀ (pins:PN) (s:Shared) (σ:St) (H:Hp) (x y:V) (v u:Value) (Q:VK),Inv X pins σ H s->RelV x v->RelV y u->t x y H Q ->
  wpAny (model X.prog X.w) X.A (inplaceOp op v u) (EP X pins σ Q) X.xe s
def adD(i:Nat):TG:=λ v σ H Q=>Q (σ.set i (some v)) H
theorem wO(hN:X.N.Nodup)(hi:X.N[i]? =some x)(hx:Loc X.env.scope x)(hf:X.fn x=true\/X.env.scope.names.lookup x=some .local:=by first | exact .inl rfl | exact .inr rfl | assumption):PG X (.Name x pos) (adD i):=by intro pins s σ H v u Q I r h;exact wpAny_assign_Name (nD I hN hi hx r (λ s' I'=>⟨_,H,I',h⟩) hf)
def aka:TGs:=λ vs σ H Q=>vs=[]/\Q σ H
def aiF(t:TG)(u:TGs):TGs:=λ vs σ H Q=>∃ v r,vs=v::r/\t v σ H λ σ' H'=>u r σ' H' Q
theorem aeJ:PGs X [] aka:=by intro pins s σ H vs us Q I r h;obtain⟨e,h⟩:=h;subst e;cases r;exact assignInOrder_nil ⟨σ,H,I,h⟩
theorem abA(h1:PG X e t)(h2:PGs X es u)
  (hs:(assignEach (e::es) X.env).map (·.2)=assign e X.env::(assignEach es X.env).map (·.2):=by rfl):PGs X (e::es) (aiF t u):=by
 intro pins s σ H vs us Q I r h;obtain⟨v,vr,e1,h⟩:=h;subst e1;cases r with
 | cons r rr =>
  rw[hs];refine assignInOrder_cons (thn (h1 pins s σ H _ _ _ I r h) λ _ s1 hq8=>?_);obtain⟨σ1,H1,I1,q1⟩:=hq8;exact h2 pins s1 σ1 H1 _ _ Q I1 rr q1
def ajJ(K:FG)(n:Nat)(t:TGs):TG:=λ v σ H Q=>∃ a xs,v=.ref a/\SqT K H a xs/\xs.length=n/\t xs σ H Q
theorem aho(hc:X.calm=true)(h:PGs X es t)
  (hn:(assignEach es X.env).length=n:=by rfl)(hst:(assignEach es X.env).findIdx? (·.1)=none:=by rfl):PG X (.Tuple es k pos) (ajJ X.K n t):=by
 intro pins s σ H v u Q I r hw;obtain⟨a,xs,e1,hq,hl,hw⟩:=hw;subst e1;cases r;obtain⟨its,rv,ht,hz⟩:=I.tuple hq;refine assign_Tuple_tuple (I.ok.hd hc) ht (by simp[hn,<- hl,rv.length]) hst λ h' hx=>?_;have I1:Inv X pins σ H {s with heap:=h'}:=I.kept (t':=s.toks) λ b o e=>hx b o (Nat.ne_of_lt (Heap.lt_size e)) e;exact h pins _ σ H xs _ Q I1 (by simpa using rv) hw
def ajX(to ti:TE)(t:ai0):TG:=λ v σ H Q=>to σ H λ o H1=>ti σ H1 λ i H2=>t o i v H2 λ H3=>Q σ H3
theorem af2(ho:PE X o to)(hi:PE X i ti)(hs:ahU X t)
  (ha:∀ v,assign (.Subscript o i pos) X.env v=(do
   let ov <- holding [v] (eval o X.env)
   let iv <- holding [v,ov] (eval i X.env)
   standAt pos
   holding [v,ov,iv] (setItem ov iv v)
   release [v,ov,iv] []):=by intro _;rfl):PG X (.Subscript o i pos) (ajX to ti t):=by
 intro pins s σ H v u Q I r h;rw[ha];refine wpAny_bind (wpAny_holding (thn (ho pins s σ H _ I h) λ ov s1 hq9=>?_));obtain⟨x,H1,I1,r1,q1⟩:=hq9;refine wpAny_bind (wpAny_holding (thn (hi pins s1 σ H1 _ I1 q1) λ iv s2 hq10=>?_));obtain⟨y,H2,I2,r2,q2⟩:=hq10;refine wpAny_bind (wpAny_standAt (wpAny_bind (wpAny_holding (thn (hs pins s2 σ H2 x y v ov iv u _ I2 r1 r2 r q2) λ _ s3 hq11=>?_))));obtain⟨H3,I3,q3⟩:=hq11;exact wpAny_release ⟨σ,H3,I3,q3⟩
def ahr(te:TE)(g:TG):TS:=λ D σ H=>te σ H λ x H1=>g x σ H1 D.nx
theorem ag7(he:PE X e te)(hg:PG X tg g)(hs:swapsWithSole [tg] e pos.line X.env=pure false:=by rfl)(hw:swappedStores [tg] e X.env=pure none:=by rfl)
  (h1:(assignEach [tg] X.env).map (·.2)=[assign tg X.env]:=by rfl):PS X (.Assign [tg] e pos) (ahr te g):=by
 intro pins s σ H D I h;refine wpAny_Assign_stores (thn (he pins s σ H _ I h) λ v s1 ⟨x,H1,I1,r1,q1⟩=>?_) hs hw;rw[h1];exact thn (hg pins s1 σ H1 x v _ I1 r1 q1) λ _ s2 q=>q
theorem af3(hN:X.N.Nodup)(hi:X.N[i]? =some x)(hx:Loc X.env.scope x)(he:PE X e te)(hs:swapsWith e (some (.Name x pos')) pos.line X.env=pure false:=by rfl)(hf:X.fn x=true\/X.env.scope.names.lookup x=some .local:=by first | exact .inl rfl | exact .inr rfl | assumption) :
  PS X (.Assign [.Name x pos'] e pos) (ahr te (adD i)):=by
 intro pins s σ H D I h;refine wpAny_Assign_Name (thn (he pins s σ H _ I h) λ v s1 ⟨y,H1,I1,r1,q1⟩=>?_) hs;exact nD I1 hN hi hx r1 (λ s2 I2=>⟨_,H1,I2,q1⟩) hf
def aiw(to ti te:TE)(mv:V->V->Hp->VK->Prop)(tip:TIp)(tset:ai0):TS:=λ D σ H=>to σ H λ o H1=>ti σ H1 λ i H2=>mv o i H2 λ x H3=>te σ H3 λ y H4=>tip x y H4 λ z H5=>tset o i z H5 λ H6=>D.nx σ H6
def ajm(X:Cx)(t:V->V->Hp->VK->Prop):Prop:=
 ∀ (pins:PN) (s:Shared) (σ:St) (H:Hp) (o i:V) (ov iv:Value) (Q:VK),Inv X pins σ H s->RelV o ov->RelV i iv->t o i H Q ->
  wpAny (model X.prog X.w) X.A (getItem ov iv) (EP X pins σ Q) X.xe s
theorem acJ(ho:PE X o to)(hi:PE X i ti)(hg:ajm X mv)(he:PE X e te)(hp:PIp X op tip)(hs:ahU X tset)
  (ha:∀ ov iv new,augStore i ov iv new=(do holding [new,ov,iv] (setItem ov iv new);release [new,ov,iv] [];pure .next):=by intros;rfl):PS X (.AugAssign (.Subscript o i tpos) op e pos) (aiw to ti te mv tip tset):=by
 intro pins s σ H D I h;refine wpAny_AugAssign_SubscriptAny (thn (ho pins s σ H _ I h) λ ov s1 ⟨x1,H1,I1,r1,q1⟩=>?_) ha;refine thn (hi pins s1 σ H1 _ I1 q1) λ iv s2 hq12=>?_;obtain⟨x2,H2,I2,r2,q2⟩:=hq12;refine thn (hg pins s2 σ H2 x1 x2 ov iv _ I2 r1 r2 q2) λ old s3 hq13=>?_;obtain⟨x3,H3,I3,r3,q3⟩:=hq13;refine thn (he pins s3 σ H3 _ I3 q3) λ v s4 hq14=>?_;obtain⟨x4,H4,I4,r4,q4⟩:=hq14;refine thn (hp pins s4 σ H4 x3 x4 old v _ I4 r3 r4 q4) λ new s5 hq15=>?_;obtain⟨x5,H5,I5,r5,q5⟩:=hq15;exact thn (hs pins s5 σ H5 x1 x2 x5 ov iv new _ I5 r1 r2 r5 q5) λ _ s6 ⟨H6,I6,q6⟩=>⟨σ,H6,I6,q6⟩
def ipI(f:Int->Int->Int):TIp:=λ x y H Q=>∃ i j,x=.int i/\y=.int j/\Q (.int (f i j)) H
theorem afN:PIp X .Add (ipI λ i j=>i+j):=by intro pins s σ H x y v u Q I r1 r2 h;obtain⟨i,j,e1,e2,q⟩:=h;subst e1;subst e2;obtain⟨t,rfl⟩:=r1;obtain⟨t',rfl⟩:=r2;exact iadd_int ⟨.int _,H,I.tok _,⟨_,rfl⟩,q⟩
def af7(c:TT)(tb:TS):TS:=λ D σ H=>∃ W:Nat->St->Hp->Prop,(∃ m,W m σ H)/\∀ m σ H,W m σ H ->
 c σ H λ b H1=>if b=true then ∃ N:St->Hp->Prop,(∀ σ' H',N σ' H'->∃ m',m'<m/\W m' σ' H')/\tb {D with nx:=N,ct:=N,bk:=D.nx} σ H1 else D.nx σ H1
theorem aac(hp:PassesOwn (model X.prog X.w) X.A X.env X.xe)(hc:PT X c tc)(hb:PSs X body tb):PS X (.While c body [] pos) (af7 tc tb):=by
 intro pins s σ H D I h;obtain⟨W,⟨m0,w0⟩,turn⟩:=h;refine wpAny_While (codeAny_whileLoop (λ n s'=>∃ σ' H',Inv X pins σ' H' s'/\W n σ' H') ?_ m0 ⟨σ,H,I,w0⟩);rintro n s1 ⟨σ1,H1,I1,w1⟩;refine wpAny_passesOwn hp (thn (hc pins s1 σ1 H1 _ I1 (turn n σ1 H1 w1)) λ b s2 hq16=>?_);obtain⟨H2,I2,q2⟩:=hq16;cases b with
 | true =>
  obtain⟨N,hN,q2⟩:=q2;rw[if_pos rfl];refine wpAny_passesOwn hp (thn (hb pins s2 σ1 H2 _ I2 q2) λ f s3 q3=>?_);cases f with
  | next =>
   obtain⟨σ3,H3,I3,n3⟩:=q3;obtain⟨m',hm,w3⟩:=hN σ3 H3 n3;exact⟨m',hm,σ3,H3,I3,w3⟩
  | cont =>
   obtain⟨σ3,H3,I3,n3⟩:=q3;obtain⟨m',hm,w3⟩:=hN σ3 H3 n3;exact⟨m',hm,σ3,H3,I3,w3⟩
  | brk=>exact q3
  | ret v=>exact q3
 | false =>
  rw[if_neg Bool.false_ne_true];exact wpAny_execs_nil ⟨σ1,H2,I2,q2⟩
structure It where
 go:Nat->Hp->Prop
 yld:Nat->Hp->V->Hp->Prop
 stop:Nat->Hp->Prop
def vT(X:Cx)(pins:PN)(H:Hp)(b:Addr):Prop:=
 H b=none/\b≠X.env.locals/\b ∉ X.fs/\(b∈X.ex\/X.s₀.heap.objs.size<=b)/\(∀ x c,X.env.cells.lookup x=some c->c≠b)/\∀ p∈X.pn++pins,p.1≠b
theorem Inv.rL(I:Inv X pins σ H s)(hb:s.heap.objs.size<=b)(hn:H' b=none):vT X pins H' b:=by
 refine⟨hn,Nat.ne_of_gt (Nat.lt_of_lt_of_le I.lt hb),I.ajz hb,.inr (Nat.le_trans I.sz hb),λ x c e z=>?_,λ p hp z=>?_⟩
 ·obtain⟨v,q⟩:=I.cell x c e;exact absurd (Nat.lt_of_lt_of_le q.lt (by rw[z];exact hb)) (Nat.lt_irrefl _)
 ·exact absurd (Nat.lt_of_lt_of_le (Heap.lt_size (I.pin p hp).1) (by rw[z];exact hb)) (Nat.lt_irrefl _)
structure Turn(P:Program)(w:World)(K:FG)(tg:Expr)(J:It)(fp:List Addr)(it:Addr)(tn:Nat->Heap->Prop):Prop where
 mem:it∈fp
 obj:∀ i h,tn i h->∀ b∈fp,∃ o,h.get? b=some o/\∀ v,o.data ≠ .cell v
 keep:∀ i h h',tn i h->(∀ b∈fp,∀ o,h.get? b=some o->h'.get? b=some o)->tn i h'
 item:∀ (X:Cx),X.prog=P->X.w=w->X.K=K->X.calm=true->∀ (i:Nat) (pins:PN) (s:Shared) (σ:St) (H:Hp) (E:VP),Inv X pins σ H s->(∀ b∈fp,vT X pins H b)->tn i s.heap->J.go i H ->
  wpAny (model P w) X.A (pyNext (.ref it)) (λ r s1=>∃ u,r=some u /\
   wpAny (model P w) X.A (letOwnedTupleGo tg (.ref it) u) (λ _ s2=>∃ x H',Inv X pins σ H' s2/\RelV x u/\J.yld i H x H'/\tn (i+1) s2.heap/\∀ b∈fp,H' b=none) E s1) E s
 done:∀ (X:Cx),X.prog=P->X.w=w->X.K=K->X.calm=true->∀ (i:Nat) (pins:PN) (s:Shared) (σ:St) (H:Hp) (E:VP),Inv X pins σ H s->(∀ b∈fp,vT X pins H b)->tn i s.heap->J.stop i H ->
  wpAny (model P w) X.A (pyNext (.ref it)) (λ r s1=>r=none/\Inv X pins σ H s1) E s
 self:∀ (A:Around) (i:Nat) (s:Shared) (Q:VP) (E:VP),tn i s.heap->Q (.ref it) s->wpAny (model P w) A (pyIter (.ref it)) Q E s
abbrev TI:=St->Hp->(It->Hp->Prop)->Prop
def PIE(X:Cx)(pins:PN)(σ:St)(tg:Expr)(R:It->Hp->Prop)(itv:Value)(s2:Shared):Prop:=
 ∃ (it:Addr) (fp:List Addr) (tn:Nat->Heap->Prop) (J:It) (H':Hp),itv=.ref it/\Inv X pins σ H' s2/\Turn X.prog X.w X.K tg J fp it tn/\tn 0 s2.heap/\(∀ b∈fp,vT X pins H' b)/\R J H'
def PI(X:Cx)(tg iter:Expr)(wi:TI):Prop:=
 ∀ (pins:PN) (s:Shared) (σ:St) (H:Hp) (R:It->Hp->Prop),Inv X pins σ H s->wi σ H R ->
  wpAny (model X.prog X.w) X.A (eval iter X.env) (λ v s1=>wpAny (model X.prog X.w) X.A (pyIter v) (PIE X pins σ tg R) X.xe s1) X.xe s
theorem yb(ho:s.heap.get? it=some o)(hc:o.cls=.type n)(hd:o.data=.fields vs)
  (hn:["enumerate", "zip", "dict_itemiterator", "dict_reverseitemiterator", "odict_iterator", "itertools.zip_longest", "itertools.pairwise"].contains n=false)(hQ:Q () s):wpAny M A (letOwnedTupleGo tg (.ref it) u) Q E s:=by
 unfold letOwnedTupleGo;cases tg<;>first
  | exact wpAny_pure hQ
  | (cases u<;>first
    | exact wpAny_pure hQ
    | (refine wpAny_bind (wpAny_load ho ?_)
       rw[hc,hd];show wpAny M A (if (["enumerate", "zip", "dict_itemiterator", "dict_reverseitemiterator", "odict_iterator", "itertools.zip_longest", "itertools.pairwise"].contains n&&vs[0]? == some (rawInt _))=true then _ else _) Q E s;rw[if_neg (by intro h;rw[hn,Bool.false_and] at h;cases h)];exact wpAny_pure hQ))
def Itl(K:FG)(a:Addr):It:=
 ⟨λ i H=>∃ xs x,SqL K H a xs/\xs[i]? =some x,λ i H x H'=>H'=H/\∀ xs,SqL K H a xs->xs[i]? =some x,λ i H=>∃ xs,SqL K H a xs/\xs.length<=i⟩
def Itt(K:FG)(a:Addr):It:=
 ⟨λ i H=>∃ xs x,SqT K H a xs/\xs[i]? =some x,λ i H x H'=>H'=H/\∀ xs,SqT K H a xs->xs[i]? =some x,λ i H=>∃ xs,SqT K H a xs/\xs.length<=i⟩
def Itr(lo:Int)(n:Nat):It:=⟨λ i _=>i<n,λ i H x H'=>H'=H/\x=.int (lo+i),λ i _=>n<=i⟩
theorem yt{P:Program}{w:World}{K:FG}{tg:Expr}(a it:Addr):Turn P w K tg (Itl K a) [it] it (λ i h=>h.IsListIter it a i) where
 mem:=by simp
 obj:=λ i h st b hb=>by
  have e:b=it:=by simpa using hb
  subst e;obtain⟨o,e,c,d⟩:=st;exact⟨o,e,λ v z=>by rw[d] at z;cases z⟩
 keep:=λ i h h' st k=>st.at λ o e=>k it (by simp) o e
 item:=by intro X hP hw hK hc i pins s σ H E I hf st hg;subst hP hw hK;obtain⟨xs,x,hq,hx⟩:=hg;obtain⟨its,rv,p,hz⟩:=I.list hq;obtain⟨u,hu,ru⟩:=rv.get hx;obtain⟨f0,f1,f2,f3,f4,f5⟩:=hf it (by simp);refine wpAny_pyNext_list_item st p.isList (x:=u) (by simpa using hu) λ h' st' sb=>?_;have I1:Inv X pins σ H {s with heap:=h'}:=I.turned (t':=s.toks) (λ b o hb e=>(sb.2 b hb).trans e) f0 f1 f3 f4 f5;obtain⟨o,e,c,d⟩:=id st';exact⟨u,rfl,yb (s:={s with heap:=h'}) e c d (by decide) ⟨x,H,I1,ru,⟨rfl,λ ys hy=>by rw[I.uC hy hq];exact hx⟩,st',λ b hb=>(hf b hb).1⟩⟩
 done:=by intro X hP hw hK hc i pins s σ H E I hf st hg;subst hP hw hK;obtain⟨xs,hq,hx⟩:=hg;obtain⟨its,rv,p,hz⟩:=I.list hq;obtain⟨f0,f1,f2,f3,f4,f5⟩:=hf it (by simp);have hl:=rv.length;exact wpAny_pyNext_list_end (I.ok.hd hc) st p.isList (by simp;omega) λ h' eb=>⟨rfl,I.turned (t':=s.toks) (λ b o hb e=>eb b o hb e) f0 f1 f3 f4 f5⟩
 self:=λ _ _ _ _ _ st h=>wpAny_pyIter_listiter st h
theorem vb{P:Program}{w:World}{K:FG}{tg:Expr}(a it:Addr):Turn P w K tg (Itt K a) [it] it (λ i h=>h.IsTupleIter it a i) where
 mem:=by simp
 obj:=λ i h st b hb=>by
  have e:b=it:=by simpa using hb
  subst e;obtain⟨o,e,c,d⟩:=st;exact⟨o,e,λ v z=>by rw[d] at z;cases z⟩
 keep:=λ i h h' st k=>st.at λ o e=>k it (by simp) o e
 item:=by intro X hP hw hK hc i pins s σ H E I hf st hg;subst hP hw hK;obtain⟨xs,x,hq,hx⟩:=hg;obtain⟨its,rv,p,hz⟩:=I.tuple hq;obtain⟨u,hu,ru⟩:=rv.get hx;obtain⟨f0,f1,f2,f3,f4,f5⟩:=hf it (by simp);refine wpAny_pyNext_tuple_item st (show s.heap.IsTuple a its.toArray from p) (x:=u) (by simpa using hu) λ h' st' sb=>?_;have I1:Inv X pins σ H {s with heap:=h'}:=I.turned (t':=s.toks) (λ b o hb e=>(sb.2 b hb).trans e) f0 f1 f3 f4 f5;obtain⟨o,e,c,d⟩:=id st';exact⟨u,rfl,yb (s:={s with heap:=h'}) e c d (by decide) ⟨x,H,I1,ru,⟨rfl,λ ys hy=>by rw[I.qt hy hq];exact hx⟩,st',λ b hb=>(hf b hb).1⟩⟩
 done:=by intro X hP hw hK hc i pins s σ H E I hf st hg;subst hP hw hK;obtain⟨xs,hq,hx⟩:=hg;obtain⟨its,rv,p,hz⟩:=I.tuple hq;obtain⟨f0,f1,f2,f3,f4,f5⟩:=hf it (by simp);have hl:=rv.length;exact wpAny_pyNext_tuple_end (I.ok.hd hc) st (show s.heap.IsTuple a its.toArray from p) (by simp;omega) λ h' eb=>⟨rfl,I.turned (t':=s.toks) (λ b o hb e=>eb b o hb e) f0 f1 f3 f4 f5⟩
 self:=λ _ _ _ _ _ st h=>wpAny_pyIter_tupleiter st h
theorem vt{P:Program}{w:World}{K:FG}{tg:Expr}(it:Addr)(lo:Int)(n:Nat):Turn P w K tg (Itr lo n) [it] it (λ i h=>IsRangeIter h it (lo+(i:Nat) * 1) ((n:Int)-(i:Nat)) 1) where
 mem:=by simp
 obj:=λ i h st b hb=>by
  have e:b=it:=by simpa using hb
  subst e;exact⟨_,st,λ v z=>by have z':Data.fields _=Data.cell v:=z;cases z'⟩
 keep:=λ i h h' st k=>k it (by simp) _ st
 item:=by intro X hP hw hK hc i pins s σ H E I hf st hg;subst hP hw hK;obtain⟨f0,f1,f2,f3,f4,f5⟩:=hf it (by simp);have W:=Walks.range (prog:=X.prog) (w:=X.w) (I.ok.hd hc) it lo 1 n;refine W.item i s _ _ hg st λ v h' tk hv st' kk=>?_;obtain⟨t,rfl⟩:=hv;have I1:Inv X pins σ H {s with heap:=h',toks:=tk}:=I.turned (λ b o hb e=>kk b o (by simpa using hb) e) f0 f1 f3 f4 f5;refine⟨_,rfl,yb (s:={s with heap:=h',toks:=tk}) (n:= "range_iterator") st' rfl rfl (by decide) ⟨.int (lo+i),H,I1,⟨t,?_⟩,⟨rfl,rfl⟩,st',λ b hb=>(hf b hb).1⟩⟩;rw[Int.mul_one]
 done:=by intro X hP hw hK hc i pins s σ H E I hf st hg;subst hP hw hK;obtain⟨f0,f1,f2,f3,f4,f5⟩:=hf it (by simp);exact wpAny_pyNext_range_end (I.ok.hd hc) st (by have:n<=i:=hg;omega) λ h' eb=>⟨rfl,I.turned (t':=s.toks) (λ b o hb e=>eb b o hb e) f0 f1 f3 f4 f5⟩
 self:=λ _ _ _ _ _ st h=>wpAny_pyIter_rangeiter st h
theorem abL{R:It->Hp->Prop}{lo hi:Int}{t u v:Tok}{tk:Nat}(I:Inv X pins σ H s)(h1:-(2 ^ 62)<=lo)(h2:lo<2 ^ 62)(h3:-(2 ^ 62)<=hi)(h4:hi<2 ^ 62)
  (q:R (Itr lo (hi-lo).toNat) H):wpAny (model X.prog X.w) X.A (pyIter (.ref s.heap.objs.size)) (PIE X pins σ tg R) E {s with heap:=s.heap.push {cls:=.type "range",data:=.fields #[.int lo t,.int hi u,.int 1 v]},toks:=tk}:=by
 refine wpAny_pyIter_range (IsRange.new ..) (small_one h1 h2 h3 h4) ?_;have I1:Inv X pins σ H {s with heap:=s.heap.push {cls:=.type "range",data:=.fields #[.int lo t,.int hi u,.int 1 v]},toks:=tk}:=I.kept λ b o e=>Heap.get?_push_of_some _ e;refine⟨(s.heap.push {cls:=.type "range",data:=.fields #[.int lo t,.int hi u,.int 1 v]}).objs.size,[(s.heap.push {cls:=.type "range",data:=.fields #[.int lo t,.int hi u,.int 1 v]}).objs.size],_,_,H,rfl,
  I1.kept (t':=tk) λ b o e=>Heap.get?_push_of_some _ e,vt _ lo (hi-lo).toNat,?_,λ b hb=>?_,q⟩
 ·have e1:lo+((0:Nat):Int) * 1=lo:=by simp
  have e2:(((hi-lo).toNat:Nat):Int)-((0:Nat):Int)=Builtin.Range.rangeSize lo hi 1:=by rw[rangeSize_one];split<;>omega
  show IsRangeIter _ _ (lo+((0:Nat):Int) * 1) ((((hi-lo).toNat:Nat):Int)-((0:Nat):Int)) 1;rw[e1,e2];exact Heap.get?_push_size _ rfl
 ·have e:b=(s.heap.push {cls:=.type "range",data:=.fields #[.int lo t,.int hi u,.int 1 v]}).objs.size:=by simpa using hb
  subst e;exact I1.rL (Nat.le_refl _) (I1.hok.fresh (Nat.le_refl _))
def ahN(ta:TA):TI:=λ σ H R=>ta σ H λ vs H1=>∃ j:Int,vs=[.int j]/\-(2 ^ 62)<=j/\j<2 ^ 62/\R (Itr 0 j.toNat) H1
theorem xV{ta:TA}{p pos:Pos}(hg:Gl X "range")(hm:X.mg "range" = none)(ha:PA X [a] ta)(hs:starEach [a] X.env=[(false,eval a X.env)]:=by rfl):PI X tg (.Call (.Name "range" p) [a] [] pos) (ahN ta):=by
 intro pins s σ H R I h;refine Call_ (lE I hg hm boot_range (PyProof.Rows.callWith_type1 (thn (ha pos pins s σ H _ I h) λ us s1 ⟨vs,H1,I1,r1,q1⟩=>?_) hs rfl));obtain⟨j,e,q1,q2,q⟩:=q1;subst e;cases r1 with
 | cons r rr =>
  cases rr;obtain⟨t,rfl⟩:=r;exact call_range_1 (abL I1 (by omega) (by omega) q1 q2 (by simpa using q))
def ajQ(wi:TI)(g:TG)(tb:TS):TS:=λ D σ H=>wi σ H λ J H1=>∃ W:Nat->Nat->St->Hp->Prop,(∃ m,W 0 m σ H1)/\∀ i m σ H,W i m σ H ->
 (J.stop i H/\D.nx σ H)\/(J.go i H/\∃ N:St->Hp->Prop,(∀ σ' H',N σ' H'->∃ m',m'<m/\W (i+1) m' σ' H')/\∀ x H',J.yld i H x H'->g x σ H' λ σ2 H2=>tb {D with nx:=N,ct:=N,bk:=D.nx} σ2 H2)
def mM(fp:List Addr)(h:Heap):PN:=fp.filterMap λ b=>(h.get? b).map λ o=>(b,o)
theorem gD(hb:b∈fp)(e:h.get? b=some o):(b,o)∈mM fp h:=List.mem_filterMap.mpr ⟨b,hb,by rw[e];rfl⟩
theorem xK(hp:p∈mM fp h):p.1∈fp/\h.get? p.1=some p.2:=by
 obtain⟨b,hb,e⟩:=List.mem_filterMap.mp hp;cases q:h.get? b with
 | none=>rw[q] at e;cases e
 | some o =>
  rw[q] at e;have e':(b,o)=p:=Option.some.inj e;subst e';exact⟨hb,q⟩
theorem Inv.pinned(I:Inv X pins σ H s)(hf:∀ b∈fp,vT X pins H b)(ho:∀ b∈fp,∃ o,s.heap.get? b=some o/\∀ v,o.data ≠ .cell v):Inv X (pins++mM fp s.heap) σ H s:=
 I.iY λ p hp=>(List.mem_append.mp hp).elim (λ z=>I.pin p (List.mem_append_right _ z)) λ z=>by obtain⟨hb,e⟩:=xK z;obtain⟨f0,f1,f2,_⟩:=hf p.1 hb;obtain⟨o,e',d⟩:=ho p.1 hb;rw[e] at e';cases e';exact⟨e,f0,f1,f2,d⟩
theorem Inv.jI(I:Inv X (pins++pl) σ H s):Inv X pins σ H s:=I.iY λ p hp=>I.pin p (List.mem_append_right _ (List.mem_append_left _ hp))
theorem ahb(hp:PassesOwn (model X.prog X.w) X.A X.env X.xe)(hc:X.calm=true)(hi:PI X tg iter wi)(hg:PG X tg g)(hb:PSs X body tb)
  (hs:∀ x,foldedSetIterable iter X.env x=pure x:=by intro _;rfl):PS X (.For tg iter body [] pos) (ajQ wi g tb):=by
 intro pins s σ H D I h;refine wpAny_For (thn (hi pins s σ H _ I h) λ v s1 h1=>thn h1 λ itv s2 h2=>?_) hs;obtain⟨it,fp,tn,J,H2,e,I2,T,st2,f2,W,⟨m0,w0⟩,turn⟩:=h2;subst e;have stat:∀ {H':Hp},(∀ b∈fp,H' b=none)->∀ b∈fp,vT X pins H' b:=λ hn b hb=>⟨hn b hb,(f2 b hb).2⟩;refine codeAny_forLoop_any (λ n s'=>∃ i σ' H',Inv X pins σ' H' s'/\tn i s'.heap/\(∀ b∈fp,H' b=none)/\W i n σ' H') ?_ m0 ⟨0,σ,H2,I2,st2,λ b hb=>(f2 b hb).1,w0⟩;rintro n s3 ⟨i,σ3,H3,I3,st3,fr3,w3⟩;rcases turn i n σ3 H3 w3 with ⟨stop,qn⟩ | ⟨go,N,hN,step⟩
 ·refine wpAny_passesOwn hp (thn (T.done X rfl rfl rfl hc i pins s3 σ3 H3 X.xe I3 (stat fr3) st3 stop) λ r s4 ⟨hr,I4⟩=>?_);subst hr;exact wpAny_execs_nil ⟨σ3,H3,I4,qn⟩
 ·refine wpAny_passesOwn hp (thn (T.item X rfl rfl rfl hc i pins s3 σ3 H3 X.xe I3 (stat fr3) st3 go) λ r s4 ⟨u,hr,h4⟩=>?_);subst hr;refine wpAny_passesOwn hp (thn h4 λ _ s5 hq17=>?_);obtain⟨x,H5,I5,r5,y5,st5,fr5⟩:=hq17;have I5':=I5.pinned (stat fr5) (T.obj _ _ st5);refine wpAny_passesOwn hp (thn (hg _ s5 σ3 H5 x u _ I5' r5 (step x H5 y5)) λ _ s6 hq18=>?_);obtain⟨σ6,H6,I6,q6⟩:=hq18;refine wpAny_passesOwn hp (thn (hb _ s6 σ6 H6 _ I6 q6) λ f s7 q7=>?_);have again:∀ {σ7:St} {H7:Hp},Inv X (pins++mM fp s5.heap) σ7 H7 s7->N σ7 H7->∃ m,m<n/\∃ i σ' H',Inv X pins σ' H' s7/\tn i s7.heap/\(∀ b∈fp,H' b=none)/\W i m σ' H':=λ {σ7 H7} I7 n7=>by obtain⟨m',hm,w7⟩:=hN σ7 H7 n7;refine⟨m',hm,i+1,σ7,H7,I7.jI,T.keep _ _ _ st5 λ b hb o e=>(I7.pin (b,o) (List.mem_append_right _ (List.mem_append_right _ (gD hb e)))).1,λ b hb=>?_,w7⟩;obtain⟨o,e,d⟩:=T.obj _ _ st5 b hb;exact(I7.pin (b,o) (List.mem_append_right _ (List.mem_append_right _ (gD hb e)))).2.1
  cases f with
  | next=>obtain⟨σ7,H7,I7,n7⟩:=q7;exact again I7 n7
  | cont=>obtain⟨σ7,H7,I7,n7⟩:=q7;exact again I7 n7
  | brk=>obtain⟨σ7,H7,I7,q7⟩:=q7;exact⟨σ7,H7,I7.jI,q7⟩
  | ret v=>obtain⟨x7,σ7,H7,I7,r7,q7⟩:=q7;exact⟨x7,σ7,H7,I7.jI,r7,q7⟩
abbrev R2:=V->V->Hp->VK->Prop
def OpR(X:Cx)(f:Value->Value->Sem Value)(r:R2):Prop:=
 ∀ (pins:PN) (s:Shared) (σ:St) (H:Hp) (x y:V) (v u:Value) (Q:VK),Inv X pins σ H s->RelV x v->RelV y u->r x y H Q ->
  wpAny (model X.prog X.w) X.A (f v u) (EP X pins σ Q) X.xe s
def UnR(X:Cx)(f:Value->Sem Value)(r:V->Hp->VK->Prop):Prop:=
 ∀ (pins:PN) (s:Shared) (σ:St) (H:Hp) (x:V) (v:Value) (Q:VK),Inv X pins σ H s->RelV x v->r x H Q ->
  wpAny (model X.prog X.w) X.A (f v) (EP X pins σ Q) X.xe s
def eU(X:Cx)(f:Value)(r:List V->Hp->VK->Prop):Prop:=
 ∀ (pins:PN) (s:Shared) (σ:St) (H:Hp) (xs:List V) (us:List Value) (Q:VK),Inv X pins σ H s->Vals xs us->r xs H Q ->
  wpAny (model X.prog X.w) X.A (call f us) (EP X pins σ Q) X.xe s
def aj2(X:Cx)(r:V->Hp->(Bool->Hp->Prop)->Prop):Prop:=
 ∀ (pins:PN) (s:Shared) (σ:St) (H:Hp) (x:V) (v:Value) (Q:Bool->Hp->Prop),Inv X pins σ H s->RelV x v->r x H Q ->
  wpAny (model X.prog X.w) X.A (truthy v) (TP X pins σ Q) X.xe s
def tOp(r:R2)(ta tb:TE):TE:=λ σ H Q=>ta σ H λ x H1=>tb σ H1 λ y H2=>r x y H2 Q
def tUn(r:V->Hp->VK->Prop)(ta:TE):TE:=λ σ H Q=>ta σ H λ x H1=>r x H1 Q
def rI(C:Int->Int->Prop)(g:Int->Int->V):R2:=λ x y H Q=>∃ i j,x=.int i/\y=.int j/\C i j/\Q (g i j) H
def rI0(g:Int->Int->V):R2:=λ x y H Q=>∃ i j,x=.int i/\y=.int j/\Q (g i j) H
def rU(g:Int->V):V->Hp->VK->Prop:=λ x H Q=>∃ i,x=.int i/\Q (g i) H
theorem ah6(ha:PE X a ta)(hb:PE X b tb){pins:PN}{s:Shared}{σ:St}{H:Hp}{R:V->V->Hp->Prop}(I:Inv X pins σ H s)
  (h:ta σ H λ x H1=>tb σ H1 λ y H2=>R x y H2){Q:VP}{f:Value->Value->Sem Value}
  (hf:∀ v u s2 x y H2,Inv X pins σ H2 s2->RelV x v->RelV y u->R x y H2->wpAny (model X.prog X.w) X.A (f v u) Q X.xe s2) :
  wpAny (model X.prog X.w) X.A (eval a X.env) (λ v s₁=>wpAny (model X.prog X.w) X.A (eval b X.env) (λ u s₂=>wpAny (model X.prog X.w) X.A (f v u) Q X.xe s₂) X.xe s₁) X.xe s:=by
 refine thn (ha pins s σ H _ I h) λ v s1 hq19=>?_;obtain⟨x,H1,I1,r1,q1⟩:=hq19;refine thn (hb pins s1 σ H1 _ I1 q1) λ u s2 hq20=>?_;obtain⟨y,H2,I2,r2,q2⟩:=hq20;exact hf v u s2 x y H2 I2 r1 r2 q2
theorem afg(ho:OpR X (binaryOp op) r)(ha:PE X a ta)(hb:PE X b tb):PE X (.BinOp a op b pos) (tOp r ta tb):=by intro pins s σ H Q I h;exact wpAny_BinOp (ah6 ha hb I h λ v u s2 x y H2 I2 rx ry q=>ho pins s2 σ H2 x y v u Q I2 rx ry q)
theorem ahT(ho:UnR X (unaryOp op) r)(ha:PE X a ta):PE X (.UnaryOp op a pos) (tUn r ta):=by intro pins s σ H Q I h;exact UnaryOp_ (thn (ha pins s σ H _ I h) λ v s1 ⟨x,H1,I1,r1,q1⟩=>ho pins s1 σ H1 x v Q I1 r1 q1)
theorem opI{g:Int->Int->Int}
  (rule:∀ (i j:Int) (t u:Tok) (s:Shared) (Q:VP) (E:VP),C i j->Q (.int (g i j) s.toks) {s with toks:=s.toks+1}->wpAny (model X.prog X.w) X.A (f (.int i t) (.int j u)) Q E s) :
  OpR X f (rI C λ i j=>.int (g i j)):=by
 intro pins s σ H x y v u Q I rx ry h;obtain⟨i,j,rfl,rfl,hc,q⟩:=h;obtain⟨t,rfl⟩:=rx;obtain⟨t',rfl⟩:=ry;exact rule i j t t' s _ _ hc ⟨.int (g i j),H,I.tok _,⟨_,rfl⟩,q⟩
theorem ajF{g:Int->Int->Int}
  (rule:∀ (i j:Int) (t u:Tok) (s:Shared) (Q:VP) (E:VP),Q (.int (g i j) s.toks) {s with toks:=s.toks+1}->wpAny (model X.prog X.w) X.A (f (.int i t) (.int j u)) Q E s) :
  OpR X f (rI0 λ i j=>.int (g i j)):=by
 intro pins s σ H x y v u Q I rx ry h;obtain⟨i,j,rfl,rfl,q⟩:=h;obtain⟨t,rfl⟩:=rx;obtain⟨t',rfl⟩:=ry;exact rule i j t t' s _ _ ⟨.int (g i j),H,I.tok _,⟨_,rfl⟩,q⟩
theorem ahw{g:Int->Int->Bool}
  (rule:∀ (i j:Int) (t u:Tok) (s:Shared) (Q:VP) (E:VP),Q (.bool (g i j)) s->wpAny (model X.prog X.w) X.A (f (.int i t) (.int j u)) Q E s) :
  OpR X f (rI0 λ i j=>.bl (g i j)):=by
 intro pins s σ H x y v u Q I rx ry h;obtain⟨i,j,rfl,rfl,q⟩:=h;obtain⟨t,rfl⟩:=rx;obtain⟨t',rfl⟩:=ry;exact rule i j t t' s _ _ ⟨.bl (g i j),H,I,rfl,q⟩
def ai4(i j:Int):Prop:=0<j/\j<1073741824
def agf(i j:Int):Prop:=(-(2 ^ 64)<i/\i<2 ^ 64)\/(-(2 ^ 64)<j/\j<2 ^ 64)
theorem agf.ok{i j:Int}(h:agf i j):IntMulOk i j:=by
 rcases h with ⟨h1,h2⟩ | ⟨h1,h2⟩
 ·exact .of_left (intBits_le_64 h1 h2)
 ·exact .of_right (intBits_le_64 h1 h2)
theorem agi:OpR X (binaryOp .Add) (rI0 λ i j=>.int (i+j)):=ajF λ _ _ _ _ _ _ _ q=>add_int q
theorem kF:OpR X (binaryOp .Sub) (rI0 λ i j=>.int (i-j)):=ajF λ _ _ _ _ _ _ _ q=>sub_int q
theorem jT:OpR X (binaryOp .Mult) (rI agf λ i j=>.int (i * j)):=opI λ _ _ _ _ _ _ _ hc q=>mul_int q hc.ok
theorem rW:OpR X (binaryOp .FloorDiv) (rI ai4 λ i j=>.int (i / j)):=opI λ i j _ _ _ _ _ hc q=>by have h1:(0:Int)<j:=hc.1;have h2:j<1073741824:=hc.2;exact floordiv_int (by omega) (by rw[Int.fdiv_eq_ediv_of_nonneg i (by omega)];exact q) (.inl (PyProof.noPylong_small (by omega)))
theorem hW:OpR X (binaryOp .Mod) (rI (λ _ j=>0<j) λ i j=>.int (i % j)):=opI λ i j _ _ _ _ _ hc q=>by have h1:(0:Int)<j:=hc;exact mod_int' (by omega) (by rw[Int.fmod_eq_emod_of_nonneg i (by omega)];exact q)
theorem unI{g:Int->Int}
  (rule:∀ (i:Int) (t:Tok) (s:Shared) (Q:VP) (E:VP),Q (.int (g i) s.toks) {s with toks:=s.toks+1}->wpAny (model X.prog X.w) X.A (f (.int i t)) Q E s) :
  UnR X f (rU λ i=>.int (g i)):=by
 intro pins s σ H x v Q I rx h;obtain⟨i,rfl,q⟩:=h;obtain⟨t,rfl⟩:=rx;exact rule i t s _ _ ⟨.int (g i),H,I.tok _,⟨_,rfl⟩,q⟩
theorem rg:UnR X (unaryOp .USub) (rU λ i=>.int (-i)):=unI λ _ _ _ _ _ q=>neg_int q
def ai9:V->V->Bool
 | .non,.non=>true | .non,.int _=>true | .int _,.non=>true | .non,.bl _=>true | .bl _,.non=>true | .non,.str _=>true | .str _,.non=>true
 | .int _,.int _=>true | .bl _,.bl _=>true | .str _,.str _=>true | .byt _,.byt _=>true
 | .int _,.str _=>true | .str _,.int _=>true | .bl _,.str _=>true | .str _,.bl _=>true
 | _,_=>false
def rEq:R2:=λ x y H Q=>ai9 x y=true/\Q (.bl (decide (x=y))) H
def rNe:R2:=λ x y H Q=>ai9 x y=true/\Q (.bl (!decide (x=y))) H
theorem yX:decide (V.int i=V.int j)=(i==j):=by rw[Bool.eq_iff_iff];simp
theorem acq:decide (V.bl i=V.bl j)=(i==j):=by rw[Bool.eq_iff_iff];simp
theorem wI:decide (V.str i=V.str j)=(i==j):=by rw[Bool.eq_iff_iff];simp
theorem yd:decide (V.byt i=V.byt j)=(i.toList==j.toList):=by rw[Bool.eq_iff_iff];cases i;cases j;simp
theorem bz(I:Inv X pins σ H s)(q:Q (.bl k) H)(e:k=k'):EP X pins σ Q (.bool k') s:=by subst e;exact⟨.bl k,H,I,rfl,q⟩
theorem ah5:OpR X (compareOp .Eq) rEq:=by
 intro pins s σ H x y v u Q I rx ry h;obtain⟨hs,q⟩:=h;cases x with
 | non =>
  cases rx;cases y with
  | non=>cases ry;exact PySem.EqNone.eq_none_none (bz I q (by simp))
  | bl j=>cases ry;exact PySem.EqNone.eq_none_bool (bz I q (by simp))
  | int j=>obtain⟨t',rfl⟩:=ry;exact PySem.EqNone.eq_none_int (bz I q (by simp))
  | str j=>obtain⟨t',rfl⟩:=ry;exact PySem.EqNone.eq_none_str (bz I q (by simp))
  | _=>exact absurd (show false=true from hs) Bool.false_ne_true
 | bl i =>
  cases rx;cases y with
  | non=>cases ry;exact PySem.EqNone.eq_bool_none (bz I q (by simp))
  | bl j=>cases ry;exact eq_bool (bz I q acq)
  | str j=>obtain⟨t',rfl⟩:=ry;exact PySem.EqMixed.eq_bool_str (bz I q (by simp))
  | _=>exact absurd (show false=true from hs) Bool.false_ne_true
 | int i =>
  obtain⟨t,rfl⟩:=rx;cases y with
  | non=>cases ry;exact PySem.EqNone.eq_int_none (bz I q (by simp))
  | int j=>obtain⟨t',rfl⟩:=ry;exact eq_int (bz I q yX)
  | str j=>obtain⟨t',rfl⟩:=ry;exact PySem.EqMixed.eq_int_str (bz I q (by simp))
  | _=>exact absurd (show false=true from hs) Bool.false_ne_true
 | str i =>
  obtain⟨t,rfl⟩:=rx;cases y with
  | non=>cases ry;exact PySem.EqNone.eq_str_none (bz I q (by simp))
  | bl j=>cases ry;exact PySem.EqMixed.eq_str_bool (bz I q (by simp))
  | int j=>obtain⟨t',rfl⟩:=ry;exact PySem.EqMixed.eq_str_int (bz I q (by simp))
  | str j=>obtain⟨t',rfl⟩:=ry;exact eq_str (bz I q wI)
  | _=>exact absurd (show false=true from hs) Bool.false_ne_true
 | byt i =>
  obtain⟨t,rfl⟩:=rx;cases y with
  | byt j=>obtain⟨t',rfl⟩:=ry;exact W.eq_bytes (bz I q yd)
  | _=>exact absurd (show false=true from hs) Bool.false_ne_true
 | _=>cases y<;>exact absurd (show false=true from hs) Bool.false_ne_true
theorem aiz:OpR X (compareOp .NotEq) rNe:=by
 intro pins s σ H x y v u Q I rx ry h;obtain⟨hs,q⟩:=h;cases x with
 | non =>
  cases rx;cases y with
  | non=>cases ry;exact PySem.EqNone.ne_none_none (bz I q (by simp))
  | bl j=>cases ry;exact PySem.EqNone.ne_none_bool (bz I q (by simp))
  | int j=>obtain⟨t',rfl⟩:=ry;exact PySem.EqNone.ne_none_int (bz I q (by simp))
  | str j=>obtain⟨t',rfl⟩:=ry;exact PySem.EqNone.ne_none_str (bz I q (by simp))
  | _=>exact absurd (show false=true from hs) Bool.false_ne_true
 | bl i =>
  cases rx;cases y with
  | non=>cases ry;exact PySem.EqNone.ne_bool_none (bz I q (by simp))
  | bl j=>cases ry;exact ne_bool (bz I q (congrArg not acq))
  | str j=>obtain⟨t',rfl⟩:=ry;exact PySem.EqMixed.ne_bool_str (bz I q (by simp))
  | _=>exact absurd (show false=true from hs) Bool.false_ne_true
 | int i =>
  obtain⟨t,rfl⟩:=rx;cases y with
  | non=>cases ry;exact PySem.EqNone.ne_int_none (bz I q (by simp))
  | int j=>obtain⟨t',rfl⟩:=ry;exact ne_int (bz I q (congrArg not yX))
  | str j=>obtain⟨t',rfl⟩:=ry;exact PySem.EqMixed.ne_int_str (bz I q (by simp))
  | _=>exact absurd (show false=true from hs) Bool.false_ne_true
 | str i =>
  obtain⟨t,rfl⟩:=rx;cases y with
  | non=>cases ry;exact PySem.EqNone.ne_str_none (bz I q (by simp))
  | bl j=>cases ry;exact PySem.EqMixed.ne_str_bool (bz I q (by simp))
  | int j=>obtain⟨t',rfl⟩:=ry;exact PySem.EqMixed.ne_str_int (bz I q (by simp))
  | str j=>obtain⟨t',rfl⟩:=ry;exact ne_str (bz I q (congrArg not wI))
  | _=>exact absurd (show false=true from hs) Bool.false_ne_true
 | byt i =>
  obtain⟨t,rfl⟩:=rx;cases y with
  | byt j=>obtain⟨t',rfl⟩:=ry;exact W.ne_bytes (bz I q (congrArg not yd))
  | _=>exact absurd (show false=true from hs) Bool.false_ne_true
 | _=>cases y<;>exact absurd (show false=true from hs) Bool.false_ne_true
theorem vA:OpR X (compareOp .Lt) (rI0 λ i j=>.bl (decide (i<j))):=ahw λ _ _ _ _ _ _ _ q=>lt_int q
theorem ahY:OpR X (compareOp .LtE) (rI0 λ i j=>.bl (decide (i<=j))):=ahw λ _ _ _ _ _ _ _ q=>le_int q
theorem v3:OpR X (compareOp .Gt) (rI0 λ i j=>.bl (decide (j<i))):=ahw λ _ _ _ _ _ _ _ q=>gt_int q
theorem aiy:OpR X (compareOp .GtE) (rI0 λ i j=>.bl (decide (j<=i))):=ahw λ _ _ _ _ _ _ _ q=>ge_int q
theorem wu:OpR X (compareOp .In) (λ x y H Q=>∃ i j,x=.str i/\y=.str j/\Q (.bl (!(Builtin.Str.occurrences j i 0 j.length 1).isEmpty)) H):=by intro pins s σ H x y v u Q I rx ry h;obtain⟨i,j,rfl,rfl,q⟩:=h;obtain⟨t,rfl⟩:=rx;obtain⟨t',rfl⟩:=ry;exact in_str (bz I q rfl)
theorem tG:OpR X (compareOp .Is) (λ x y H Q=>y=.non/\Q (.bl (decide (x=.non))) H):=by
 intro pins s σ H x y v u Q I rx ry h;obtain⟨rfl,q⟩:=h;cases ry;refine is_none_gen (bz I q ?_);cases x<;>first
  | (cases rx;rfl)
  | (obtain⟨t,rfl⟩:=rx;rfl)
theorem ae0(ho:OpR X (compareOp op) r)(ha:PE X a ta)(hb:PE X b tb)(hm:behindInMarks op b=false):PE X (.Compare a [op] [b] pos) (tOp r ta tb):=by intro pins s σ H Q I h;exact wpAny_Compare1 (ah6 ha hb I h λ v u s2 x y H2 I2 rx ry q=>ho pins s2 σ H2 x y v u Q I2 rx ry q) hm
def ac1(t:TE):TT:=λ σ H Q=>t σ H λ x H'=>∃ k,x=.bl k/\Q k H'
theorem acW(ho:OpR X (compareOp op) r)(ha:PE X a ta)(hb:PE X b tb)(hm:behindInMarks op b=false):PT X (.Compare a [op] [b] pos) (ac1 (tOp r ta tb)):=by
 intro pins s σ H Q I h;refine wpAny_isTrue_Compare1 (thn (ha pins s σ H _ I h) λ v s1 ⟨x,H1,I1,r1,q1⟩=>thn (hb pins s1 σ H1 _ I1 q1) λ u s2 ⟨y,H2,I2,r2,q2⟩ =>
  thn (ho pins s2 σ H2 x y v u _ I2 r1 r2 q2) λ c s3 ⟨z,H3,I3,r3,k,e,q3⟩=>?_) hm
 subst e;cases r3;exact wpAny_truthy_bool ⟨H3,I3,q3⟩
def yf(r r':R2)(ta tb tc:TE):TE:=λ σ H Q=>ta σ H λ x H1=>tb σ H1 λ y H2=>r x y H2 λ z H3=>∃ k,z=.bl k /\
 (if k=true then tc σ H3 λ w' H4=>r' y w' H4 Q else Q (.bl false) H3)
theorem aaw(ho:OpR X (compareOp op) r)(ho':OpR X (compareOp op') r')(ha:PE X a ta)(hb:PE X b tb)(hc:PE X c tc)
  (hm:lastMarks [op,op'] [b,c]=false:=by with_unfolding_all rfl):PE X (.Compare a [op,op'] [b,c] pos) (yf r r' ta tb tc):=by
 intro pins s σ H Q I h;refine Compare_chain (thn (ha pins s σ H _ I h) λ v s1 ⟨x,H1,I1,r1,q1⟩=>chain_link (thn (hb pins s1 σ H1 _ I1 q1) λ u s2 ⟨y,H2,I2,r2,q2⟩ =>
  thn (ho pins s2 σ H2 x y v u _ I2 r1 r2 q2) λ d s3 ⟨z,H3,I3,r3,k,e,q3⟩=>?_)) hm
 subst e;cases r3;refine wpAny_truthy_bool ?_;cases k with
 | false=>exact ite_ff ⟨.bl false,H3,I3,rfl,q3⟩
 | true=>exact ite_tt (chain_last (thn (hc pins s3 σ H3 _ I3 q3) λ w' s4 ⟨z',H4,I4,r4,q4⟩=>ho' pins s4 σ H4 y z' u w' Q I4 r2 r4 q4))
theorem aaG(ho:OpR X (compareOp op) r)(ho':OpR X (compareOp op') r')(ha:PE X a ta)(hb:PE X b tb)(hc:PE X c tc)
  (hm:lastMarks [op,op'] [b,c]=false:=by with_unfolding_all rfl):PT X (.Compare a [op,op'] [b,c] pos) (ac1 (yf r r' ta tb tc)):=by
 intro pins s σ H Q I h;refine isTrue_chain (thn (ha pins s σ H _ I h) λ v s1 ⟨x,H1,I1,r1,q1⟩=>test_link (thn (hb pins s1 σ H1 _ I1 q1) λ u s2 ⟨y,H2,I2,r2,q2⟩ =>
  thn (ho pins s2 σ H2 x y v u _ I2 r1 r2 q2) λ d s3 ⟨z,H3,I3,r3,k,e,q3⟩=>?_)) hm
 subst e;cases r3;refine wpAny_truthy_bool ?_;cases k with
 | false =>
  obtain⟨k',e',q'⟩:=q3;cases e';exact ite_ff ⟨H3,I3,q'⟩
 | true =>
  refine ite_tt (test_last (thn (hc pins s3 σ H3 _ I3 q3) λ w' s4 ⟨z',H4,I4,r4,q4⟩=>thn (ho' pins s4 σ H4 y z' u w' _ I4 r2 r4 q4) λ d' s5 hq21=>?_));obtain⟨z2,H5,I5,r5,k2,e2,q5⟩:=hq21;subst e2;cases r5;exact wpAny_truthy_bool ⟨H5,I5,q5⟩
def ahK(K:FG)(x:V)(H:Hp)(k:Bool):Prop:=
 match x with
 | .non=>k=false
 | .bl b=>k=b
 | .int i=>k=(i != 0)
 | .str y=>y.length<=sizeLine/\k=((y.length:Int) != 0)
 | .byt y=>y.size<=sizeLine/\k=((y.size:Int) != 0)
 | .ref p=>(∃ xs,SqL K H p xs/\k=!xs.isEmpty)\/(∃ xs,SqT K H p xs/\k=!xs.isEmpty)\/∃ kvs,H p=some (.dK kvs)/\k=!kvs.isEmpty
 | _=>False
theorem vF(r:KV kvs vs):(!vs.isEmpty)=!kvs.isEmpty:=by
 cases r<;>rfl
theorem mx(r:Vals xs its):(!its.toArray.isEmpty)=!xs.isEmpty:=by
 cases r<;>simp
theorem kR:(sizeLine:Nat)<2 ^ 63:=by rw[sizeLine_eq];decide
theorem agQ:aj2 X (λ x H Q=>∃ k,ahK X.K x H k/\Q k H):=by
 intro pins s σ H x v Q I rx h;obtain⟨k,e,q⟩:=h;have hl:=kR;have hs:sizeLine=16777216:=sizeLine_eq;cases x with
 | non =>
  cases rx;have e':k=false:=e;subst e';exact truthy_none ⟨H,I,q⟩
 | bl b =>
  cases rx;have e':k=b:=e;subst e';exact wpAny_truthy_bool ⟨H,I,q⟩
 | int i =>
  obtain⟨t,rfl⟩:=rx;have e':k=(i != 0):=e;subst e';exact PySem.P.truthy_int ⟨H,I,q⟩
 | str y =>
  obtain⟨t,rfl⟩:=rx;obtain⟨hy,e'⟩:y.length<=sizeLine/\k=((y.length:Int) != 0):=e;subst e';exact PySem.P.truthy_str (by omega) ⟨H,I.tok _,q⟩
 | byt y =>
  obtain⟨t,rfl⟩:=rx;obtain⟨hy,e'⟩:y.size<=sizeLine/\k=((y.size:Int) != 0):=e;subst e';exact W.truthy_bytes (by omega) ⟨H,I.tok _,q⟩
 | ref p =>
  cases rx;have e':(∃ xs,SqL X.K H p xs/\k=!xs.isEmpty)\/(∃ xs,SqT X.K H p xs/\k=!xs.isEmpty)\/∃ kvs,H p=some (.dK kvs)/\k=!kvs.isEmpty:=e;rcases e' with ⟨xs,hx,e'⟩ | ⟨xs,hx,e'⟩ | ⟨kvs,hx,e'⟩
  ·subst e';obtain⟨its,r,pl,hz⟩:=I.list hx;have hlen:=r.length;exact wpAny_truthy_list pl.isList (by simp only[List.size_toArray];omega) ⟨H,I.tok _,by rw[mx r];exact q⟩
  ·subst e';obtain⟨its,r,pl,hz⟩:=I.tuple hx;have hlen:=r.length;exact truthy_tuple pl (by simp only[List.size_toArray];omega) ⟨H,I.tok _,by rw[mx r];exact q⟩
  ·subst e';obtain⟨hz,hS,vs,r,m⟩:kvs.length<=sizeLine/\(p==sysModules)=false/\∃ vs,KV kvs vs/\s.heap.DictOf (bb X.prog X.w) p vs:=I.hok p _ hx;have hlen:kvs.length=vs.length:=Paired.length r;exact wpAny_truthy_dict hS m (by omega) ⟨H,I.tok _,by rw[vF r];exact q⟩
 | _=>exact(show False from e).elim
theorem aay(ha:PE X a ta)(he:∀ whole,isTrue a X.env whole=(do let v <- whole;standAt a.pos;holding [v] (truthy v))) :
  PT X a (λ σ H Q=>ta σ H λ x H'=>∃ k,ahK X.K x H' k/\Q k H'):=by
 intro pins s σ H Q I h;exact isTrue_plain (thn (ha pins s σ H _ I h) λ v s1 ⟨x,H1,I1,r1,q1⟩=>agQ pins s1 σ H1 x v Q I1 r1 q1) (he _)
theorem vM:OpR X (binaryOp .Add) (λ x y H Q=>∃ i j,x=.str i/\y=.str j/\i.length+j.length<=sizeLine/\Q (.str (i++j)) H):=by intro pins s σ H x y v u Q I rx ry h;obtain⟨i,j,rfl,rfl,hz,q⟩:=h;obtain⟨t,rfl⟩:=rx;obtain⟨t',rfl⟩:=ry;exact add_str (λ t' tk=>⟨.str (i++j),H,I.tok _,⟨_,rfl⟩,q⟩) hz
theorem vals1(r:Vals [x] us):∃ u,us=[u]/\RelV x u:=by
 cases r with
 | cons r1 r2=>cases r2;exact⟨_,rfl,r1⟩
theorem vals2(r:Vals [x,y] us):∃ u w',us=[u,w']/\RelV x u/\RelV y w':=by
 cases r with
 | cons r1 r2 =>
  cases r2 with
  | cons r3 r4=>cases r4;exact⟨_,_,rfl,r1,r3⟩
theorem abf:eU X (.builtin "abs") (λ xs H Q=>∃ i,xs=[.int i]/\Q (.int (if i<0 then -i else i)) H):=by intro pins s σ H xs us Q I r h;obtain⟨i,rfl,q⟩:=h;obtain⟨u,rfl,t,rfl⟩:=vals1 r;exact call_abs_int λ u tk=>⟨.int (if i<0 then -i else i),H,I.tok _,⟨_,rfl⟩,q⟩
theorem kP(hc:X.calm=true):eU X (.builtin "max") (λ xs H Q=>∃ i j,xs=[.int i,.int j]/\Q (.int (if j > i then j else i)) H):=by
 intro pins s σ H xs us Q I r h;obtain⟨i,j,rfl,q⟩:=h;obtain⟨u,w',rfl,⟨t,rfl⟩,⟨t',rfl⟩⟩:=vals2 r;refine max_two_ints (I.ok.hd hc) λ h' tk k=>⟨_,H,I.kept k,?_,q⟩
 by_cases hj:j > i
 ·rw[if_pos hj,if_pos hj];exact⟨_,rfl⟩
 ·rw[if_neg hj,if_neg hj];exact⟨_,rfl⟩
theorem xw(hc:X.calm=true):eU X (.builtin "min") (λ xs H Q=>∃ i j,xs=[.int i,.int j]/\Q (.int (if j<i then j else i)) H):=by
 intro pins s σ H xs us Q I r h;obtain⟨i,j,rfl,q⟩:=h;obtain⟨u,w',rfl,⟨t,rfl⟩,⟨t',rfl⟩⟩:=vals2 r;refine min_two_ints (I.ok.hd hc) λ h' tk k=>⟨_,H,I.kept k,?_,q⟩
 by_cases hj:j<i
 ·rw[if_pos hj,if_pos hj];exact⟨_,rfl⟩
 ·rw[if_neg hj,if_neg hj];exact⟨_,rfl⟩
def ajd(K:FG)(x:V)(H:Hp)(n:Nat):Prop:=
 match x with
 | .str y=>y.length<=sizeLine/\n=y.length
 | .byt y=>y.size<=sizeLine/\n=y.size
 | .ref p=>(∃ xs,SqL K H p xs/\n=xs.length)\/∃ xs,SqT K H p xs/\n=xs.length
 | _=>False
theorem a9:eU X (.builtin "len") (λ xs H Q=>∃ x n,xs=[x]/\ajd X.K x H n/\Q (.int n) H):=by
 intro pins s σ H xs us Q I r h;obtain⟨x,n,rfl,e,q⟩:=h;obtain⟨u,rfl,rx⟩:=vals1 r;have hl:=kR;have hs:sizeLine=16777216:=sizeLine_eq;cases x with
 | str y =>
  obtain⟨t,rfl⟩:=rx;obtain⟨hy,e'⟩:y.length<=sizeLine/\n=y.length:=e;subst e';exact len_str (by omega) ⟨.int _,H,I.tok _,⟨_,rfl⟩,q⟩
 | byt y =>
  obtain⟨t,rfl⟩:=rx;obtain⟨hy,e'⟩:y.size<=sizeLine/\n=y.size:=e;subst e';exact W.len_bytes (by omega) ⟨.int _,H,I.tok _,⟨_,rfl⟩,q⟩
 | ref p =>
  cases rx;have e':(∃ xs,SqL X.K H p xs/\n=xs.length)\/∃ xs,SqT X.K H p xs/\n=xs.length:=e;rcases e' with ⟨xs,hx,e'⟩ | ⟨xs,hx,e'⟩
  ·subst e';obtain⟨its,r',pl,hz⟩:=I.list hx;have hlen:=r'.length;exact Calls.call_len_list pl.isList (by simp only[List.size_toArray];omega) ⟨.int xs.length,H,I.tok _,⟨_,by simp only[List.size_toArray];rw[hlen]⟩,q⟩
  ·subst e';obtain⟨its,r',pl,hz⟩:=I.tuple hx;have hlen:=r'.length;exact len_tuple pl (by simp only[List.size_toArray];omega) ⟨.int xs.length,H,I.tok _,⟨_,by simp only[List.size_toArray];rw[hlen]⟩,q⟩
 | _=>exact(show False from e).elim
structure akj(h:Heap)(x dx C:Addr)(mA:Str->Option Value):Prop where
 obj:h.get? x=some (W.instObj C dx)
 ns:h.Ns1 dx mA
 ne:dx≠x
theorem xP{h:Heap}{dx:Addr}{mA:Str->Option Value}(n:h.Ns1 dx mA):∃ od,h.get? dx=some od/\∀ name,W.lookIn name od=some (mA name):=by
 obtain⟨o,es,ep,ho,hd,hk,_,hm⟩:=n;refine⟨o,ho,λ name=>?_⟩;have e:=hm name;unfold nsFind findBy at e;rw[<- Array.find?_toList] at e;unfold W.lookIn;rw[hd];dsimp only
 split
 ·rename_i y q
  rw[q] at e;exact congrArg some e
 ·rename_i q
  rw[q] at e;have a:es.toList.any (·.refKey)=false:=by rw[List.any_eq_false];intro y hy;obtain⟨z,t,hkey⟩:=hk y (Array.mem_toList_iff.mp hy);simp[DictEntry.refKey,hkey]
  have a':¬ es.toList.any (·.refKey)=true:=by rw[a];exact Bool.false_ne_true
  rw[if_neg a'];exact congrArg some e
section
variable {prog:Program}{w:World}{A:Around}{E:VP}{s:Shared}{K:FG}{x dx C f:Addr}{mA:Str->Option Value}{name:Str}{v:Value}
end
theorem uL.some_of(r:uL (some v) o):∃ u,o=some u/\RelV v u:=by
 cases o with
 | none=>exact(show False from r).elim
 | some u=>exact⟨u,rfl,r⟩
theorem zx(r:RelV v u):W.handedIn u=true:=by
 cases v with
 | non=>cases (show u=Value.none from r);rfl
 | bl b=>cases (show u=Value.bool b from r);rfl
 | int i=>obtain⟨t,e⟩:=(show ∃ t,u=Value.int i t from r);cases e;rfl
 | str x=>obtain⟨t,e⟩:=(show ∃ t,u=Value.str x t from r);cases e;rfl
 | byt b=>obtain⟨t,e⟩:=(show ∃ t,u=Value.bytes b t from r);cases e;rfl
 | flt b=>obtain⟨t,e⟩:=(show ∃ t,u=Value.float b t from r);cases e;rfl
 | ref a=>cases (show u=Value.ref a from r);rfl
 | ty n=>cases (show u=Value.type n from r);rfl
structure Cls(K:FG)(C:Addr):Prop where
 pg:W.plainGet K C Str.empty=true
 hd:W.hasDictIn K C=true
 po:W.plainOver K C=true
 sa:W.findIn K (.ref C) "__setattr__" = some (some (.builtin "object.__setattr__"))
def qD(K:FG)(C:Addr)(f:Str):Prop:=W.findIn K (.ref C) f=some none
theorem adx(hb:attributeBase e f env (eval e env)=eval e env)
  (h:wpAny (model prog w) A (eval e env) (λ o s₁=>wpAny (model prog w) A (getAttr o f true) Q E s₁) E s):wpAny (model prog w) A (eval (.Attribute e f pos) env) Q E s:=
 Attribute_any_ h (by rw[arm_eval_Attribute,hb])
structure fO(k:Nat)(A:Around):Prop where
 hd:A.handled=none
 gd:A.guards=some []
 dp:A.depth+3 * k+5<recursionLimit
 un:A.units+16 * k+200<cLine
theorem fO.mono(r:fO k A)(h:j<=k):fO j A:=⟨r.hd,r.gd,by have:=r.dp;omega,by have:=r.un;omega⟩
theorem fO.deeper(r:fO (k+1) A)(env:Env):fO k (A.deeper env):=
 ⟨r.hd,r.gd,by have:=r.dp;show A.depth+1+3 * k+5<_;omega,by have:=r.un;show A.units+3+16 * k+200<_;omega⟩
theorem mP{A:Around}{C:Addr}{us:List Value}{kw:List (Str×Value)}:(A.under (.builtin "type.__call__" ⟨.ref C::us,kw⟩)).depth=A.depth+1:=by
 first | rfl | simp[Around.under,Code.weight,Code.isCreation,Code.isGuard,Code.isCaller,Code.frames,Code.isFrame,guardIds]
theorem mK{A:Around}{C:Addr}{us:List Value}{kw:List (Str×Value)}:(A.under (.builtin "type.__call__" ⟨.ref C::us,kw⟩)).units=A.units+1:=by
 first | rfl | simp[Around.under,Code.cUnits,Code.frames,Code.isFrame]
theorem fO.make(r:fO (k+1) A)(C:Addr)(us:List Value)(kw:List (Str×Value)):fO k (A.under (.builtin "type.__call__" ⟨.ref C::us,kw⟩)):=
 ⟨r.hd,(by first | exact r.gd | (simpa [Around.under,Code.isGuard,Code.frames,Code.isFrame,guardIds] using r.gd)),by have:=r.dp;rw[mP];omega,by have:=r.un;rw[mK];omega⟩
theorem fO.depth(r:fO k A):A.depth<recursionLimit:=by have:=r.dp;omega
theorem fO.units(r:fO k A):A.units+64<cLine:=by have:=r.un;omega
def ajl:TA:=λ _ H Q=>Q [] H
def ahV(ta:TE)(tr:TA):TA:=λ σ H Q=>ta σ H λ x H1=>tr σ H1 λ xs H2=>Q (x::xs) H2
theorem zP:PA X [] ajl:=λ _ _ _ _ H Q I h=>Calls.spliced_nil ⟨[],H,I,.nil,h⟩
theorem oA(ha:PE X e te)(hr:PA X es t)(hs:starEach (e::es) X.env=(false,eval e X.env)::starEach es X.env:=by rfl):PA X (e::es) (ahV te t):=by intro pos pins s σ H Q I h;rw[hs];show wpAny _ _ (spliced ((false,eval e X.env)::backTo pos (starEach es X.env))) _ _ s;refine Calls.spliced_cons (thn (ha pins s σ H _ I h) λ u s1 hq22=>?_);obtain⟨x,H1,I1,r1,q1⟩:=hq22;exact thn (hr pos pins s1 σ H1 _ I1 q1) λ us s2 ⟨xs,H2,I2,r2,q2⟩=>⟨x::xs,H2,I2,.cons r1 r2,q2⟩
def ajs(t:TA):TE:=λ σ H Q=>t σ H λ xs H1=>xs.length<=sizeLine/\∀ p,H1 p=none->Q (.ref p) (upd H1 p (.tup xs))
def ajG(t:TA):TE:=λ σ H Q=>t σ H λ xs H1=>xs.length<=sizeLine/\∀ p,H1 p=none->Q (.ref p) (upd H1 p (.lst xs))
theorem aca{x1}(h:PA X es t):PE X (.Tuple es x1 pos) (ajs t):=by intro pins s σ H Q I hq;refine wpAny_Tuple_spliced (thn (h pos pins s σ H _ I hq) λ us s1 ⟨xs,H1,I1,r,z,q⟩=>⟨by rw[<- r.length];exact z,?_⟩);have hf:H1 s1.heap.objs.size=none:=I1.hok.fresh (Nat.le_refl _);refine⟨.ref s1.heap.objs.size,upd H1 s1.heap.objs.size (.tup xs),I1.laid (t':=s1.toks) (λ b u e=>Heap.get?_push_of_some _ e) (Nat.le_refl _) ?_,rfl,q _ hf⟩;exact⟨z,us,r,abl.new _ _⟩
theorem abX(h:PA X es t):PE X (.List es pos) (ajG t):=by intro pins s σ H Q I hq;refine wpAny_List_spliced (thn (h pos pins s σ H _ I hq) λ us s1 ⟨xs,H1,I1,r,z,q⟩=>⟨by rw[<- r.length];exact z,?_⟩);have hf:H1 s1.heap.objs.size=none:=I1.hok.fresh (Nat.le_refl _);refine⟨.ref s1.heap.objs.size,upd H1 s1.heap.objs.size (.lst xs),I1.laid (t':=s1.toks) (λ b u e=>Heap.get?_push_of_some _ e) (Nat.le_refl _) ?_,rfl,q _ hf⟩;exact⟨z,us,0,r,Heap.get?_push_size _ rfl⟩
abbrev Sp:=List V->Hp->VK->XK->Prop
abbrev CXT:=List Env->Hp->Shared->XK->VP
structure aa1(P:Program)(w:World)(K:FG)(mg:Str->Option Value)(base:Heap)(A:Around)(outer:List Env)(s:Shared)(H:Hp):Prop where
 frames:A.frames=some outer
 mod:Mod K mg base
 bs:∀ b o,base.get? b=some o->s.heap.get? b=some o/\H b=none
 bsz:base.objs.size<=s.heap.objs.size
 oF:s.heap.FunFrames base outer
 frf:∀ b∈frs outer,H b=none
 hok:HOk P w H s.heap
 bare:AllBare s.gens
def CE(outer:List Env)(P:Program)(w:World)(H:Hp)(s:Shared)(Q:VK)(u:Value)(s':Shared):Prop:=
 ∃ v H',s'.os=s.os/\AllBare s'.gens/\Un (frs outer) [] H H' s.heap s'.heap/\HOk P w H' s'.heap/\RelV v u/\Q v H'
def CR(CX:CXT)(outer:List Env)(P:Program)(w:World)(H:Hp)(s:Shared)(Q:VK)(E:XK)(r:Result)(s':Shared):Prop:=
 match r with
 | .ok (.ret u)=>CE outer P w H s Q u s'
 | .ok _=>False
 | .error e=>CX outer H s E e s'
structure cQ(P:Program)(w:World)(K:FG)(mg:Str->Option Value)(base:Heap)(CX:CXT)(k:Nat)(f:Addr)(fd:FuncData)(ps:List Str)(sp:Sp):Prop where
 len:∀ vs H Q E,sp vs H Q E->vs.length=ps.length
 run:∀ (A:Around) (outer:List Env) (s:Shared) (H:Hp) (args:Args) (us:List Value) (vs:List V) (Q:VK) (E:XK),fO k A->aa1 P w K mg base A outer s H->BindsTo s fd args (ps.zip us)->Vals vs us->sp vs H Q E ->
  codeAny (model P w) A (.call (.ref f) args) (CR CX outer P w H s Q E) s
theorem aa1.make{P:Program}{w:World}{K:FG}{mg:Str->Option Value}{base:Heap}{A:Around}{outer:List Env}{s:Shared}{H:Hp}(e:aa1 P w K mg base A outer s H)(C:Addr)(us:List Value)(kw:List (Str×Value)) :
  aa1 P w K mg base (A.under (.builtin "type.__call__" ⟨.ref C::us,kw⟩)) outer s H:=⟨by first | exact e.frames | (simpa [Around.under,Code.envs,Code.isFrame,pushEnvs] using e.frames),e.mod,e.bs,e.bsz,e.oF,e.frf,e.hok,e.bare⟩
theorem Inv.ahp(I:Inv X pins σ H s):aa1 X.prog X.w X.K X.mg X.base X.A X.stack s H:=
 ⟨I.ok.frames,I.ok.mod,I.bs,Nat.le_trans I.ok.bsz I.sz,I.stack,I.rQ,I.hok,I.bare⟩
theorem Inv.after(I:Inv X pins σ H s)(h:CE X.stack X.prog X.w H s Q u s'):EP X pins σ Q u s':=by obtain⟨v,H',os,bare,un,hok,r,q⟩:=h;obtain⟨hh,g,d,t,os'⟩:=s';obtain rfl:os'=s.os:=os;exact⟨v,H',I.call (h':=hh) (g':=g) (d':=d) (t':=t) (ch:=[]) un hok bare (λ b z=>absurd z (by simp)),r,q⟩
def afm(sp:Sp)(dvs:List V)(E:XK)(t:TA):TE:=λ σ H Q=>t σ H λ vs H1=>sp (vs++dvs) H1 Q E
def Binds(K:FG)(fd:FuncData)(ps:List Str)(ds:List Value):Prop:=
 ∀ (s:Shared) (us:List Value),K.In s.heap->(us++ds).length=ps.length->BindsTo s fd ⟨us,[]⟩ (ps.zip (us++ds))
theorem Binds.all{K:FG}{fd:FuncData}{ps:List Str}(h:∀ us:List Value,us.length=ps.length->bindArgs fd ⟨us,[]⟩=pure (ps.zip us)):Binds K fd ps []:=λ s us _ hl=>by rw[List.append_nil] at hl ⊢;exact .of_eq (h us hl)
def Passes(CX:CXT)(X:Cx)(E:XK):Prop:=∀ (pins:PN) (σ:St) (H:Hp) (s:Shared) (e:Value) (s':Shared),Inv X pins σ H s->CX X.stack H s E e s'->X.xe e s'
theorem ack(F:cQ X.prog X.w X.K X.mg X.base CX k f fd ps sp)(hr:fO k X.A)(hb:Binds X.K fd ps ds)(hd:Vals dvs ds)(hx:Passes CX X E)
  (I:Inv X pins σ H s)(r:Vals vs us)(h:sp (vs++dvs) H Q E):wpAny (model X.prog X.w) X.A (call (.ref f) us) (EP X pins σ Q) X.xe s:=by
 have r2:Vals (vs++dvs) (us++ds):=r.append hd;have hl:(us++ds).length=ps.length:=by rw[<- r2.length];exact F.len _ _ _ _ h
 refine wpAny_call (codeAny_mono (F.run X.A X.stack s H ⟨us,[]⟩ (us++ds) (vs++dvs) Q E hr I.ahp (hb s us I.kIn hl) r2 h) λ r s' hq=>?_);cases r with
 | error e=>exact hx pins σ H s e s' I hq
 | ok fl =>
  cases fl with
  | ret u=>exact I.after hq
  | next=>exact False.elim hq
  | brk=>exact False.elim hq
  | cont=>exact False.elim hq
theorem aeo(F:cQ X.prog X.w X.K X.mg X.base CX k f fd ps sp)(hr:fO k X.A)(hg:Gl X x)(hm:X.mg x=some (.ref f))(hk:W.keepIn X.K (.ref f)=true)(hb:Binds X.K fd ps ds)(hd:Vals dvs ds)(hx:Passes CX X E)
  (ha:PA X (e::es) t)(hdb:ND x:=by decide)(he:starEach (e::es) X.env=(false,eval e X.env)::starEach es X.env:=by rfl)(hpl:(backTo pos (starEach es X.env)).any (·.1)=false:=by rfl) :
  PE X (.Call (.Name x p) (e::es) [] pos) (afm sp dvs E t):=by
 intro pins s σ H Q I h;refine wpAny_Call_Name_kw (gi I hg hm ?_ hdb);refine W.callWith_K (h₀:=X.base) I.ok.mod.kin hk (thn (ha pos pins s σ H _ I h) λ us s1 ⟨vs,H1,I1,r,q⟩=>⟨I1.kIn,?_⟩) he hpl;exact ack F hr hb hd hx I1 r q
theorem abe(F:cQ X.prog X.w X.K X.mg X.base CX k f fd ps sp)(hr:fO k X.A)(hg:Gl X x)(hm:X.mg x=some (.ref f))(hk:W.keepIn X.K (.ref f)=true)(hb:Binds X.K fd ps ds)(hd:Vals dvs ds)(hx:Passes CX X E)
  (hdb:ND x:=by decide):PE X (.Call (.Name x p) [] [] pos) (afm sp dvs E ajl):=by
 intro pins s σ H Q I h;refine wpAny_Call_Name_kw (gi I hg hm ?_ hdb);exact W.callWith_K0 I.kIn hk (ack (us:=[]) F hr hb hd hx I .nil h)
structure Mk(K:FG)(C f:Addr):Prop where
 makes:W.makesIn K C=true
 init:W.findIn K (.ref C) "__init__" = some (some (.ref f))
 fn:W.isFn K (.ref f)=true
 kp:W.keepIn K (.ref C)=true
structure aK(N P:List Str)(sc:Scope):Prop where
 kind:sc.kind=.function
 co:sc.isCoroutine=false
 gen:sc.isGenerator=false
 nd:N.Nodup
 pre:N.take P.length=P
 par:∀ x∈P,sc.names.lookup x=some .local\/sc.names.lookup x=some .cell
 nofree:∀ y∈sc.names,y.2 ≠ .free
theorem ph{kindOf:Str->Option NameKind}:∀ {binds:List (Str×Value)} {m:Str->Option Value},(∀ v,(x,v) ∉ binds)->bindL kindOf binds m x=m x
 | [],_,_=>rfl
 | (n,v)::r,m,h=>by
  unfold bindL;rw[ph λ w hw=>h w (List.mem_cons_of_mem _ hw)]
  split
  ·have:x≠n:=by rintro rfl;exact h v List.mem_cons_self
   simp[this]
  ·rfl
theorem qE{kindOf:Str->Option NameKind}:∀ {binds:List (Str×Value)} {m:Str->Option Value},(∀ v,(x,v) ∉ binds)->bindC kindOf binds m x=m x
 | [],_,_=>rfl
 | (n,v)::r,m,h=>by
  unfold bindC;rw[qE λ w hw=>h w (List.mem_cons_of_mem _ hw)]
  split
  ·rfl
  ·have:x≠n:=by rintro rfl;exact h v List.mem_cons_self
   simp[this]
theorem qC{kindOf:Str->Option NameKind}{v:Value}:∀ {P:List Str} {vs:List Value} {i:Nat} {m:Str->Option Value},P.Nodup->P[i]? =some x->vs[i]? =some v->kindOf x=some .local ->
  bindL kindOf (P.zip vs) m x=some v
 | [],_,_,_,_,h,_,_=>by simp at h
 | _::_,[],_,_,_,_,h,_=>by simp at h
 | p::P,w::vs,0,m,nd,h1,h2,hk=>by simp at h1 h2;subst h1;subst h2;show bindL kindOf ((p,w)::P.zip vs) m p=_;unfold bindL;rw[ph λ v hv=>(List.nodup_cons.mp nd).1 (List.of_mem_zip hv).1,if_pos hk];simp
 | p::P,w::vs,i+1,m,nd,h1,h2,hk=>by show bindL kindOf ((p,w)::P.zip vs) m x=_;unfold bindL;exact qC (i:=i) (List.nodup_cons.mp nd).2 (by simpa using h1) (by simpa using h2) hk
theorem pL{kindOf:Str->Option NameKind}{v:Value}:∀ {P:List Str} {vs:List Value} {i:Nat} {m:Str->Option Value},P.Nodup->P[i]? =some x->vs[i]? =some v->kindOf x≠some .local ->
  bindC kindOf (P.zip vs) m x=some v
 | [],_,_,_,_,h,_,_=>by simp at h
 | _::_,[],_,_,_,_,h,_=>by simp at h
 | p::P,w::vs,0,m,nd,h1,h2,hk=>by simp at h1 h2;subst h1;subst h2;show bindC kindOf ((p,w)::P.zip vs) m p=_;unfold bindC;rw[qE λ v hv=>(List.nodup_cons.mp nd).1 (List.of_mem_zip hv).1,if_neg hk];simp
 | p::P,w::vs,i+1,m,nd,h1,h2,hk=>by show bindC kindOf ((p,w)::P.zip vs) m x=_;unfold bindC;exact pL (i:=i) (List.nodup_cons.mp nd).2 (by simpa using h1) (by simpa using h2) hk
def start(N:List Str)(vs:List V):St:=vs.map some++List.replicate (N.length-vs.length) none
def tm(CX:CXT)(P:Program)(w:World)(K:FG)(mg:Str->Option Value)(base:Heap)(N:List Str)(qual:Str)(scope:Scope)(f:Addr)(cd:Value)(A:Around)(outer:List Env)(s:Shared)(H:Hp)(E:XK):Cx where
 prog:=P
 w:=w
 K:=K
 mg:=mg
 base:=base
 A:=A.deeper (envOfC qual scope s.heap.objs.size f cd)
 N:=N
 s₀:=s
 H₀:=H
 env:=envOfC qual scope s.heap.objs.size f cd
 outer:=outer
 stack:=envOfC qual scope s.heap.objs.size f cd::outer
 ex:=[]
 calm:=true
 fn:=λ _=>true
 pn:=[]
 xe:=λ e s'=>wpAny (model P w) (A.deeper (envOfC qual scope s.heap.objs.size f cd)) (leaving (envOfC qual scope s.heap.objs.size f cd) e) (λ _ s''=>CX outer H s E e s'') (λ e' s''=>CX outer H s E e' s'') s'
theorem uN{sc:Scope}{n:Nat}(h:sc.names.lookup x=some .cell):∃ c,(cellsFrom n sc.names []).lookup x=some c:=by have q:=W.cellsFrom_some sc.names n [] (.inl h);exact Option.isSome_iff_exists.mp q
theorem qP{CX:CXT}{P:Program}{w:World}{K:FG}{mg:Str->Option Value}{base:Heap}{N ps:List Str}{qual:Str}{scope:Scope}{f:Addr}{cd:Value}{A:Around}{outer:List Env}{s s1:Shared}{H:Hp}{E:XK}{us:List Value}{vs:List V}
  (S:aK N ps scope)(hd:A.handled=none)(e0:aa1 P w K mg base A outer s H)(hl:vs.length=ps.length)(r:Vals vs us)
  (x:InCallC s s.heap.objs.size (bindL (envOfC qual scope s.heap.objs.size f cd).kindOf (ps.zip us) λ _=>none) (cellsFrom (s.heap.objs.size+1) scope.names []) (bindC (envOfC qual scope s.heap.objs.size f cd).kindOf (ps.zip us) λ _=>none) s1) :
  Inv (tm CX P w K mg base N qual scope f cd A outer s H E) [] (start N vs) H s1:=by
 have hpl:ps.length<=N.length:=by have:=congrArg List.length S.pre;rw[List.length_take] at this;omega
 obtain⟨h1,tk,rfl,hk⟩:=x.done;have noA:∀ b:Addr,b ∉ (tm CX P w K mg base N qual scope f cd A outer s H E).ex:=λ b z=>absurd (show b∈([]:List Addr) from z) (by simp);refine⟨⟨e0.mod,S.kind,rfl,rfl,Nat.le_refl _,λ y z c h1 h2=>?_,λ y hy=>?_,λ y c _ h=>?_,λ _=>hd,Around.frames_deeper e0.frames,.inr ⟨rfl,rfl⟩,λ b z=>absurd z (noA b),e0.bs,e0.bsz,λ b _ _=>noA b,λ b z=>absurd z (noA b),e0.oF,e0.frf⟩,
  rfl,e0.bare,Un.kept hk,⟨_,x.toInCall.ns,λ i y v h1 h2 h3=>?_⟩,λ y c h=>⟨_,x.cell y c h⟩,e0.hok.fresh (Nat.le_refl _),λ y c h=>?_,λ p hp=>absurd (show p∈([]:PN) from hp) (by simp),e0.hok.kept hk,?_⟩
 ·exact name_of_addr x.apart (PySem.mem_of_lookup h1) (PySem.mem_of_lookup h2)
 ·have hy:scope.names.lookup y=some .cell\/scope.names.lookup y=some .free:=hy;rcases hy with hy | hy
  ·exact uN hy
  ·exact absurd rfl (S.nofree _ (PySem.mem_of_lookup hy))
 ·exact Nat.le_of_lt (x.above y c (PySem.mem_of_lookup h))
 ·have hi:i<vs.length:=by
   unfold start at h2
   by_cases hi:i<vs.length
   ·exact hi
   ·rw[List.getElem?_append_right (by simpa using hi)] at h2;rw[List.getElem?_replicate] at h2
    split at h2<;>cases h2
  have ha:vs[i]? =some v:=by
   unfold start at h2;rw[List.getElem?_append_left (by simpa using hi),List.getElem?_map] at h2;cases e:vs[i]? with
   | none=>rw[e] at h2;cases h2
   | some a=>rw[e] at h2;cases h2;rfl
  obtain⟨u,hu,rv⟩:=r.get ha;have hp:ps[i]? =some y:=by rw[<- S.pre,List.getElem?_take_of_lt (by omega)];exact h1
  have ndP:ps.Nodup:=by rw[<- S.pre];exact S.nd.sublist (List.take_sublist _ _)
  refine⟨u,rv,?_⟩;rcases S.par y (List.mem_of_getElem? hp) with k | k
  ·exact .inl ⟨k,qC ndP hp hu k⟩
  ·obtain⟨c,e⟩:=uN (n:=s.heap.objs.size+1) k;refine .inr ⟨.inl k,c,e,?_⟩;have q:=x.cell y c e;rw[pL ndP hp hu (by show scope.names.lookup y≠_;rw[k];decide)] at q;exact q
 ·exact e0.hok.fresh (Nat.le_of_lt (x.above y c (PySem.mem_of_lookup h)))
 ·unfold start;show _=N.length;rw[List.length_append,List.length_map,List.length_replicate];omega
theorem af1{CX:CXT}{P:Program}{w:World}{K:FG}{mg:Str->Option Value}{base:Heap}{k:Nat}{f:Addr}{name qual:Str}{params:Arguments}{body:List Stmt}{scope:Scope}{dV kV doc pm cdv ct oc:Value}{an od:Option Addr}
  {osl:Array (Option Value)}{N ps:List Str}{sp:Sp}(lk:K.lookup f=some ⟨oc,od,.func (W.fnOf name qual params body scope dV kV doc pm an cdv ct),osl⟩)(hcd:W.codeIn K cdv qual=true)(S:aK N ps scope)
  (len:∀ vs H Q E,sp vs H Q E->vs.length=ps.length)
  (hbody:∀ (A:Around) (outer:List Env) (s:Shared) (H:Hp) (vs:List V) (Q:VK) (E:XK),fO k (A.deeper (envOfC qual scope s.heap.objs.size f cdv))->sp vs H Q E ->
   ∃ t,PSs (tm CX P w K mg base N qual scope f cdv A outer s H E) body t/\t {nx:=λ _ H'=>Q .non H',rt:=Q} (start N vs) H) :
  cQ P w K mg base CX (k+1) f (W.fnOf name qual params body scope dV kV doc pm an cdv ct) ps sp:=by
 refine⟨len,λ A outer s H args us vs Q E hr e0 hb r hsp=>?_⟩;have hl:=len _ _ _ _ hsp;have KX:K.In s.heap:=e0.mod.kin.keeps λ b o e=>(e0.bs b o e).1;have lim:s.heap.NoLimit:=e0.mod.nolimit.keeps λ b o e=>(e0.bs b o e).1;have hkind:∀ y∈ps.zip us,scope.names.lookup y.1=some .local\/(scope.names.lookup y.1=some .cell/\((cellsFrom (s.heap.objs.size+1) scope.names []).lookup y.1).isSome=true):=λ⟨n,v⟩ hy=>by
  rcases S.par n (List.of_mem_zip hy).1 with q | q
  ·exact .inl q
  ·exact .inr ⟨q,W.cellsFrom_some _ _ _ (.inl q)⟩
 refine codeAny_call_function hr.depth (KX _ _ lk) rfl S.co S.gen rfl (W.codeRec_of KX hcd) (hb _ _ _ _ ?_);refine wpAny_newFunctionEnv_cells S.kind hkind λ env he s1 x=>?_;subst he;refine⟨lim.keeps x.toInCall.keep,codeAny_func ?_⟩;obtain⟨t,ht,hq⟩:=hbody A outer s H vs Q E (hr.deeper _) hsp;have I:Inv (tm CX P w K mg base N qual scope f cdv A outer s H E) [] (start N vs) H s1:=qP S hr.hd e0 hl r x;refine wpAny_mono (ht [] s1 (start N vs) H _ I hq) (λ fl s' hs=>?_) λ e s' hs=>hs;have fin:∀ {σ':St} {H':Hp} {v:V} {u:Value},Inv (tm CX P w K mg base N qual scope f cdv A outer s H E) [] σ' H' s'->RelV v u->Q v H'->CE outer P w H s Q u s':=
  λ {σ' H' v u} J rv q=>⟨v,H',J.os,J.bare,J.base,J.hok,rv,q⟩
 cases fl with
 | ret u =>
  obtain⟨v,σ',H',J,rv,q⟩:=hs;exact fin J rv q
 | next =>
  obtain⟨σ',H',J,q⟩:=hs;exact fin (v:=V.non) (u:=Value.none) J rfl q
 | brk =>
  obtain⟨_,_,_,q⟩:=hs;exact False.elim q
 | cont =>
  obtain⟨_,_,_,q⟩:=hs;exact False.elim q
section
variable {X:Cx}{x:Str}{p pos:Pos}{e:Expr}{es:List Expr}{t:TA}{id T:String}{r:List V->Hp->VK->Prop}
def tCB(r:List V->Hp->VK->Prop)(t:TA):TE:=λ σ H Q=>t σ H λ vs H1=>r vs H1 Q
theorem uQ(hc:eU X (.builtin id) r)(hg:Gl X x)(hm:X.mg x=none)(hv:bootBuiltins x=some (.builtin id))(ha:PA X (e::es) t)(hn:x ≠ "__name__":= by decide)(hdb:ND x:=by decide)
  (he:starEach (e::es) X.env=(false,eval e X.env)::starEach es X.env:=by rfl)(hpl:(backTo pos (starEach es X.env)).any (·.1)=false:=by rfl):PE X (.Call (.Name x p) (e::es) [] pos) (tCB r t):=by
 intro pins s σ H Q I h;refine wpAny_Call_Name_kw (lE I hg hm hv ?_ hn hdb);exact PyProof.Rows.callWith_builtin1 (thn (ha pos pins s σ H _ I h) λ us s1 ⟨vs,H1,I1,r1,q1⟩=>hc pins s1 σ H1 vs us Q I1 r1 q1) he hpl
theorem xC(hc:eU X (.type T) r)(hg:Gl X x)(hm:X.mg x=none)(hv:bootBuiltins x=some (.type T))(ha:PA X (e::es) t)(hn:x ≠ "__name__":= by decide)(hdb:ND x:=by decide)
  (he:starEach (e::es) X.env=(false,eval e X.env)::starEach es X.env:=by rfl)(hpl:(backTo pos (starEach es X.env)).any (·.1)=false:=by rfl):PE X (.Call (.Name x p) (e::es) [] pos) (tCB r t):=by
 intro pins s σ H Q I h;refine wpAny_Call_Name_kw (lE I hg hm hv ?_ hn hdb);exact PyProof.Rows.callWith_type1 (thn (ha pos pins s σ H _ I h) λ us s1 ⟨vs,H1,I1,r1,q1⟩=>hc pins s1 σ H1 vs us Q I1 r1 q1) he hpl
end
end L2
namespace HT
open PySem PyProof.Rows
section
open PySem.SeqAt
open PySem.AutoSeq1 (wpAny_loadPart')
open PySem.MeetsSeq PySem.MeetsSeq2 PySem.MeetsSeq3
end
def sIx(n d:Nat):Option Int->Nat
 | none=>d
 | some v=>if v<0 then (v+(n:Int)).toNat else min v.toNat n
theorem aff(n d:Nat)(hd:d<=n)(o:Option Int):sIx n d o<=n:=by
 cases o with
 | none=>exact hd
 | some v =>
  show(if v<0 then (v+(n:Int)).toNat else min v.toNat n)<=n
  by_cases hv:v<0
  ·rw[if_pos hv];omega
  ·rw[if_neg hv];exact Nat.min_le_right _ _
theorem xG(v:Int)(n d:Nat):(if v<0 then max (v+(n:Int)) 0 else min v (n:Int))=((sIx n d (some v):Nat):Int):=by
 show(if v<0 then max (v+(n:Int)) 0 else min v (n:Int))=(((if v<0 then (v+(n:Int)).toNat else min v.toNat n):Nat):Int)
 by_cases hv:v<0
 ·simp only[if_pos hv];omega
 ·simp only[if_neg hv];omega
theorem vi(lo hi:Option Int)(n:Nat):Builtin.Slice.sliceAdjust lo hi 1 (n:Int)=(((sIx n 0 lo:Nat):Int),((sIx n n hi:Nat):Int)):=by
 have h1:¬ ((1:Int)<0):=by omega
 unfold Builtin.Slice.sliceAdjust;simp only[h1,if_false];refine Prod.ext ?_ ?_
 ·cases lo with
  | none=>rfl
  | some v=>exact xG v n 0
 ·cases hi with
  | none=>rfl
  | some v=>exact xG v n n
theorem vL(i j:Nat):Builtin.Slice.slicePlaces (i:Int) (j:Int) 1=j-i:=by
 unfold Builtin.Slice.slicePlaces;have h1:(1:Int) > 0:=by omega
 simp only[h1,if_true,Int.ediv_one]
 split<;>omega
theorem mV(p:IsPart v o)(h:Q o s):wpAny (model prog w) A (Builtin.Slice.slicePartIndex v) Q E s:=by
 cases p with
 | none=>exact slicePart_none h
 | int i t=>exact slicePart_int h
theorem jr{sl:Addr}{vl vu:Value}{lo hi:Option Int}{n:Nat}(hs:s.heap.IsSliceOf sl vl vu .none)(pl:IsPart vl lo)(pu:IsPart vu hi)
  (h:Q (((sIx n 0 lo:Nat):Int),1,sIx n n hi-sIx n 0 lo) s):wpAny (model prog w) A (Builtin.Slice.sliceApplied (.ref sl) (pure (n:Int))) Q E s:=by
 obtain⟨os,hos,hcs,hds⟩:=id hs;unfold Builtin.Slice.sliceApplied Builtin.Slice.sliceFields;refine wpAny_bind (wpAny_bind (wpAny_field hos hds (x:=vl) rfl (wpAny_bind (wpAny_field hos hds (x:=vu) rfl (wpAny_bind (wpAny_field hos hds (x:=.none) rfl (wpAny_pure ?_)))))));refine wpAny_bind (slicePart_none ?_);show wpAny _ _ (if ((1:Int)==0)=true then _ else _) _ _ s;rw[if_neg (by decide)];refine wpAny_bind (mV pl (wpAny_bind (mV pu (wpAny_bind (wpAny_pure ?_)))));show wpAny _ _ (match Builtin.Slice.sliceAdjust lo hi 1 (n:Int) with | (lo,hi)=>pure (lo,(1:Int),Builtin.Slice.slicePlaces lo hi 1)) _ _ s
 rw[vi lo hi n];show wpAny _ _ (pure (((sIx n 0 lo:Nat):Int),(1:Int),Builtin.Slice.slicePlaces ((sIx n 0 lo:Nat):Int) ((sIx n n hi:Nat):Int) 1)) _ _ s;rw[vL];exact wpAny_pure h
theorem abt(xs:Array Value)(i k:Nat):((List.range k).filterMap λ(m:Nat)=>xs[((i:Int)+(m:Int) * 1).toNat]?).toArray=((xs.toList.drop i).take k).toArray:=by
 have e:(λ(m:Nat)=>xs[((i:Int)+(m:Int) * 1).toNat]?)=λ m=>xs[i+m]?:=by
  funext m;have:((i:Int)+(m:Int) * 1).toNat=i+m:=by omega
  rw[this]
 rw[e];have:=pick_run xs i k;rw[List.filterMap_map] at this;have e2:((λ x=>xs[x]?) ∘ λ x=>i+x)=λ m=>xs[i+m]?:=rfl;rw[e2] at this;rw[this]
theorem iR{t sl:Addr}{items:Array Value}{vl vu:Value}{lo hi:Option Int}(ht:IsTup s.heap t items)(hs:s.heap.IsSliceOf sl vl vu .none)(pl:IsPart vl lo)(pu:IsPart vu hi)
  (hw:¬ (sIx items.size 0 lo=0/\sIx items.size items.size hi=items.size))
  (h:Q (.ref s.heap.objs.size) {s with heap:=s.heap.push {cls:=.type "tuple",data:=.seq ((items.toList.drop (sIx items.size 0 lo)).take (sIx items.size items.size hi-sIx items.size 0 lo)).toArray}})
  (hsz:items.size<=sizeLine):wpAny (model prog w) A (getItem (.ref t) (.ref sl)) Q E s:=by
 have htake:sizeOk (.seq ((items.toList.drop (sIx items.size 0 lo)).take (sIx items.size items.size hi-sIx items.size 0 lo)).toArray):=by show((items.toList.drop (sIx items.size 0 lo)).take (sIx items.size items.size hi-sIx items.size 0 lo)).toArray.size<=sizeLine;rw[List.size_toArray,List.length_take,List.length_drop,Array.length_toList];omega
 have hj:sIx items.size items.size hi<=items.size:=aff _ _ (Nat.le_refl _) hi;obtain⟨os,hos,hcs,hds⟩:=id hs;have hTs:s.TypeIs (.ref sl) "slice":= ⟨os,hos,hcs⟩;unfold getItem
 try with_reducible refine wpAny_holding ?_
 first | refine wpAny_bind (wpAny_pure ?_) | skip
 refine wpAny_bind (wpAny_sequenceKey ht.typeIs (by decide) ?_);refine wpAny_bind (wpAny_callSpecial?_slot (name:=Str.ofString "__getitem__") ht.typeIs PyProof.Rows.slot_tuple_getitem
  (wpAny_call_entry PyProof.Rows.slot_tuple_getitem ht.typeIs entry_tuple_getitem ?_ (args_tuple_getitem _ _)))
 show wpAny _ _ (Builtin.Tuple.tupleItemsOf (.ref t) >>= _) _ _ s;refine wpAny_bind (tupleItemsOf_ ht ?_);refine wpAny_bind (wpAny_typeOf hTs ?_);rw[if_pos (by decide)];refine wpAny_bind (jr hs pl pu ?_);have hno:¬ ((((sIx items.size 0 lo:Nat):Int)==0&&(1:Int)==1&&(sIx items.size items.size hi-sIx items.size 0 lo)==items.size)=true):=by intro q;rw[Bool.and_eq_true,Bool.and_eq_true] at q;have q1:((sIx items.size 0 lo:Nat):Int)=0:=eq_of_beq q.1.1;have q2:sIx items.size items.size hi-sIx items.size 0 lo=items.size:=eq_of_beq q.2;exact hw ⟨by omega,by omega⟩
 show wpAny _ _ (if (((sIx items.size 0 lo:Nat):Int)==0&&(1:Int)==1&&(sIx items.size items.size hi-sIx items.size 0 lo)==items.size)=true then _ else _) _ _ s;rw[if_neg hno,abt]
 first
  | exact wpAny_bind (m:=Builtin.Tuple.tupleExact _) (wpAny_newObj_type (wpAny_pure ⟨_,rfl,wpAny_pure h⟩) htake)
  | exact wpAny_bind (m:=Builtin.Tuple.tupleExact _) (wpAny_newObj_type (wpAny_bind (wpAny_pure (wpAny_pure ⟨_,rfl,wpAny_pure h⟩))) htake)
  | exact wpAny_bind (wpAny_bind (m:=Builtin.Tuple.tupleExact _) (wpAny_newObj_type (wpAny_pure (wpAny_pure ⟨_,rfl,wpAny_pure h⟩)) htake))
  | exact wpAny_bind (wpAny_bind (m:=Builtin.Tuple.tupleExact _) (wpAny_newObj_type (wpAny_pure ⟨_,rfl,wpAny_pure h⟩) htake))
end HT
namespace L2
abbrev TO:=St->Hp->(Option Int->Hp->Prop)->Prop
def PO(X:Cx)(e:Option Expr)(t:TO):Prop:=
 ∀ (pins:PN) (s:Shared) (σ:St) (H:Hp) (Q:Option Int->Hp->Prop),Inv X pins σ H s->t σ H Q ->
  wpAny (model X.prog X.w) X.A (evalPart e X.env) (λ u s'=>∃ o H',Inv X pins σ H' s'/\IsPart u o/\Q o H') X.xe s
def ads:TO:=λ _ H Q=>Q none H
def ahX(t:TE):TO:=λ σ H Q=>t σ H λ x H1=>∃ i,x=.int i/\Q (some i) H1
section
variable {X:Cx}{e:Expr}{te:TE}{lo hi:Option Expr}{tl th:TO}{pos p2:Pos}
theorem ad7:PO X none ads:=by intro pins s σ H Q I h;rw[evalPart_none];exact wpAny_pure ⟨none,H,I,.none,h⟩
theorem adP(h:PE X e te):PO X (some e) (ahX te):=by intro pins s σ H Q I hw;rw[evalPart_some];refine thn (h pins s σ H _ I hw) λ u s1 hq23=>?_;obtain⟨x,H1,I1,r1,q1⟩:=hq23;obtain⟨i,rfl,q⟩:=q1;obtain⟨t,rfl⟩:=r1;exact⟨some i,H1,I1,.int i t,q⟩
def SlR(X:Cx)(r:V->Option Int->Option Int->Hp->VK->Prop):Prop:=
 ∀ (pins:PN) (s:Shared) (σ:St) (H:Hp) (x:V) (v vl vu:Value) (lo hi:Option Int) (sl:Addr) (Q:VK),Inv X pins σ H s->RelV x v->s.heap.IsSliceOf sl vl vu .none->IsPart vl lo->IsPart vu hi->r x lo hi H Q ->
  ∃ T id,typeLookup (.type T) "__getitem__" = pure (some (.builtin id))/\s.TypeIs v T/\wpAny (model X.prog X.w) X.A (getItem v (.ref sl)) (EP X pins σ Q) X.xe s
theorem SlR.or(h:SlR X r)(h':SlR X r'):SlR X (λ x lo hi H Q=>r x lo hi H Q\/r' x lo hi H Q):=by
 intro pins s σ H x v vl vu lo hi sl Q I rx hs pl pu q;rcases q with q | q
 ·exact h pins s σ H x v vl vu lo hi sl Q I rx hs pl pu q
 ·exact h' pins s σ H x v vl vu lo hi sl Q I rx hs pl pu q
def tSl(r:V->Option Int->Option Int->Hp->VK->Prop)(te:TE)(tl th:TO):TE:=λ σ H Q=>te σ H λ x H1=>tl σ H1 λ l H2=>th σ H2 λ u H3=>r x l u H3 Q
theorem aa9(hr:SlR X r)(he:PE X e te)(hl:PO X lo tl)(hu:PO X hi th):PE X (.Subscript e (.Slice lo hi none p2) pos) (tSl r te tl th):=by intro pins s σ H Q I h;refine Subscript_ (thn (he pins s σ H _ I h) λ v s1 hq24=>?_);obtain⟨x,H1,I1,r1,q1⟩:=hq24;refine wpAny_Slice (thn (hl pins s1 σ H1 _ I1 q1) λ vl s2 ⟨l,H2,I2,pl,q2⟩=>thn (hu pins s2 σ H2 _ I2 q2) λ vu s3 hq25=>?_);obtain⟨u,H3,I3,pu,q3⟩:=hq25;rw[evalPart_none];refine wpAny_pure ?_;have I4:Inv X pins σ H3 {s3 with heap:=s3.heap.push {cls:=.type "slice",data:=.fields #[vl,vu,.none]}}:=I3.kept (t':=s3.toks) λ b ob q=>Heap.get?_push_of_some _ q;obtain⟨T,id,hT,ht,hg⟩:=hr pins {s3 with heap:=s3.heap.push {cls:=.type "slice",data:=.fields #[vl,vu,.none]}} σ H3 x v vl vu l u s3.heap.objs.size Q I4 r1 (Heap.IsSliceOf.new ..) pl pu q3;show wpAny (model X.prog X.w) X.A (subscriptTail e (.Slice lo hi none p2) v (.ref s3.heap.objs.size)) (EP X pins σ Q) X.xe {s3 with heap:=s3.heap.push {cls:=.type "slice",data:=.fields #[vl,vu,.none]}};exact tail_any (ops:=[.ref s3.heap.objs.size,v]) ht hT hg (by with_unfolding_all rfl)
def ab5(xs:List V)(lo hi:Option Int):List V:=(xs.drop (HT.sIx xs.length 0 lo)).take (HT.sIx xs.length xs.length hi-HT.sIx xs.length 0 lo)
theorem lJ(xs:List V)(lo hi:Option Int):(ab5 xs lo hi).length<=xs.length:=by
 unfold ab5;rw[List.length_take,List.length_drop];omega
def ajD(K:FG):V->Option Int->Option Int->Hp->VK->Prop:=λ x lo hi H Q=>∃ a xs,x=.ref a/\SqT K H a xs /\
 ¬ (HT.sIx xs.length 0 lo=0/\HT.sIx xs.length xs.length hi=xs.length)/\∀ p,H p=none->Q (.ref p) (upd H p (.tup (ab5 xs lo hi)))
theorem af4:SlR X (ajD X.K):=by
 intro pins s σ H x v vl vu lo hi sl Q I rx hs pl pu h;obtain⟨a,xs,rfl,hx,hw,q⟩:=h;cases rx;obtain⟨its,r,ht,hz⟩:=I.tuple hx;have hlen:its.toArray.size=xs.length:=by rw[List.size_toArray];exact r.length.symm
 refine⟨"tuple",_,PyProof.Rows.slot_tuple_getitem.lookup,ht.typeIs,?_⟩;refine HT.iR ht hs pl pu (by rw[hlen];exact hw) ?_ (by rw[hlen];exact hz);rw[hlen];refine⟨.ref s.heap.objs.size,_,I.laid (t':=s.toks) (o:=.tup (ab5 xs lo hi)) (λ b ob q=>Heap.get?_push_of_some _ q) (Nat.le_refl _) ?_,rfl,q _ (I.hok.fresh (Nat.le_refl _))⟩;exact⟨Nat.le_trans (lJ xs lo hi) hz,_,(r.drop (HT.sIx xs.length 0 lo)).take (HT.sIx xs.length xs.length hi-HT.sIx xs.length 0 lo),abl.new _ _⟩
end
def ixN(n:Nat)(i:Int):Option Nat:=if 0<=i then (if i<n then some i.toNat else none) else if -(n:Int)<=i then some (i+n).toNat else none
def atI(xs:List α)(i:Int):Option α:=(ixN xs.length i).bind λ j=>xs[j]?
theorem yo(h:ixN n i=some j):seqIndex? i n=some j/\j<n/\-(n:Int)<=i/\i<n:=by
 unfold ixN at h
 by_cases h0:0<=i
 ·rw[if_pos h0] at h
  by_cases h1:i<n
  ·rw[if_pos h1] at h;have e:i.toNat=j:=Option.some.inj h;exact⟨by rw[seqIndex_of h0 h1,e],by omega,by omega,h1⟩
  ·rw[if_neg h1] at h;cases h
 ·rw[if_neg h0] at h
  by_cases h1:-(n:Int)<=i
  ·rw[if_pos h1] at h;have e:(i+n).toNat=j:=Option.some.inj h;exact⟨by rw[seqIndex_neg (by omega) h1,e],by omega,h1,by omega⟩
  ·rw[if_neg h1] at h;cases h
theorem oN(h:atI xs i=some v):∃ j,seqIndex? i xs.length=some j/\xs[j]? =some v/\j<xs.length/\-(xs.length:Int)<=i/\i<xs.length:=by
 unfold atI at h;cases e:ixN xs.length i with
 | none=>rw[e] at h;cases h
 | some j =>
  rw[e] at h;obtain⟨h1,h2,h3,h4⟩:=yo e;exact⟨j,h1,h,h2,h3,h4⟩
theorem iX{α:Type}{xs:List α}{j:Nat}{v:α}(h:xs[j]? =some v):atI xs (j:Int)=some v:=by
 have hj:j<xs.length:=(List.getElem?_eq_some_iff.mp h).1;have e:ixN xs.length (j:Int)=some j:=by
  unfold ixN;rw[if_pos (by omega),if_pos (by omega)];simp
 unfold atI;rw[e];exact h
theorem aaO(xs:List α)(v:α):atI (xs++[v]) (-1)=some v:=by
 have hl:(xs++[v]).length=xs.length+1:=by simp
 have e:ixN (xs++[v]).length (-1)=some xs.length:=by
  unfold ixN;rw[hl,if_neg (by decide),if_pos (by omega)];congr 1;omega
 unfold atI;rw[e];show(xs++[v])[xs.length]? =some v;simp
def sX(b:Expr):Prop:=∀ o i,subscripted b false o i=operate [o,i] (getItem o i)
def IxR(X:Cx)(r:R2):Prop:=
 ∀ (value slice:Expr) (pins:PN) (s:Shared) (σ:St) (H:Hp) (x y:V) (v u:Value) (Q:VK),Inv X pins σ H s->RelV x v->RelV y u->r x y H Q ->
  subscripted slice false v u=operate [v,u] (getItem v u)->wpAny (model X.prog X.w) X.A (subscriptTail value slice v u) (EP X pins σ Q) X.xe s
def MtR(X:Cx)(id:String)(r:V->List V->Hp->VK->Prop):Prop:=
 ∀ (pins:PN) (s:Shared) (σ:St) (H:Hp) (x:V) (xs:List V) (v:Value) (us:List Value) (Q:VK),Inv X pins σ H s->RelV x v->Vals xs us->r x xs H Q ->
  wpAny (model X.prog X.w) X.A (call (.builtin id) (v::us)) (EP X pins σ Q) X.xe s
section
variable {X:Cx}{a b:Expr}{ta tb:TE}{pos:Pos}
theorem IxR.or(h:IxR X r)(h':IxR X r'):IxR X (λ x y H Q=>r x y H Q\/r' x y H Q):=by
 intro value slice pins s σ H x y v u Q I rx ry q hs;rcases q with q | q
 ·exact h value slice pins s σ H x y v u Q I rx ry q hs
 ·exact h' value slice pins s σ H x y v u Q I rx ry q hs
theorem aix(hr:IxR X r)(ha:PE X a ta)(hb:PE X b tb)(hs:sX b):PE X (.Subscript a b pos) (tOp r ta tb):=by intro pins s σ H Q I h;exact Subscript_ (ah6 ha hb I h λ v u s2 x y H2 I2 rx ry q=>hr a b pins s2 σ H2 x y v u Q I2 rx ry q (hs _ _))
def aiG(K:FG):R2:=λ x y H Q=>∃ p xs i v,x=.ref p/\y=.int i/\SqL K H p xs/\atI xs i=some v/\Q v H
def ajE(K:FG):R2:=λ x y H Q=>∃ p xs i v,x=.ref p/\y=.int i/\SqT K H p xs/\atI xs i=some v/\Q v H
def ajB:R2:=λ x y H Q=>∃ z i c,x=.str z/\y=.int i/\z.length<=sizeLine/\atI z.cps.toList i=some c/\Q (.str ⟨#[c]⟩) H
theorem aee:IxR X (aiG X.K):=by
 intro value slice pins s σ H x y v u Q I rx ry h hs;obtain⟨p,xs,i,z,rfl,rfl,hq,he,q⟩:=h;cases rx;obtain⟨t,rfl⟩:=ry;obtain⟨its,r,pl,hz⟩:=I.list hq;obtain⟨j,h1,h2,h3,h4,h5⟩:=oN he;obtain⟨w,ew,rw'⟩:=r.get h2;have hl:=r.length;have hn:=kR;have fin:EP X pins σ Q w s:=⟨z,H,I,rw',q⟩
 by_cases h0:0<=i
 ·have hj:i.toNat=j:=by rw[seqIndex_of h0 h5] at h1;exact Option.some.inj h1
  exact item_listR pl.isList h0 (by omega) (by rw[hj];simpa using ew) fin hs
 ·have hj:(i+(its.toArray.size:Int)).toNat=j:=by rw[seqIndex_neg (by omega) h4] at h1;rw[List.size_toArray,<- hl];exact Option.some.inj h1
  exact subscriptTail_builtinR (x:=w) pl.isList.typeIs slot_list_getitem.lookup
   (wpAny_getItem_list_neg (Q:=λ r s'=>r=w/\EP X pins σ Q r s') pl.isList (by omega) (by rw[List.size_toArray]<;>omega) (by omega) (by rw[hj];simpa using ew) ⟨rfl,fin⟩) hs
theorem ag2:IxR X (ajE X.K):=by
 intro value slice pins s σ H x y v u Q I rx ry h hs;obtain⟨p,xs,i,z,rfl,rfl,hq,he,q⟩:=h;cases rx;obtain⟨t,rfl⟩:=ry;obtain⟨its,r,pl,hz⟩:=I.tuple hq;obtain⟨j,h1,h2,h3,h4,h5⟩:=oN he;obtain⟨w,ew,rw'⟩:=r.get h2;have hl:=r.length;have hn:=kR;have fin:EP X pins σ Q w s:=⟨z,H,I,rw',q⟩;exact subscriptTail_builtinR (x:=w) pl.typeIs slot_tuple_getitem.lookup
  (getItem_tuple (j:=j) (Q:=λ r s'=>r=w/\EP X pins σ Q r s') pl (by omega) (by omega) (by rw[List.size_toArray,<- hl];exact h1) (by simpa using ew) ⟨rfl,fin⟩) hs
theorem agr:IxR X ajB:=by
 intro value slice pins s σ H x y v u Q I rx ry h hs;obtain⟨z,i,c,rfl,rfl,hz,he,q⟩:=h;obtain⟨t,rfl⟩:=rx;obtain⟨t',rfl⟩:=ry;obtain⟨j,h1,h2,h3,h4,h5⟩:=oN he;have hl:z.cps.toList.length=z.length:=by simp[Str.length]
 rw[hl] at h1 h4 h5;have hn:=kR;exact tail_any (typeIs_str s z t) slot_str_getitem.lookup (getItem_str (c:=c) (by have e1:decide (i < -(2 ^ 63:Int))=false:=decide_eq_false (by omega);have e2:decide (i >= 2 ^ 63)=false:=decide_eq_false (by omega);rw[e1,e2,Bool.or_false]) (by rw[h1];simpa using h2) ⟨.str ⟨#[c]⟩,H,I.tok _,⟨_,rfl⟩,q⟩) hs
def rIx(K:FG):R2:=λ x y H Q=>aiG K x y H Q\/ajE K x y H Q\/ajB x y H Q
theorem aZ:IxR X (rIx X.K):=aee.or (ag2.or agr)
theorem we(its:List Value)(n j:Nat)(u:Value):Obj.mapSeq (·.setIfInBounds j u) {cls:=.type "list",data:=.seq its.toArray n}={cls:=.type "list",data:=.seq (its.set j u).toArray n}:=by simp[Obj.mapSeq]
theorem Inv.lst(I:Inv X pins σ H s)(h:H p=some (.lst xs)) :
  ∃ (its:List Value) (n:Nat),Vals xs its/\s.heap.get? p=some {cls:=.type "list",data:=.seq its.toArray n}/\xs.length<=sizeLine:=by
 obtain⟨z,its,n,r,e⟩:=I.hok p _ h;exact⟨its,n,r,e,z⟩
theorem Inv.ahd{xs ys:List V}{its its':List Value}{n n':Nat}(I:Inv X pins σ H s)(h:H p=some (.lst xs))
  (ho:s.heap.get? p=some {cls:=.type "list",data:=.seq its.toArray n})(hf:f {cls:=.type "list",data:=.seq its.toArray n}={cls:=.type "list",data:=.seq its'.toArray n'})(r:Vals ys its')(hz:ys.length<=sizeLine)(t:Nat) :
  Inv X pins σ (upd H p (.lst ys)) {s with heap:=s.heap.update p f,toks:=t}:=by
 have e:(s.heap.update p f).get? p=some {cls:=.type "list",data:=.seq its'.toArray n'}:=by rw[Heap.get?_update_self f ho (by rw[hf]<;>rfl),hf]
 refine I.write (x:=p) (e:=p) (by rw[h];trivial) (.inl rfl) (λ b u hb q=>(Heap.get?_update_other _ _ (Ne.symm hb)).trans q) ⟨_,e⟩ ?_;exact⟨hz,its',n',r,e⟩
def ahG:V->V->V->Hp->(Hp->Prop)->Prop:=λ o i v H Q=>∃ p xs k j,o=.ref p/\i=.int k/\H p=some (.lst xs)/\ixN xs.length k=some j/\Q (upd H p (.lst (xs.set j v)))
theorem set_list:ahU X ahG:=by
 intro pins s σ H o i v ov iv u Q I ro ri rv h;obtain⟨p,xs,k,j,rfl,rfl,hp,hj,q⟩:=h;cases ro;obtain⟨t,rfl⟩:=ri;obtain⟨its,n,r,ho,hz⟩:=I.lst hp;obtain⟨h1,h2,h3,h4⟩:=yo hj;have hl:=r.length;have hn:=kR;have I':Inv X pins σ (upd H p (.lst (xs.set j v))) {s with heap:=s.heap.update p (Obj.mapSeq (·.setIfInBounds j u))}:=
  I.ahd hp ho (we its n j u) (r.set rv j) (by rw[List.length_set];exact hz) s.toks
 by_cases h0:0<=k
 ·have hk:k.toNat=j:=by rw[seqIndex_of h0 h4] at h1;exact Option.some.inj h1
  exact W.ki_setAt ho h0 (by omega) (by rw[List.size_toArray,<- hl];exact h4) (by rw[hk];exact⟨_,I',q⟩)
 ·have hk:(k+(its.toArray.size:Int)).toNat=j:=by rw[seqIndex_neg (by omega) h3] at h1;rw[List.size_toArray,<- hl];exact Option.some.inj h1
  exact W.ki_setBack ho (by omega) (by rw[List.size_toArray,<- hl];exact h3) (by omega) (by rw[hk];exact⟨_,I',q⟩)
theorem pw(lo hi:Option Int)(n:Nat):(sliceBounds lo hi none n).1=((HT.sIx n 0 lo:Nat):Int)/\(sliceBounds lo hi none n).2.1=((HT.sIx n n hi:Nat):Int)/\(sliceBounds lo hi none n).2.2=1:=by
 refine⟨?_,?_,rfl⟩
 ·cases lo with
  | none=>simp[sliceBounds,HT.sIx]
  | some i =>
   simp only[sliceBounds,HT.sIx,Option.getD_none,show(1:Int) > 0 by decide,if_true]
   by_cases h:i<0
   ·simp only[h,if_true]<;>omega
   ·simp only[h,if_false]<;>omega
 ·cases hi with
  | none=>simp[sliceBounds,HT.sIx]
  | some i =>
   simp only[sliceBounds,HT.sIx,Option.getD_none,show(1:Int) > 0 by decide,if_true]
   by_cases h:i<0
   ·simp only[h,if_true]<;>omega
   ·simp only[h,if_false]<;>omega
theorem nN(its:List Value)(lo hi:Option Int):slicePick its.toArray lo hi none=((its.drop (HT.sIx its.length 0 lo)).take (HT.sIx its.length its.length hi-HT.sIx its.length 0 lo)).toArray:=by obtain⟨h1,h2,h3⟩:=pw lo hi its.toArray.size;unfold slicePick;rw[h1,h2,h3];simp only[sliceRange_one,pick_run,List.size_toArray]<;>rfl
def ajw(K:FG):V->Option Int->Option Int->Hp->VK->Prop:=λ x lo hi H Q=>∃ a xs,x=.ref a/\SqL K H a xs/\∀ p,H p=none->Q (.ref p) (upd H p (.lst (ab5 xs lo hi)))
theorem aeQ:SlR X (ajw X.K):=by intro pins s σ H x v vl vu lo hi sl Q I rx hs pl pu h;obtain⟨a,xs,rfl,hx,q⟩:=h;cases rx;obtain⟨its,r,ht,hz⟩:=I.list hx;have hlen:=r.length;refine⟨"list",_,slot_list_getitem.lookup,ht.isList.typeIs,?_⟩;refine wpAny_getItem_list_slice ht.isList hs pl pu .none (by simp) ?_ (by rw[List.size_toArray]<;>omega);rw[nN,<- hlen];refine⟨.ref s.heap.objs.size,_,I.laid (t':=s.toks) (o:=.lst (ab5 xs lo hi)) (λ b ob q=>Heap.get?_push_of_some _ q) (Nat.le_refl _) ?_,rfl,q _ (I.hok.fresh (Nat.le_refl _))⟩;exact⟨Nat.le_trans (lJ xs lo hi) hz,_,0,(r.drop (HT.sIx xs.length 0 lo)).take (HT.sIx xs.length xs.length hi-HT.sIx xs.length 0 lo),Heap.get?_push_size _ rfl⟩
theorem ja:eU X (.type "list") (λ xs H Q=>∃ p ys,xs=[.ref p]/\(SqL X.K H p ys\/SqT X.K H p ys)/\∀ l,H l=none->Q (.ref l) (upd H l (.lst ys))):=by
 intro pins s σ H xs us Q I r h;obtain⟨p,ys,rfl,hq,q⟩:=h;obtain⟨u,rfl,rx⟩:=vals1 r;cases rx;have fin:∀ (its:List Value),Vals ys its->ys.length<=sizeLine->∀ (h':Heap) (c':Nat),(∀ b o',s.heap.get? b=some o'->h'.get? b=some o') ->
   h'.get? s.heap.objs.size=some {cls:=.type "list",dict:=none,data:=.seq its.toArray c',slots:=#[]}->EP X pins σ Q (.ref s.heap.objs.size) {s with heap:=h'}:=λ its r' hz h' c' kp e =>
  ⟨.ref s.heap.objs.size,_,I.laid (t':=s.toks) kp (Nat.le_refl _) (show cF X.prog X.w _ h' _ (.lst ys) from⟨hz,its,c',r',e⟩),rfl,q _ (I.hok.fresh (Nat.le_refl _))⟩
 rcases hq with hq | hq
 ·obtain⟨its,r',pl,hz⟩:=I.list hq;have hlen:=r'.length;obtain⟨o,ho,hc,n,hd⟩:=pl.isList;exact call_list_seq p (.inl rfl) ho hc hd (λ h' c' kp e=>fin its r' hz h' c' kp e) (by simp only[List.size_toArray]<;>omega)
 ·obtain⟨its,r',pl,hz⟩:=I.tuple hq;have hlen:=r'.length;obtain⟨o,ho,hc,n,hd⟩:=pl;exact call_list_seq p (.inr rfl) ho hc hd (λ h' c' kp e=>fin its r' hz h' c' kp e) (by simp only[List.size_toArray]<;>omega)
theorem d3:eU X (.type "tuple") (λ xs H Q=>∃ p ys,xs=[.ref p]/\((SqL X.K H p ys/\∀ l,H l=none->Q (.ref l) (upd H l (.tup ys)))\/(SqT X.K H p ys/\Q (.ref p) H))):=by
 intro pins s σ H xs us Q I r h;obtain⟨p,ys,rfl,h⟩:=h;obtain⟨u,rfl,rx⟩:=vals1 r;cases rx;rcases h with ⟨hq,q⟩ | ⟨hq,q⟩
 ·obtain⟨its,r',pl,hz⟩:=I.list hq;have hlen:=r'.length;refine call_tuple_list pl.isList (λ h' kp=>?_) (by simp only[List.size_toArray]<;>omega);have I1:Inv X pins σ H {s with heap:=h'}:=I.kept (t':=s.toks) kp;have I2:Inv X pins σ (upd H h'.objs.size (.tup ys)) {s with heap:=h'.push {cls:=.type "tuple",data:=.seq its.toArray}}:=
   I1.laid (t':=s.toks) (λ b o e=>Heap.get?_push_of_some _ e) (Nat.le_refl _) (show cF X.prog X.w _ _ _ (.tup ys) from⟨hz,its,r',abl.new _ _⟩)
  exact⟨.ref h'.objs.size,_,I2,rfl,q _ (I1.hok.fresh (Nat.le_refl _))⟩
 ·obtain⟨its,r',pl,hz⟩:=I.tuple hq;exact call_tuple_same pl ⟨.ref p,H,I,rfl,q⟩
def tyV(K:FG)(T:String)(x:V)(H:Hp):Prop:=match x with
 | .str _=>T = "str"
 | .int _=>T = "int"
 | .ref p=>(T = "list" /\ ∃ xs,SqL K H p xs)\/(T = "tuple" /\ ∃ xs,SqT K H p xs) \/
   (T = "dict" /\ ((∃ kvs,H p=some (.dK kvs))\/∃ kvs,H p=some (.dT kvs)))\/(T = "set" /\ ∃ S n,H p=some (.set S n))
 | _=>False
theorem ab8(I:Inv X pins σ H s)(r:RelV x v)(ty:tyV X.K T x H) :
  s.TypeIs v T/\∀ a,v=.ref a->∃ ob,s.heap.get? a=some ob/\ob.dict=none:=by
 cases x with
 | str z =>
  obtain⟨t,rfl⟩:=r;cases (show T = "str" from ty);exact⟨typeIs_str s z t,λ _ e=>nomatch e⟩
 | int i =>
  obtain⟨t,rfl⟩:=r;cases (show T = "int" from ty);exact⟨typeIs_int s i t,λ _ e=>nomatch e⟩
 | ref p =>
  cases r;rcases ty with ⟨rfl,xs,hq⟩ | ⟨rfl,xs,hq⟩ | ⟨rfl,hk⟩ | ⟨rfl,S,n,hk⟩
  ·obtain⟨its,_,pl,_⟩:=I.list hq;refine⟨pl.isList.typeIs,λ a e=>?_⟩;cases e;obtain⟨o,n,e,c,hd,_⟩:=pl;exact⟨o,e,hd⟩
  ·obtain⟨its,_,⟨o,h1,h2,h3,_⟩,_⟩:=I.ajy hq;refine⟨⟨o,h1,h2⟩,λ a e=>?_⟩;cases e;exact⟨o,h1,h3⟩
  ·have z:∃ o,s.heap.get? p=some o/\o.ExactDict:=by
    rcases hk with ⟨kvs,hk⟩ | ⟨kvs,hk⟩
    ·obtain⟨_,_,_,_,o,_,_,e,ex,_⟩:=I.hok p _ hk;exact⟨o,e,ex⟩
    ·obtain⟨_,_,_,_,o,_,_,e,ex,_⟩:=I.hok p _ hk;exact⟨o,e,ex⟩
   obtain⟨o,e,ex⟩:=z;refine⟨⟨o,e,ex.1⟩,λ a e2=>?_⟩;cases e2;exact⟨o,e,ex.2.1⟩
  ·obtain⟨o,_,_,_,e,ex,_⟩:=I.hok p _ hk;refine⟨⟨o,e,ex.1⟩,λ a e2=>?_⟩;cases e2;exact⟨o,e,ex.2.1⟩
 | _=>exact False.elim ty
def aj9(K:FG)(T:String)(r:V->List V->Hp->VK->Prop)(to:TE):TE:=λ σ H Q=>to σ H λ x H1=>tyV K T x H1/\r x [] H1 Q
def tBM(K:FG)(T:String)(r:V->List V->Hp->VK->Prop)(to:TE)(t:TA):TE:=λ σ H Q=>to σ H λ x H1=>tyV K T x H1/\t σ H1 λ xs H2=>r x xs H2 Q
variable {o e:Expr}{es:List Expr}{to:TE}{t:TA}{name:Str}{apos cpos:Pos}{T id:String}{r:V->List V->Hp->VK->Prop}
theorem agt(pa:PlainAttrs T)(slot:Slot T name id)(hty:typeOf (.builtin id)=pure (.type "method_descriptor"))(hm:MtR X id r)(ho:PE X o to)
  (hbase:attributeBase o name X.env (eval o X.env)=eval o X.env:=by rfl)(hline:(apos.endLine==cpos.line)=true:=by rfl):PE X (.Call (.Attribute o name apos) [] [] cpos) (aj9 X.K T r to):=by
 intro pins s σ H Q I h;refine wpAny_Call_method0_late hbase hline (thn (ho pins s σ H _ I h) λ v s1 hq26=>?_);obtain⟨x,H1,I1,r1,ty,q1⟩:=hq26;obtain⟨h1,h2⟩:=ab8 I1 r1 ty;exact⟨T,id,pa,slot,hty,h1,h2,Calls.callWith_builtin rfl (PySem.evalArgs_none (hm pins s1 σ H1 x [] v [] Q I1 r1 .nil q1))⟩
theorem qd(pa:PlainAttrs T)(slot:Slot T name id)(hty:typeOf (.builtin id)=pure (.type "method_descriptor"))(hm:MtR X id r)(ho:PE X o to)(ha:PA X (e::es) t)
  (hbase:attributeBase o name X.env (eval o X.env)=eval o X.env:=by rfl)
  (hfew:((backTo cpos (starEach (e::es) X.env)).all (λ x=>!x.1)&&(backToKw cpos (keywordEach [] X.env)).all (λ x=>x.1.isSome)
   && decide ((e::es).length+([]:List Keyword).length+(if ([]:List Keyword).isEmpty then 0 else 1)<30))=true:=by rfl)
  (hline:(apos.endLine==cpos.line)=true:=by rfl)(hs:starEach (e::es) X.env=(false,eval e X.env)::starEach es X.env:=by rfl)(hplain:(backTo cpos (starEach es X.env)).any (·.1)=false:=by rfl) :
  PE X (.Call (.Attribute o name apos) (e::es) [] cpos) (tBM X.K T r to t):=by
 intro pins s σ H Q I h;refine wpAny_Call_method_late hbase hfew hline rfl (thn (ho pins s σ H _ I h) λ v s1 hq27=>?_);obtain⟨x,H1,I1,r1,ty,q1⟩:=hq27;obtain⟨h1,h2⟩:=ab8 I1 r1 ty;refine⟨T,id,pa,slot,hty,h1,h2,?_⟩;have hA:=ha cpos pins s1 σ H1 _ I1 q1;rw[hs] at hA ⊢;refine Calls.callWith_builtin (by show(false || (backTo cpos (starEach es X.env)).any (·.1))=false;rw[hplain]<;>rfl) (Calls.evalArgs_plain ?_);exact thn hA λ us s2 ⟨vs,H2,I2,r2,q2⟩=>hm pins s2 σ H2 x vs v us Q I2 r1 r2 q2
end
def MtM(X:Cx)(id:String)(r:V->List V->Hp->VK->Prop):Prop:=
 ∀ (pins:PN) (s:Shared) (σ:St) (H:Hp) (x:V) (xs:List V) (v:Value) (us:List Value) (Q:VK),Inv X pins σ H s->RelV x v->Vals xs us->r x xs H Q ->
  wpAny (model X.prog X.w) X.A (call (.builtin id) (v::us)) (EP X pins σ Q) X.xe s
theorem Vals.one:∀ {x:V} {us:List Value},Vals [x] us->∃ u,us=[u]/\RelV x u
 | _,_,.cons r .nil=>⟨_,rfl,r⟩
theorem Inv.aib{its its':List Value}{n:Nat}{t':Nat}(I:Inv X pins σ H s)(hH:H l=some (.lst xs))
  (e:s.heap.get? l=some {cls:=.type "list",data:=.seq its.toArray n})(hf:f its.toArray=its'.toArray)(hv:Vals ys its')(hz:ys.length<=sizeLine) :
  Inv X pins σ (upd H l (.lst ys)) {s with heap:=s.heap.update l (Obj.mapSeq f),toks:=t'}:=by
 have q:=PySem.IsL.update e f;rw[hf] at q;refine I.write (x:=l) (e:=l) (by rw[hH];exact trivial) (.inl rfl) (λ b' u hb hu=>(Heap.get?_update_other s.heap (Obj.mapSeq f) (Ne.symm hb)).trans hu) ⟨_,q⟩ ?_;exact⟨hz,its',_,hv,q⟩
theorem Inv.aj3(I:Inv X pins σ H s)(hv:Vals ys its)(hz:ys.length<=sizeLine) :
  Inv X pins σ (upd H s.heap.objs.size (.lst ys)) {s with heap:=s.heap.push {cls:=.type "list",data:=.seq its.toArray},toks:=t'}:=
 I.laid (λ _ _ q=>Heap.get?_push_of_some _ q) (Nat.le_refl _) ⟨hz,its,0,hv,Heap.get?_push_size _ rfl⟩
theorem Inv.fresh(I:Inv X pins σ H s):H s.heap.objs.size=none:=I.hok.fresh (Nat.le_refl _)
theorem Inv.aiq(I:Inv X pins σ H s)(hH:H l=some (.lst xs)):xs.length<=sizeLine/\∃ (its:List Value) (n:Nat),Vals xs its/\xs.length=its.length/\s.heap.get? l=some {cls:=.type "list",data:=.seq its.toArray n}:=by obtain⟨z,its,n,r,e⟩:=I.hok l _ hH;exact⟨z,its,n,r,r.length,e⟩
def adz:V->List V->Hp->VK->Prop:=λ x vs H Q=>∃ l xs y,x=.ref l/\vs=[y]/\H l=some (.lst xs)/\xs.length<sizeLine/\Q .non (upd H l (.lst (xs++[y])))
theorem zY:MtM X "list.append" adz:=by intro pins s σ H x vs v us Q I rx rv h;obtain⟨l,xs,y,rfl,rfl,hH,hz,q⟩:=h;cases rx;obtain⟨u,rfl,ru⟩:=rv.one;obtain⟨z,its,n,r,hl,e⟩:=I.aiq hH;refine call_meets F.slot_list_append ⟨_,e,rfl⟩ F.entry_list_append (F.args_list_append_2 _ _) (PySem.list_append l its.toArray n u (by rw[List.size_toArray];omega)) ⟨e,?_⟩;refine⟨.non,_,I.aib (its':=its++[u]) hH e (by simp) (r.append (.cons ru .nil)) ?_,rfl,q⟩;rw[List.length_append,List.length_singleton];omega
def ajo:V->List V->Hp->VK->Prop:=λ x vs H Q=>∃ l xs y,x=.ref l/\vs=[]/\H l=some (.lst xs)/\xs[xs.length-1]? =some y/\Q y (upd H l (.lst xs.dropLast))
end L2
namespace Att
open PySem PySem.W PySem.Calls PyProof.Rows
theorem k8:∀ (ns:List Int) (vs:List Value),WellAll P h vs (ns.map WData.int)->IntsAre vs ns:=by
 intro ns
 induction ns with
 | nil =>
  intro vs w;rw[List.map_nil] at w;cases w;exact .nil
 | cons n ns ih =>
  intro vs w;rw[List.map_cons] at w;cases w with
  | cons a b =>
   cases a;exact .cons _ _ (ih _ b)
theorem zg{l:OpenLaw}{n:Nat}(hn:l.most=some n){args:List WData}{vals:List Value}
  (hpre:l.row.toRowW.claim.pre args=true)(hwl:WellAll P h vals args) :
  ∃ a vs ns,vals=[Value.ref a]/\args=[WData.list (ns.map WData.int)]/\h.get? a=some {cls:=.type "list",data:=.seq vs.toArray}/\IntsAre vs ns/\ns.length<=n:=by
 have hsh:WShape.hasAll [] args [.list .int]=true:=(pre_splitW hpre).1;have hc:l.pre.holds [] {args:=args}=true:=(pre_splitW hpre).2;obtain⟨d,r,rfl,h1,h2⟩:=hasAllW_cons hsh;obtain rfl:=hasAllW_nil h2;obtain⟨xs,rfl,h3⟩:=hasW_list h1;obtain⟨ns,rfl⟩:=items_int h3;have hlen:ns.length<=n:=by
  unfold OpenLaw.pre at hc;have h4:(WTm.not (.lt (.lit (.int (n:Int))) (.len (.arg 0)))).holds [] {args:=[.list (ns.map .int)]}=true:=by have h4:=(holds_andW hc).1;rw[hn] at h4;exact h4
  have h5:=condW_of h4 (w_not (w_lt w_lit (w_len_list (w_arg rfl))));rw[List.length_map] at h5;refine Nat.le_of_not_lt λ q=>?_;have q':(n:Int)<((ns.length:Nat):Int):=by omega
  first
   | (rw[decide_eq_true q'] at h5;exact absurd h5 (by decide))
   | (simp at h5;omega)
 cases hwl with
 | cons w1 w2 =>
  cases w2;cases w1 with
  | list ho hall=>exact⟨_,_,ns,rfl,rfl,ho,k8 ns _ hall,hlen⟩
theorem wM(l:OpenLaw)(args:List WData):l.row.toRowW.claim.post args (.bool true) args=true:=
 postW_of (r:=l.row.toRowW) (X:=(true==true))
  (show WShape.has [] (.bool true) .bool=true by first | rfl | decide | simp[WShape.has,WShape.arms,WShape.armsAll])
  (show(WTm.eq .res (.lit (.bool true))).value [] {args:=args,res:=some (.bool true),after:=args}=some (.bool (true==true)) from w_eq_bool (w_res rfl) w_lit) rfl
theorem sy{l:OpenLaw}{n:Nat}{q:Program}{loose:List Str}{XP:(Str->Option Value)->Heap->Prop}{YP:World->Heap->Prop}{d:DefRec}
  (hn:l.most=some n)(hdf:d.params.defaults=[])
  (call:∀ (w:World) (s₀ s₁:Shared) (mg mb:Str->Option Value) (fa:Addr) (o:Obj) (pm cd doc:Value) (a:Addr) (vs:List Value) (ns:List Int),
   Ground q loose [] XP w s₀ mg mb s₁.heap->YP w s₁.heap ->
   s₁.heap.get? fa=some o->o.data=.func (docDef d.name d.params d.body d.scope pm cd doc)->s₁.heap.CodeRec cd d.name->mg d.name=some (.ref fa) ->
   s₁.heap.get? a=some {cls:=.type "list",data:=.seq vs.toArray}->IntsAre vs ns->ns.length<=n->s₁.gens = #[] ->
   codeAny (model l.prog w) callerA (.call (.ref fa) ⟨[.ref a],[]⟩) (λ r s'=>r=.ok (.ret (.bool true))/\OldK s₁.heap s'.heap/\s'.os=s₁.os/\AllBare s'.gens) s₁) :
  WalkO q loose XP YP l.row.toRowW d [] (λ f vs=>PySem.call f vs):=by
 intro w s₀ s₁ mg mb G Y fa o pm cd doc dV kV ho hd hcd hD hmg hg args vals as hpre hlay hrd hwl hlo;obtain rfl:dV=.none:=Dflts.none hD hdf;obtain rfl:kV=.none:=Dflts.noKw hD;obtain⟨a,vs,ns,rfl,rfl,hobj,hints,hlen⟩:=zg hn hpre hwl;refine enter_call (codeAny_mono (call w s₀ s₁ mg mb fa o pm cd doc a vs ns G Y ho (fd_plain hd) hcd hmg hobj hints hlen hg) λ r s' hq=>?_);obtain⟨rfl,h2,h3,h4⟩:=hq;exact⟨.inl ⟨.bool true,.bool true,[],rfl,λ _=>rfl,.bool true,wM l _,λ _=>⟨List.Pairwise.nil,λ _ hm=>(nomatch hm)⟩⟩,h2,h3,h4⟩
section
variable {prog:Program}{w:World}{A:Around}{E:VP}{s:Shared}{K:Frag}
end
end Att
namespace L2
theorem qo:∀ {vs:List Value} {ns:List Int},IntsAre vs ns->Vals (ns.map V.int) vs
 | _,_,.nil=>.nil
 | _,_,.cons n t h=>.cons ⟨t,rfl⟩ (qo h)
def ahq(H:Hp):Prop:=∀ b,H b=none\/∃ o xs,H b=some (.frz o (.lst xs))
theorem aas{P:Program}{w:World}{K:FG}{mg mb:Str->Option Value}{CX:CXT}{k:Nat}{fa a:Addr}{fd:FuncData}{x:Str}{sp:Sp}{s₁:Shared}{vs:List Value}{ns:List Int}
  (KX:K.In s₁.heap)(hns:s₁.heap.Ns mainGlobals mg)(hb:s₁.heap.Ns builtinsNs mb)(hbb:∀ x:Str,x ≠ "__name__" -> mb x=bootBuiltins x)(hlim:s₁.heap.NoLimit)(hbm:BM mg s₁.heap)(hg:s₁.gens = #[])
  (ha:s₁.heap.get? a=some {cls:=.type "list",data:=.seq vs.toArray})(hi:IntsAre vs ns)(hl:ns.length<=sizeLine)(hr:fO k callerA)
  (F:∀ base:Heap,K.In base->base.Ns mainGlobals mg->cQ P w K mg base CX k fa fd [x] sp)(hbind:∀ (s:Shared) (u:Value),BindsTo s fd ⟨[u],[]⟩ [(x,u)])
  (hsp:∀ H:Hp,ahq H->SqL K H a (ns.map V.int)->sp [.ref a] H (λ v _=>v=.bl true) λ _ _ _=>False)
  (hCX:∀ H e s',CX [] H s₁ (λ _ _ _=>False) e s'->False) :
  codeAny (model P w) callerA (.call (.ref fa) ⟨[.ref a],[]⟩) (λ r s'=>r=.ok (.ret (.bool true))/\OldK s₁.heap s'.heap/\s'.os=s₁.os/\AllBare s'.gens) s₁:=by
 have rv:=qo hi;have lenV:=hi.length;have core:∀ H:Hp,ahq H->SqL K H a (ns.map V.int)->HOk P w H s₁.heap->(∀ b,H b≠none->b=a)->(H a≠none->K.lookup a=none) ->
   codeAny (model P w) callerA (.call (.ref fa) ⟨[.ref a],[]⟩) (λ r s'=>r=.ok (.ret (.bool true))/\OldK s₁.heap s'.heap/\s'.os=s₁.os/\AllBare s'.gens) s₁:=by
  intro H hO hS hok hA hK;have base_of:∀ {b:Addr} {o:Obj},s₁.heap.get? b=some o->H b=none->(aaP s₁.heap H).get? b=some o:=λ e n=>aag e n;have noA:∀ {b:Addr} {o:Obj} {es:Array DictEntry} {ep:Nat},s₁.heap.get? b=some o->o.data=.dict es ep->H b=none:=λ {b o es ep} e d=>by
   cases q:H b with
   | none=>rfl
   | some u =>
    have e':b=a:=hA b (by rw[q];simp);subst e';rw[ha] at e;cases e;have d':Data.seq vs.toArray _=Data.dict es ep:=d;cases d'
  have nsK:∀ {b:Addr} {m:Str->Option Value},s₁.heap.Ns b m->(aaP s₁.heap H).Ns b m:=λ {b m} ⟨o,es,ep,e,d,r⟩=>⟨o,es,ep,base_of e (noA e d),d,r⟩;have hKb:K.In (aaP s₁.heap H):=λ b o e=>base_of (KX b o e) (by
   cases q:H b with
   | none=>rfl
   | some u =>
    have e':b=a:=hA b (by rw[q];simp);subst e';rw[hK (by rw[q];simp)] at e;cases e)
  have hM:Mod K mg (aaP s₁.heap H):=⟨hKb,nsK hns,⟨mb,nsK hb,hbb⟩,let ⟨mc,h1,h2⟩:=hlim; ⟨mc,nsK h1,h2⟩,let ⟨⟨b,o,h1,h2,h3,h4,h5,h6⟩,mm,hmm⟩:=hbm; ⟨⟨b,o,h1,h2,base_of h3 (by cases q:H b with | none=>rfl | some u=>(have e':b=a:=hA b (by rw[q];simp);subst e';rw[ha] at h3;cases h3;cases h6)),h4,h5,h6⟩,mm,nsK hmm⟩⟩;have e0:aa1 P w K mg (aaP s₁.heap H) callerA [] s₁ H:=⟨rfl,hM,λ b o e=>aem e,Nat.le_of_eq (yM _ _),trivial,λ b hb=>absurd (show b∈([]:List Addr) from hb) (by simp),hok,.of_eq hg⟩;refine codeAny_mono ((F _ hKb (nsK hns)).run callerA [] s₁ H ⟨[.ref a],[]⟩ [.ref a] [.ref a] _ _ hr e0 (hbind s₁ (.ref a)) (.cons rfl .nil) (hsp H hO hS)) λ r s' h=>?_;cases r with
  | error e=>exact(hCX H e s' h).elim
  | ok fl =>
   cases fl with
   | next=>exact False.elim h
   | brk=>exact False.elim h
   | cont=>exact False.elim h
   | ret u =>
    obtain⟨v,H',os,bare,un,hok',r',q⟩:=h;have q':v=.bl true:=q;subst q';obtain rfl:u=Value.bool true:=r';refine⟨rfl,OldK.of_keep λ b o e=>?_,os,bare⟩;cases q:H b with
    | none=>exact un.keep b o e q (by intro z;exact absurd (show b∈([]:List Addr) from z) (by simp)) (by simp)
    | some u =>
     rcases hO b with z | ⟨ob,xs,z⟩
     ·rw[q] at z;cases z
     ·have z2:=un.frzs b ob _ z;obtain⟨e1,_⟩:=hok b _ z;obtain⟨e2,_⟩:=hok' b _ z2;rw[e] at e1;cases e1;exact e2
 cases hk:K.lookup a with
 | some o =>
  have e:=KX a o hk;rw[ha] at e;cases e;refine core (λ _=>none) (λ _=>.inl rfl) (.inr ⟨_,vs.toArray,_,hk,rfl,rfl,rfl,by rw[List.size_toArray,lenV];exact hl,by simpa using rv⟩) (λ b u z=>by have z':(none:Option HO)=some u:=z;cases z') (λ b z=>absurd rfl z) λ z=>absurd rfl z
 | none =>
  refine core (λ b=>if b=a then some (.frz {cls:=.type "list",data:=.seq vs.toArray} (.lst (ns.map V.int))) else none) (λ b=>?_) (.inl (.inr ⟨{cls:=.type "list",data:=.seq vs.toArray},if_pos rfl⟩)) (λ b u z=>?_) (λ b z=>?_) λ _=>hk
  ·by_cases hb:b=a
   ·exact .inr ⟨_,_,if_pos hb⟩
   ·exact .inl (if_neg hb)
  ·by_cases hb:b=a
   ·have z':=(if_pos hb).symm.trans z;cases z';subst hb;exact⟨ha,by rw[List.length_map];exact hl,vs,_,rv,ha⟩
   ·have z':=(if_neg hb).symm.trans z;cases z'
  ·by_cases hb:b=a
   ·exact hb
   ·exact absurd (if_neg hb) z
theorem ae3{l:W.OpenLaw}{n k:Nat}{q:Program}{loose:List Str}{XP:(Str->Option Value)->Heap->Prop}{YP:World->Heap->Prop}{d:DefRec}{K:Params->FG}{CX:World->CXT}{sp:World->Sp}{x:Str}
  (hq:importsNone q=true)(hn:l.most=some n)(hn2:n<=sizeLine)(hdf:d.params.defaults=[])(hr:fO k callerA)
  (hY:∀ (w:World) (h:Heap),YP w h->(K w.params).In h)
  (F:∀ (w:World) (mg:Str->Option Value) (fa:Addr) (h:Heap),(K w.params).In h->h.Ns mainGlobals mg->mg d.name=some (.ref fa) ->
   ∃ fd:FuncData,(∀ (s:Shared) (u:Value),BindsTo s fd ⟨[u],[]⟩ [(x,u)]) /\
    ∀ base:Heap,(K w.params).In base->base.Ns mainGlobals mg->cQ l.prog w (K w.params) mg base (CX w) k fa fd [x] (sp w))
  (hsp:∀ (w:World) (H:Hp) (a:Addr) (ns:List Int),ns.length<=n->ahq H->SqL (K w.params) H a (ns.map V.int)->sp w [.ref a] H (λ v _=>v=.bl true) λ _ _ _=>False)
  (hCX:∀ (w:World) (H:Hp) (s:Shared) (e:Value) (s':Shared),CX w [] H s (λ _ _ _=>False) e s'->False) :
  W.WalkO q loose XP YP l.row.toRowW d [] (λ f vs=>PySem.call f vs):=by
 refine Att.sy hn hdf λ w s₀ s₁ mg mb fa o pm cd doc a vs ns G Y ho hd hcd hmg hobj hints hlen hg=>?_;have KX:=hY w _ Y;obtain⟨fd,hb,hF⟩:=F w mg fa _ KX G.T.g hmg;exact aas KX G.T.g G.T.b G.T.builtins G.T.nolimit (let ⟨bm,ob,b1,b2,b3,b4,b5,b6⟩:=G.T.bmain;let ⟨mm,hmm,_⟩:=(G.T.seer hq).mods; ⟨⟨bm,ob,b1,b2,b3,b4,b5,b6⟩,mm,hmm⟩) hg hobj hints (Nat.le_trans hlen hn2) hr hF hb (λ H hO hS=>hsp w H a ns hlen hO hS) λ H e s'=>hCX w H s₁ e s'
def inClass(s:Stmt)(j:Nat):Stmt:=match s with
 | .ClassDef _ _ _ body _ _ _ _ _ _ _=>body.getD j (.Pass ⟨0,0,0,0⟩)
 | _=>.Pass ⟨0,0,0,0⟩
def bS(s:Stmt):Arguments:=match s with
 | .FunctionDef _ a _ _ _ _ _ _ _ _=>a
 | _=>{posonlyargs:=[],args:=[],vararg:=none,kwonlyargs:=[],kw_defaults:=[],kwarg:=none,defaults:=[]}
def bj(s:Stmt):List Stmt:=match s with
 | .FunctionDef _ _ b _ _ _ _ _ _ _=>b
 | _=>[]
def ao(s:Stmt):Scope:=match s with
 | .FunctionDef _ _ _ _ _ _ sc _ _ _=>sc
 | _=>{kind:=.function,names:=[],isGenerator:=false,isCoroutine:=false}
abbrev CX0:CXT:=λ _ _ _ _ _ _=>False
abbrev E0:XK:=λ _ _ _=>False
theorem ag9:Passes CX0 X E0:=λ _ _ _ _ _ _ _ h=>h.elim
structure Fun(K:FG)(x qual:Str)(st:Stmt)(f:Addr)(fd:FuncData):Prop where
 ex:∃ (oc:Value) (od:Option Addr) (kV doc pm:Value) (an:Option Addr) (cdv ct:Value) (osl:Array (Option Value)),
  fd=W.fnOf x qual (bS st) (bj st) (ao st) .none kV doc pm an cdv ct/\K.lookup f=some ⟨oc,od,.func fd,osl⟩/\W.codeIn K cdv qual=true
 kp:W.keepIn K (.ref f)=true
section
variable {P:Program}{w:World}{K:FG}{mg:Str->Option Value}{base:Heap}
theorem Fun.ok{x qual:Str}{st:Stmt}{N ps:List Str}{k:Nat}{sp:Sp}(F:Fun K x qual st f fd)(S:aK N ps (ao st))(len:∀ vs H Q E,sp vs H Q E->vs.length=ps.length)
  (hbody:∀ (cdv:Value) (A:Around) (outer:List Env) (s:Shared) (H:Hp) (vs:List V) (Q:VK) (E:XK),fO k (A.deeper (envOfC qual (ao st) s.heap.objs.size f cdv))->sp vs H Q E ->
   ∃ t,PSs (tm CX0 P w K mg base N qual (ao st) f cdv A outer s H E).nox (bj st) t/\t {nx:=λ _ H'=>Q .non H',rt:=Q} (start N vs) H):cQ P w K mg base CX0 (k+1) f fd ps sp:=by
 obtain⟨oc,od,kV,doc,pm,an,cdv,ct,osl,rfl,lk,hcd⟩:=F.ex;refine af1 lk hcd S len λ A outer s H vs Q E hr hsp=>?_;obtain⟨t,h,q⟩:=hbody cdv A outer s H vs Q E hr hsp;exact⟨t,h.nox,q⟩
theorem Fun.binds{x qual:Str}{st:Stmt}{ps:List Str}(F:Fun K x qual st f fd)
  (h:∀ (kV doc pm:Value) (an:Option Addr) (cdv ct:Value) (us:List Value),us.length=ps.length->bindArgs (W.fnOf x qual (bS st) (bj st) (ao st) .none kV doc pm an cdv ct) ⟨us,[]⟩=pure (ps.zip us)):Binds K fd ps []:=by
 obtain⟨oc,od,kV,doc,pm,an,cdv,ct,osl,rfl,lk,hcd⟩:=F.ex;exact .all (h kV doc pm an cdv ct)
theorem acD{x qual:Str}{st:Stmt}{oc:Value}{od an:Option Addr}{osl:Array (Option Value)}{kV doc pm cdv ct:Value}(l:K.lookup f=some ⟨oc,od,.func (W.fnOf x qual (bS st) (bj st) (ao st) .none kV doc pm an cdv ct),osl⟩)
  (c:W.codeIn K cdv qual=true)(k:W.keepIn K (.ref f)=true):Fun K x qual st f (W.fnOf x qual (bS st) (bj st) (ao st) .none kV doc pm an cdv ct):=⟨⟨oc,od,kV,doc,pm,an,cdv,ct,osl,rfl,l,c⟩,k⟩
end
theorem abo(hr:fO k A):A.units+1<cLine:=Nat.lt_of_le_of_lt (Nat.add_le_add_left (by decide:1<=64) _) hr.units
theorem dB{A B:Prop}(h:B):if false=true then A else B:=by rw[if_neg Bool.false_ne_true];exact h
theorem fV{A B:Prop}(h:A):if true=true then A else B:=by rw[if_pos rfl];exact h
def akm(H H':Hp):Prop:=∀ b o,H b=some o->H' b=some o
section
variable {κ:Type}[DecidableEq κ]
def lZ(kvs:List (κ×V))(k:κ):Option V:=(kvs.find? λ kv=>decide (kv.1=k)).map (·.2)
def putK(kvs:List (κ×V))(k:κ)(v:V):List (κ×V):=
 if (kvs.any λ kv=>decide (kv.1=k))=true then kvs.map (λ kv=>if kv.1=k then (kv.1,v) else kv) else kvs++[(k,v)]
def ajN(kvs:List (κ×V))(k:κ):List (κ×V):=kvs.filter λ kv=>decide (kv.1≠k)
theorem iy{r:List (κ×V)}{k:κ}(e:p.1=k):lZ (p::r) k=some p.2:=by simp[lZ,List.find?_cons,e]
theorem ik{r:List (κ×V)}{k:κ}(e:¬ p.1=k):lZ (p::r) k=lZ r k:=by simp[lZ,List.find?_cons,e]
theorem nV(k:κ):∀ kvs:List (κ×V),(kvs.any λ kv=>decide (kv.1=k))=(lZ kvs k).isSome
 | []=>rfl
 | p::r=>by
  rw[List.any_cons]
  by_cases e:p.1=k
  ·simp only[iy e,decide_eq_true e,Bool.true_or,Option.isSome_some]
  ·rw[ik e,decide_eq_false e,Bool.false_or];exact nV k r
theorem rG(kvs:List (κ×V))(k:κ)(v:V):(putK kvs k v).length<=kvs.length+1:=by
 unfold putK
 split
 ·rw[List.length_map];omega
 ·rw[List.length_append,List.length_cons,List.length_nil];omega
theorem aaX{kvs:List (κ×V)}{k:κ}(v:V)(h:lZ kvs k=none):putK kvs k v=kvs++[(k,v)]:=by
 unfold putK;rw[nV,h];exact if_neg (by decide)
theorem uL.wY(r:uL o u):o.isSome=u.isSome:=by
 cases o with
 | none=>cases u with
  | none=>rfl
  | some _=>exact(show False from r).elim
 | some _=>cases u with
  | none=>exact(show False from r).elim
  | some _=>rfl
theorem uL.getD(r:uL o u)(rd:RelV d d'):RelV (o.getD d) (u.getD d'):=by
 cases o with
 | none=>cases u with
  | none=>exact rd
  | some _=>exact(show False from r).elim
 | some _=>cases u with
  | none=>exact(show False from r).elim
  | some _=>exact r
theorem KV.val(r:KV kvs vs)(k:κ):uL (lZ kvs k) (valueAt vs k):=by
 unfold KV at r
 induction r with
 | nil=>exact True.intro
 | @cons p q ps qs h t ih =>
  obtain⟨h1,h2⟩:=h
  by_cases e:p.1=k
  ·have e':q.1=k:=h1.symm.trans e;have b:valueAt (q::qs) k=some q.2:=by simp[valueAt,List.find?_cons,e']
   rw[iy e,b];exact h2
  ·have e':¬ q.1=k:=λ z=>e (h1.trans z);have b:valueAt (q::qs) k=valueAt qs k:=by simp[valueAt,List.find?_cons,e']
   rw[ik e,b];exact ih
theorem KV.any(r:KV kvs vs)(k:κ):(kvs.any λ kv=>decide (kv.1=k))=vs.any λ kv=>decide (kv.1=k):=by
 unfold KV at r
 induction r with
 | nil=>rfl
 | cons h t ih=>rw[List.any_cons,List.any_cons,ih,h.1]
theorem KV.aj6(r:KV kvs vs)(k:κ)(ry:RelV y u) :
  KV (kvs.map λ kv=>if kv.1=k then (kv.1,y) else kv) (vs.map λ kv=>if kv.1=k then (kv.1,u) else kv):=by
 unfold KV at r ⊢
 induction r with
 | nil=>exact .nil
 | @cons p q ps qs h t ih =>
  rw[List.map_cons,List.map_cons];refine .cons ?_ ih;obtain⟨h1,h2⟩:=h
  by_cases e:p.1=k
  ·rw[if_pos e,if_pos (h1.symm.trans e)];exact⟨h1,ry⟩
  ·rw[if_neg e,if_neg (λ z=>e (h1.trans z))];exact⟨h1,h2⟩
theorem KV.put(r:KV kvs vs)(k:κ)(ry:RelV y u):KV (putK kvs k y) (stored vs k u):=by
 unfold putK stored;rw[r.any k]
 by_cases e:(vs.any λ kv=>decide (kv.1=k))=true
 ·rw[if_pos e,if_pos e];exact r.aj6 k ry
 ·rw[if_neg e,if_neg e];exact Paired.snoc r ⟨rfl,ry⟩
theorem KV.length(r:KV kvs vs):kvs.length=vs.length:=Paired.length r
end
theorem sR(r:RelV (kV k) u):(bb P w).is k u=true:=by
 cases k with
 | inl i=>obtain⟨t,e⟩:=(show ∃ t,u=Value.int i t from r);subst e;exact sT P w i t
 | inr x=>obtain⟨t,e⟩:=(show ∃ t,u=Value.str x t from r);subst e;exact rD P w x t
theorem jK:∀ {ks:List Key} {us:List Value},Vals (ks.map kV) us->ItemsAre (bb P w) ks us
 | [],_,r=>by rw[List.map_nil] at r;cases r;exact .nil
 | k::ks,_,r=>by
  rw[List.map_cons] at r;cases r with
  | cons h t=>exact .cons (sR h) (jK t)
abbrev KT(H:Hp):List (List Key×V)->List (List Key×Addr×Value)->Prop:=Paired λ p q=>p.1=q.1/\H q.2.1=some (.tup (p.1.map kV))/\RelV p.2 q.2.2
theorem KT.val(r:KT H kvs xs)(k:List Key):uL (lZ kvs k) ((atKey xs k).map (·.2)):=by
 induction r with
 | nil=>exact True.intro
 | @cons p q ps qs h t ih =>
  obtain⟨h1,_,h2⟩:=h
  by_cases e:p.1=k
  ·have e':q.1=k:=h1.symm.trans e;have b:atKey (q::qs) k=some q.2:=by simp[atKey,List.find?_cons,e']
   rw[iy e,b];exact h2
  ·have e':¬ q.1=k:=λ z=>e (h1.trans z);have b:atKey (q::qs) k=atKey qs k:=by simp[atKey,List.find?_cons,e']
   rw[ik e,b];exact ih
theorem ag1(ok:HOk P w H h)(e:Rd H a u):cF P w H h a u:=e.ok ok
theorem vK(ok:HOk P w H h)(e:Rd H a (.dK kvs)):kvs.length<=sizeLine/\(a==sysModules)=false/\∃ vs,KV kvs vs/\h.DictOf (bb P w) a vs:=
 show cF P w H h a (.dK kvs) from ag1 ok e
theorem ahj(ok:HOk P w H h)(e:H a=some (.dK kvs)):kvs.length<=sizeLine/\(a==sysModules)=false/\∃ vs,KV kvs vs/\h.DictOf (bb P w) a vs:=vK ok (.inl e)
theorem agI(ok:HOk P w H h)(e:H a=some (.tup (ks.map kV))):(tupleKind (bb P w)).is h ks a:=by obtain⟨_,its,r,o,h1,h2,_,n,h3⟩:=(show cF P w H h a (.tup (ks.map kV)) from ok a _ e);exact⟨o,its.toArray,n,h1,h2,h3,by simpa using jK r⟩
theorem agH(ok:HOk P w H h)(e:Rd H a (.dT kvs)):kvs.length<=sizeLine/\(a==sysModules)=false /\
  ∃ xs,KT H kvs xs/\h.DictOfH (tupleKind (bb P w)) a xs:=by
 obtain⟨z,y,xs,r,o,es,ep,h1,h2,h3,h4,h5⟩:=(show cF P w H h a (.dT kvs) from ag1 ok e);refine⟨z,y,xs,r,o,es,ep,h1,h2,h3,h4,λ x hx=>?_,h5⟩;have all:∀ {l:List (List Key×V)} {m:List (List Key×Addr×Value)},KT H l m->∀ x∈m,(tupleKind (bb P w)).is h x.1 x.2.1:=by
  intro l m q
  induction q with
  | nil=>intro x hx;exact nomatch hx
  | @cons p q ps qs hq t ih =>
   intro x hx;rcases List.mem_cons.mp hx with e | hx
   ·subst e;exact agI ok (by rw[<- hq.1];exact hq.2.1)
   ·exact ih x hx
 exact all r x hx
def aki(H:Hp)(a:Addr)(y:V)(r:Option V):Prop:=
 (∃ kvs k,Rd H a (.dK kvs)/\y=kV k/\r=lZ kvs k)\/∃ kvs k b,Rd H a (.dT kvs)/\y=.ref b/\H b=some (.tup (k.map kV))/\r=lZ kvs k
def akk(H:Hp)(a:Addr)(y v:V)(H':Hp):Prop:=
 (∃ kvs k,H a=some (.dK kvs)/\y=kV k/\kvs.length<sizeLine/\H'=upd H a (.dK (putK kvs k v))) \/
 ∃ kvs k b,H a=some (.dT kvs)/\y=.ref b/\H b=some (.tup (k.map kV))/\kvs.length<sizeLine/\H'=upd H a (.dT (putK kvs k v))
section
variable {X:Cx}{pins:PN}{σ:St}{H:Hp}{s:Shared}{a:Addr}{y v:V}{u r:Value}{o:Option V}{A:Around}{E:VP}
theorem Inv.big(I:Inv X pins σ H s):sysModules<s.heap.objs.size:=by have h:mainGlobals<s.heap.objs.size:=(I.mod.glob.keeps I.bk).lt;exact Nat.lt_trans (by decide) h
theorem wL(I:Inv X pins σ H s)(mu:Mut (H a))(hs:Heap.SameBut a s.heap h')(he:∃ q,h'.get? a=some q)(new:cF X.prog X.w (upd H a ob) h' a ob) :
  Inv X pins σ (upd H a ob) {s with heap:=h',toks:=t'}:=
 I.write (x:=a) (e:=a) mu (.inl rfl) (λ b q hb z=>(hs.2 b hb).trans z) he new
theorem ace(z:kvs.length<=sizeLine)(hd:(a==sysModules)=false)(rel:KV kvs vs)(dd:h'.DictOf (bb P w) a vs) :
  cF P w H' h' a (.dK kvs):=⟨z,hd,vs,rel,dd⟩
end
section
variable {X:Cx}{pins:PN}{σ:St}{H:Hp}{s:Shared}{a:Addr}{kvs:List (Key×V)}{k:Key}{u:Value}{A:Around}{E:VP}
end
def aew(i:Expr):Prop:=∀ ov iv,subscripted i false ov iv=operate [ov,iv] (getItem ov iv)
theorem xQ{env:Env}{value slice:Expr}{T id:String}
  (hl:typeLookup (.type T) "__getitem__" = pure (some (.builtin id)))(hs:aew slice)
  (h:wpAny (model prog w) A (eval value env) (λ o s₁=>wpAny (model prog w) A (eval slice env) (λ i s₂=>s₂.TypeIs o T/\wpAny (model prog w) A (getItem o i) Q E s₂) E s₁) E s) :
  wpAny (model prog w) A (eval (.Subscript value slice pos) env) Q E s:=by
 refine Subscript_ (wpAny_mono h (λ o s₁ h₁=>wpAny_mono h₁ (λ i s₂ h₂=>?_) λ _ _ x=>x) λ _ _ x=>x);obtain⟨hT,h₂⟩:=h₂;unfold subscriptTail;refine wpAny_bind ?_;rw[getitemInPython_of_ne hT.not_modules];refine wpAny_bind (wpAny_specialOf hT hl ?_);have fin:wpAny (model prog w) A (subscripted slice false o i) (λ r s₃=>wpAny (model prog w) A (letTemporaryGo value o r >>= λ _=>pure r) Q E s₃) E s₂:=by rw[hs o i];exact wpAny_operating (wpAny_mono h₂ (λ r s₃ h₃=>wpAny_bind (wpAny_letTemporaryGo (wpAny_pure h₃))) λ _ _ x=>x)
 first
  | exact wpAny_pure (wpAny_bind fin)
  | exact wpAny_bind (wpAny_pure (wpAny_bind fin))
  | exact wpAny_bind fin
theorem tL(h:Heap)(hb:sysModules<h.objs.size):cF P w H (h.push {cls:=.type "dict",data:=.dict #[]}) h.objs.size (.dK []):=
 ⟨Nat.zero_le _,beq_eq_false_iff_ne.mpr (Ne.symm (Nat.ne_of_lt hb)),[],.nil,Heap.DictOf.new h⟩
def afP:TE:=λ _ H Q=>∀ p,H p=none->Q (.ref p) (upd H p (.dK []))
theorem abp:PE X (.Dict [] [] pos) afP:=λ pins s σ H Q I h =>
 wpAny_Dict_empty ⟨.ref s.heap.objs.size,_,I.laid (a:=s.heap.objs.size) (o:=.dK []) (t':=s.toks) (λ _ _ q=>Heap.get?_push_of_some _ q) (Nat.le_refl _) (tL s.heap I.big),rfl,h _ (I.hok.fresh (Nat.le_refl _))⟩
def uR:List (TE×TE)->St->Hp->(List (V×V)->Hp->Prop)->Prop
 | [],_,H,Q=>Q [] H
 | (tk,tv)::r,σ,H,Q=>tk σ H λ x H1=>tv σ H1 λ y H2=>uR r σ H2 λ ps H3=>Q ((x,y)::ps) H3
abbrev VV:List (V×V)->List (Value×Value)->Prop:=Paired λ p q=>RelV p.1 q.1/\RelV p.2 q.2
def PPs(X:Cx)(pos:Pos)(keys:List (Option Expr))(values:List Expr)(trs:List (TE×TE)):Prop:=
 ∀ (pins:PN) (s:Shared) (σ:St) (H:Hp) (Q:List (V×V)->Hp->Prop),Inv X pins σ H s->uR trs σ H Q ->
  wpAny (model X.prog X.w) X.A (evalPairs (pairTrees keys values X.env pos)) (λ vs s'=>∃ ps H',Inv X pins σ H' s'/\VV ps vs/\Q ps H') X.xe s
theorem aer:PPs X pos [] [] []:=λ pins s σ H Q I h=>pairTrees_nil_walk ⟨[],H,I,.nil,h⟩
theorem abQ(hk:PE X k tk)(hv:PE X v tv)(hr:PPs X pos ks vs trs) :
  PPs X pos (some k::ks) (v::vs) ((tk,tv)::trs):=λ pins s σ H Q I h =>
 pairTrees_cons_walk (thn (hk pins s σ H _ I h) λ u s1 ⟨x,H1,I1,rx,q1⟩=>thn (hv pins s1 σ H1 _ I1 q1) λ w2 s2 ⟨y,H2,I2,ry,q2⟩ =>
  thn (hr pins s2 σ H2 _ I2 q2) λ ws s3 ⟨ps,H3,I3,rel,q3⟩=>⟨(x,y)::ps,H3,I3,.cons ⟨rx,ry⟩ rel,q3⟩)
def fT(kvs more:List (Key×V)):List (Key×V):=more.foldl (λ acc kv=>putK acc kv.1 kv.2) kvs
theorem KV.merge:∀ {more:List (Key×V)} {rs:List (Key×Value)} {kvs:List (Key×V)} {vs:List (Key×Value)},KV more rs->KV kvs vs->KV (fT kvs more) (merged vs rs):=by
 intro more rs kvs vs r;unfold KV at r
 induction r generalizing kvs vs with
 | nil=>intro q;exact q
 | @cons p q ps qs h t ih =>
  intro r0;have e:KV (putK kvs p.1 p.2) (stored vs q.1 q.2):=by have:=r0.put p.1 h.2;rw[<- h.1];exact this
  exact ih e
theorem fP:∀ (more kvs:List (Key×V)),(fT kvs more).length<=kvs.length+more.length
 | [],kvs=>by show kvs.length<=kvs.length+0;omega
 | p::r,kvs=>by have h1:=fP r (putK kvs p.1 p.2);have h2:=rG kvs p.1 p.2;show(fT (putK kvs p.1 p.2) r).length<=_;rw[List.length_cons];omega
theorem ml:∀ {kvs:List (Key×V)} {ws:List (Value×Value)},VV (kvs.map λ kv=>(kV kv.1,kv.2)) ws->∃ rs,Carries (bb P w) ws rs/\KV kvs rs
 | [],_,r=>by rw[List.map_nil] at r;cases r;exact⟨[],True.intro,.nil⟩
 | p::kvs,_,r=>by
  rw[List.map_cons] at r;cases r with
  | @cons a b as bs h t =>
   obtain⟨rs,c,q⟩:=ml (P:=P) (w:=w) t;obtain⟨b1,b2⟩:=b;exact⟨(p.1,b2)::rs,⟨sR h.1,rfl,c⟩,.cons ⟨rfl,h.2⟩ q⟩
def aiN(trs:List (TE×TE)):TE:=λ σ H Q=>∀ p,H p=none->uR trs σ (upd H p (.dK [])) λ ps H2=>H2 p=some (.dK [])/\∃ kvs:List (Key×V),ps=kvs.map (λ kv=>(kV kv.1,kv.2))/\kvs.length<=15/\Q (.ref p) (upd H2 p (.dK (fT [] kvs)))
theorem yJ(h:PPs X pos keys values trs)(hall:keys.all (·.isSome)=true)(hl:keys.length=values.length)(h0:keys≠[])
  (h15:keys.length<=15):PE X (.Dict keys values pos) (aiN trs):=by
 intro pins s σ H Q I q;have hn:=I.hok.fresh (Nat.le_refl s.heap.objs.size);have I1:=I.laid (a:=s.heap.objs.size) (o:=.dK []) (h':=s.heap.push {cls:=.type "dict",data:=.dict #[]}) (t':=s.toks) (λ _ _ q=>Heap.get?_push_of_some _ q) (Nat.le_refl _) (tL s.heap I.big);refine wpAny_Dict_walk (knd:=bb X.prog X.w) hall hl h0 h15 (thn (h pins _ σ _ _ I1 (q _ hn)) λ ws s2 hq28=>?_);obtain⟨ps,H2,I2,rel,e,kvs,ep,lk,q2⟩:=hq28;subst ep;obtain⟨rs,c,rk⟩:=ml (P:=X.prog) (w:=X.w) rel;obtain⟨z,hd,vs0,r0,dd⟩:=ahj I2.hok e;cases r0;refine⟨rs,c,dd,λ h' dd' hs=>⟨.ref s.heap.objs.size,_,?_,rfl,q2⟩⟩;have hz:(fT [] kvs).length<=sizeLine:=by have h1:=fP kvs [];rw[List.length_nil] at h1;rw[sizeLine_eq];omega
 have he:∃ q,h'.get? s.heap.objs.size=some q:=let ⟨q,_,_,hq,_⟩:=dd'; ⟨q,hq⟩;exact wL I2 (by rw[e];exact True.intro) hs he (ace hz hd (rk.merge .nil) dd')
structure M1(X:Cx)(o:Expr)(m:Str)(apos:Pos)(e:Expr)(cpos:Pos):Prop where
 base:attributeBase o m X.env (eval o X.env)=eval o X.env
 few:((backTo cpos (starEach [e] X.env)).all (λ x=>!x.1)&&(backToKw cpos (keywordEach [] X.env)).all (λ x=>x.1.isSome)
  && decide (([e]:List Expr).length+([]:List Keyword).length+(if ([]:List Keyword).isEmpty then 0 else 1)<30))=true
 line:(apos.endLine==cpos.line)=true
 trees:backTo cpos (starEach [e] X.env)=[(false,eval e X.env)]
structure M2(X:Cx)(o:Expr)(m:Str)(apos:Pos)(e f:Expr)(cpos:Pos):Prop where
 base:attributeBase o m X.env (eval o X.env)=eval o X.env
 few:((backTo cpos (starEach [e,f] X.env)).all (λ x=>!x.1)&&(backToKw cpos (keywordEach [] X.env)).all (λ x=>x.1.isSome)
  && decide (([e,f]:List Expr).length+([]:List Keyword).length+(if ([]:List Keyword).isEmpty then 0 else 1)<30))=true
 line:(apos.endLine==cpos.line)=true
 trees:backTo cpos (starEach [e,f] X.env)=[(false,eval e X.env),(false,eval f X.env)]
def IsD(H:Hp)(a:Addr):Prop:=(∃ kvs,Rd H a (.dK kvs))\/∃ kvs,Rd H a (.dT kvs)
theorem agb(I:Inv X pins σ H s)(d:IsD H a) :
  s.TypeIs (.ref a) "dict" /\ (∀ b,Value.ref a=.ref b->∃ ob,s.heap.get? b=some ob/\ob.dict=none)/\(a==sysModules)=false:=by
 rcases d with ⟨kvs,e⟩ | ⟨kvs,e⟩
 ·obtain⟨_,hd,vs,_,dd⟩:=vK I.hok e;refine⟨dd.typeIs,λ b q=>?_,hd⟩;cases q;obtain⟨ob,_,_,h1,h2,_⟩:=dd;exact⟨ob,h1,h2.2.1⟩
 ·obtain⟨_,hd,xs,_,dd⟩:=agH I.hok e;refine⟨dd.typeIs,λ b q=>?_,hd⟩;cases q;obtain⟨ob,_,_,h1,h2,_⟩:=dd;exact⟨ob,h1,h2.2.1⟩
section
variable {X:Cx}{pins:PN}{σ:St}{H:Hp}{s:Shared}{a:Addr}{y d:V}{u r:Value}{o:Option V}{A:Around}{E:VP}
end
section
variable {X:Cx}{pins:PN}{σ:St}{H:Hp}{s:Shared}{a:Addr}{y:V}{u:Value}{A:Around}{E:VP}
end
end L2
set_option maxHeartbeats 0
namespace L2
def Fz:HO->Prop
 | .lst _=>True
 | .dK _=>True
 | _=>False
theorem agl(e:H p=some u)(f:Fz u):Un fs ex H (upd H p (.frz o u)) h h where
 keep:=λ b ob q _ _ _=>q
 slot:=λ b ob q _ _ _=>⟨ob.slots,q⟩
 free:=λ b ob _ n _=>by rw[aq (Ne.symm (a6 e n))];exact n
 there:=λ b ob q _=>⟨ob,q⟩
 tups:=λ b xs q=>by
  have:b≠p:=λ z=>by subst z;rw[e] at q;cases q;exact f
  rw[aq this];exact q
 frzs:=λ b ob v q=>by
  have:b≠p:=λ z=>by subst z;rw[e] at q;cases q;exact f
  rw[aq this];exact q
 tbls:=λ b ps q=>by
  have:b≠p:=λ z=>by subst z;rw[e] at q;cases q;exact f
  exact⟨#[],by rw[aq this,q];simp⟩
theorem cF.ai5(f:Fz u)(x:cF P w H h a u):cF P w H' h a u:=by
 cases u with
 | lst xs=>exact x
 | dK kvs=>exact x
 | _=>exact f.elim
theorem cF.obj(f:Fz u)(x:cF P w H h a u):∃ o,h.get? a=some o:=by
 cases u with
 | lst xs=>obtain⟨_,_,_,_,e⟩:=x;exact⟨_,e⟩
 | dK kvs=>obtain⟨_,_,_,_,o,_,_,e,_⟩:=x;exact⟨o,e⟩
 | _=>exact f.elim
theorem Inv.freeze(I:Inv X pins σ H s)(e:H p=some u)(f:Fz u):∃ o,Inv X pins σ (upd H p (.frz o u)) s:=by
 obtain⟨o,ho⟩:=(I.hok p u e).obj f;refine⟨o,I.un (h':=s.heap) (t':=s.toks) (agl e f) λ b v q=>?_⟩
 by_cases hb:b=p
 ·subst hb;rw[ar] at q;cases q;exact⟨ho,(I.hok b u e).ai5 f⟩
 ·rw[aq hb] at q;refine(I.hok b v q).sx (λ _ _ _ q=>q) (λ c r=>?_) λ c xs r=>?_
  ·have:c≠p:=λ z=>by subst z;rw[e] at r;cases r;exact f
   rw[aq this];exact r
  ·have:c≠p:=λ z=>by subst z;rw[e] at r;cases r;exact f
   rw[aq this];exact r
def aje(t:TE):TE:=λ σ H Q=>t σ H λ v H1=>∃ p u,v=.ref p/\H1 p=some u/\Fz u/\∀ o,Q v (upd H1 p (.frz o u))
theorem j6(h:PE X e t):PE X e (aje t):=by intro pins s σ H Q I hq;refine thn (h pins s σ H _ I hq) λ v s1 hq29=>?_;obtain⟨x,H1,I1,r1,p,u,e1,e2,f,q⟩:=hq29;obtain⟨o,I2⟩:=I1.freeze e2 f;exact⟨x,_,I2,r1,q o⟩
theorem Inv.afj(I:Inv X pins σ H s)(e:s.heap.get? D=some {cls:=.type "list",data:=.seq us.toArray n})(hn:H D=none)(hv:Vals ys us)(hz:ys.length<=sizeLine)
  (h0:X.s₀.heap.objs.size<=D)(hL:D≠X.env.locals)(hc:∀ x c,X.env.cells.lookup x=some c->c≠D)(hp:∀ p∈X.pn++pins,p.1≠D):Inv X pins σ (upd H D (.lst ys)) s:=by
 have ne:∀ b u,H b=some u->b≠D:=λ b u q=>a6 q hn;refine I.step (h':=s.heap) (g':=s.gens) (d':=s.drawn) (t':=s.toks) (ch:=[D]) (λ b hb=>?_) (λ b o _ _ _ q _=>q) (λ b o _ _ _ q _=>⟨o.slots,q⟩) (λ b o hb q n=>?_) (λ b o _ q=>⟨o,q⟩)
  (λ b xs q=>by rw[aq (ne b _ q)];exact q) (λ b o u q=>by rw[aq (ne b _ q)];exact q) (λ b ps q=>⟨#[],by rw[aq (ne b _ q),q];simp⟩) (λ m hm=>hm) (λ b u q=>?_) I.bare
 ·have e:b=D:=by simpa using hb
  subst e;exact⟨.inr h0,hL,hc,hp⟩
 ·rw[aq (λ z=>hb (by simp[z]))];exact n
 ·by_cases hb:b=D
  ·subst hb;rw[ar] at q;cases q;exact⟨hz,us,n,hv,e⟩
  ·rw[aq hb] at q;exact(I.hok b u q).sx (λ _ _ _ q=>q) (λ c r=>by rw[aq (ne c _ r)];exact r) λ c xs r=>by rw[aq (ne c _ r)];exact r
abbrev yv(ifs:List Expr)(env:Env):Sem Bool:=forIn ifs true λ c r=>if r=true then do let ok <- isTrue c env (eval c env);pure (ForInStep.yield ok) else pure (ForInStep.yield r)
theorem qg(I:Nat->Shared->Prop)
  (turn:∀ n s,I n s->wpAny (model prog w) A (pyNext it) (λ r s₁=>match r with
   | none=>R (.ok .next) s₁
   | some v=>wpAny (model prog w) A (letOwnedTupleGo target it v) (λ _ s₁'=>wpAny (model prog w) A (assign target env v) (λ _ s₂ =>
     wpAny (model prog w) A (yv ifs env) (λ ok s₃ =>
      if ok=true then wpAny (model prog w) A (eval elt env) (λ x s₄ =>
       wpAny (model prog w) A (call (.builtin "list.append") [acc,x]) (λ _ s₅=>∃ m,m<n/\I m s₅) (λ _ _=>False) s₄) (λ _ _=>False) s₃
      else ∃ m,m<n/\I m s₃) (λ _ _=>False) s₂) (λ _ _=>False) s₁') (λ _ _=>False) s₁) (λ _ _=>False) s)
  (n:Nat)(h:I n s) :
  codeAny (model prog w) A (.compLoop (.ListComp elt [⟨target,iter,ifs,0⟩] scope pos) 0 it acc env) R s:=by
 refine codeAny_loop rfl I (λ n s hI=>?_) n h;show wpAny _ A ((compTurn (.ListComp elt [⟨target,iter,ifs,0⟩] scope pos) 0 it acc env).onRaise (λ x=>do noteFrame x env;theTreesLotGoes x)) _ _ s;refine wpAny_noted ?_;rw[compTurn_list];refine wpAny_bind (wpAny_standAt (wpAny_bind (wpAny_mono (turn n s hI) (λ r s₁ h₁=>?_) λ _ _ h'=>h'.elim)));cases r with
 | none=>exact wpAny_pure h₁
 | some v =>
  refine wpAny_bind (wpAny_mono h₁ (λ _ s₁' h₁'=>?_) λ _ _ h'=>h'.elim);refine wpAny_bind (wpAny_mono h₁' (λ _ s₂ h₂=>wpAny_bind (wpAny_mono h₂ (λ ok s₃ h₃=>?_) λ _ _ h'=>h'.elim)) λ _ _ h'=>h'.elim);cases ok with
  | false=>exact wpAny_pure ⟨rfl,h₃⟩
  | true =>
   exact wpAny_bind (wpAny_bind (wpAny_mono h₃ (λ x s₄ h₄=>wpAny_bind (wpAny_mono h₄ (λ _ s₅ h₅=>wpAny_pure (wpAny_pure ⟨rfl,h₅⟩)) λ _ _ h'=>h'.elim)) λ _ _ h'=>h'.elim))
theorem qc(h:∀ x∈scope.names,x.2=.free->∃ c,env.cells.lookup x.1=some c) :
  ∃ cl,closureFor scope env=pure cl/\(∀ n c,cl.lookup n=some c->env.cells.lookup n=some c)/\(∀ n,(n,NameKind.free)∈scope.names->∃ c,cl.lookup n=some c):=by
 have key:∀ (l:List (Str×NameKind)) (cs:List (Str×Addr)),(∀ x∈l,x.2=.free->∃ c,env.cells.lookup x.1=some c)->(∀ n c,cs.lookup n=some c->env.cells.lookup n=some c) ->
   ∃ cl:List (Str×Addr),(forIn l cs λ x r=>match x with
    | (name,kind)=>if (kind==NameKind.free)=true then do let a <- cellOf env name;pure (ForInStep.yield ((name,a)::r)) else pure (ForInStep.yield r):Sem (List (Str×Addr)))=pure cl /\
    (∀ n c,cl.lookup n=some c->env.cells.lookup n=some c)/\(∀ n c,cs.lookup n=some c->∃ c,cl.lookup n=some c)/\(∀ n,(n,NameKind.free)∈l->∃ c,cl.lookup n=some c):=by
  intro l
  induction l with
  | nil=>intro cs _ hc;exact⟨cs,rfl,hc,λ n c e=>⟨c,e⟩,λ n hn=>nomatch hn⟩
  | cons x l ih =>
   intro cs hl hc;obtain⟨name,kind⟩:=x
   by_cases hk:kind=.free
   ·subst hk;obtain⟨c,e⟩:=hl (name,.free) List.mem_cons_self rfl;obtain⟨cl,h1,h2,h3,h4⟩:=ih ((name,c)::cs) (λ y hy=>hl y (List.mem_cons_of_mem _ hy)) (λ n d q=>by
     rw[List.lookup_cons] at q;cases hb:n==name with
     | true =>
      rw[hb] at q;cases q;rw[eq_of_beq hb];exact e
     | false =>
      rw[hb] at q;exact hc n d q)
    refine⟨cl,?_,h2,λ n d q=>?_,λ n hn=>?_⟩
    ·rw[List.forIn_cons];simp only[beq_self_eq_true,if_true,cellOf,e,pure_bind];exact h1
    ·cases hb:n==name with
     | true=>exact h3 n c (by rw[List.lookup_cons,hb])
     | false=>exact h3 n d (by rw[List.lookup_cons,hb];exact q)
    ·rcases List.mem_cons.mp hn with z | z
     ·cases z;exact h3 name c (by rw[List.lookup_cons];simp)
     ·exact h4 n z
   ·obtain⟨cl,h1,h2,h3,h4⟩:=ih cs (λ y hy=>hl y (List.mem_cons_of_mem _ hy)) hc;refine⟨cl,?_,h2,h3,λ n hn=>?_⟩
    ·rw[List.forIn_cons];have:(kind==NameKind.free)=false:=by simpa using hk
     simp only[this,Bool.false_eq_true,if_false,pure_bind];exact h1
    ·rcases List.mem_cons.mp hn with z | z
     ·cases z;exact absurd rfl hk
     ·exact h4 n z
 obtain⟨cl,h1,h2,_,h4⟩:=key scope.names [] h (λ n c e=>by simp at e);refine⟨cl,?_,h2,h4⟩;unfold closureFor;simp only[bind_pure];exact h1
theorem jl{sc:Scope}{env:Env}{x:Str}:∀ {names:List (Str×NameKind)},(names.map λ(n,k)=>if (k==NameKind.free&&env.scope.kind==.function&&env.kindOf n==some .cell) then (n,NameKind.cell) else (n,k)).lookup x=some .cell \/
  (names.map λ(n,k)=>if (k==NameKind.free&&env.scope.kind==.function&&env.kindOf n==some .cell) then (n,NameKind.cell) else (n,k)).lookup x=some .free->(∀ y∈names,y.2 ≠ .cell)->(x,NameKind.free)∈names
 | [],h,_=>by simp at h
 | (n,k)::r,h,hc=>by
  have ih:=@jl sc env x r
  by_cases hk:(k==NameKind.free&&env.scope.kind==.function&&env.kindOf n==some .cell)=true
  ·simp only[List.map_cons,if_pos hk,List.lookup_cons] at h;cases hx:x==n with
   | true =>
    have e:=eq_of_beq hx;subst e;simp only[Bool.and_eq_true] at hk;have:=eq_of_beq hk.1.1;subst this;exact List.mem_cons_self
   | false =>
    rw[hx] at h;exact List.mem_cons_of_mem _ (ih h λ y hy=>hc y (List.mem_cons_of_mem _ hy))
  ·simp only[List.map_cons,if_neg hk,List.lookup_cons] at h;cases hx:x==n with
   | true =>
    rw[hx] at h;have e:=eq_of_beq hx;subst e;rcases h with h | h
    ·cases h;exact absurd rfl (hc (x,.cell) List.mem_cons_self)
    ·cases h;exact List.mem_cons_self
   | false =>
    rw[hx] at h;exact List.mem_cons_of_mem _ (ih h λ y hy=>hc y (List.mem_cons_of_mem _ hy))
theorem eR{env:Env}{x:Str}:∀ {names:List (Str×NameKind)},names.lookup x=some .free ->
  (names.map λ(n,k)=>if (k==NameKind.free&&env.scope.kind==.function&&env.kindOf n==some .cell) then (n,NameKind.cell) else (n,k)).lookup x=some .cell \/
  (names.map λ(n,k)=>if (k==NameKind.free&&env.scope.kind==.function&&env.kindOf n==some .cell) then (n,NameKind.cell) else (n,k)).lookup x=some .free
 | [],h=>by simp at h
 | (n,k)::r,h=>by
  have ih:=@eR env x r
  by_cases hk:(k==NameKind.free&&env.scope.kind==.function&&env.kindOf n==some .cell)=true
  ·simp only[List.map_cons,if_pos hk,List.lookup_cons];cases hx:x==n with
   | true=>exact .inl rfl
   | false=>rw[List.lookup_cons,hx] at h;exact ih h
  ·simp only[List.map_cons,if_neg hk,List.lookup_cons];cases hx:x==n with
   | true=>rw[List.lookup_cons,hx] at h;exact .inr h
   | false=>rw[List.lookup_cons,hx] at h;exact ih h
def blk(X:Cx)(sc:Scope)(N':List Str)(cl:List (Str×Addr))(C:Addr)(s:Shared)(H:Hp)(ex:List Addr)(pins:PN):Cx:=
 {X with N:=N',s₀:=s,H₀:=H,env:=compEnvC sc cl C X.env,outer:=X.stack,ex:=ex,fn:=λ _=>false,pn:=X.pn++pins,xe:=λ _ _=>False}
def lcN(X:Cx)(own:List Str)(fr:List Nat):List Str:=own++fr.map λ j=>X.N.getD j Str.empty
def lcS(k:Nat)(fr:List Nat)(σ:St):St:=List.replicate k none++fr.map λ j=>(σ[j]?).getD none
def aiS(N:List Str)(sc:Scope)(fr:List Nat):Bool:=fr.all λ j=>match N[j]? with
 | some x=>sc.names.lookup x==some .free
 | none=>false
structure xT(X:Cx)(sc:Scope)(own:List Str)(fr:List Nat):Prop where
 kind:sc.kind=.function
 cell:∀ y∈sc.names,y.2 ≠ .cell
 free:∀ y∈sc.names,y.2=.free->(X.env.kindOf y.1=some .cell\/X.env.kindOf y.1=some .free)
 names:∀ y∈sc.names,y.2=.local->sc.names.lookup y.1=some .local
 fr:aiS X.N sc fr=true
def PTs(X:Cx)(ifs:List Expr)(t:TT):Prop:=
 ∀ (pins:PN) (s:Shared) (σ:St) (H:Hp) (Q:Bool->Hp->Prop),Inv X pins σ H s->t σ H Q->wpAny (model X.prog X.w) X.A (yv ifs X.env) (TP X pins σ Q) X.xe s
def ajL:TT:=λ _ H Q=>Q true H
theorem aeI:PTs X [] ajL:=λ _ _ _ H _ I h=>wpAny_tests_nil ⟨H,I,h⟩
theorem aba(h:aiS N sc fr=true)(hj:j∈fr):∃ x,N[j]? =some x/\sc.names.lookup x=some .free:=by
 have q:=List.all_eq_true.mp h j hj;cases e:N[j]? with
 | none=>simp[e] at q
 | some x =>
  simp only[e] at q;exact⟨x,rfl,eq_of_beq q⟩
theorem afr(L:xT X sc own fr)(I:Inv X pins σ H s)(hf:∀ b∈fp,vT X pins H b)(hb:∀ b∈fp,b<s.heap.objs.size)(hC:s.heap.objs.size<=C)
  (c1:∀ n c,cl.lookup n=some c->X.env.cells.lookup n=some c)(c2:∀ n,(n,NameKind.free)∈sc.names->∃ c,cl.lookup n=some c):(blk X sc (lcN X own fr) cl C s H fp pins).Ok where
 mod:=I.ok.mod
 kind:=L.kind
 glob:=I.ok.glob
 blt:=I.ok.blt
 above:=hC
 inj:=λ x y c a b=>I.ok.inj x y c (c1 _ _ a) (c1 _ _ b)
 has:=λ x hx=>c2 x (jl (sc:=sc) (env:=X.env) hx L.cell)
 cab:=λ x c z=>absurd (show false=true from z) Bool.false_ne_true
 hd:=I.ok.hd
 frames:=I.ok.frames
 stk:=.inl rfl
 exf:=λ b z=>⟨Nat.ne_of_lt (Nat.lt_of_lt_of_le (hb b z) hC),λ x c e=>(hf b z).2.2.2.2.1 x c (c1 _ _ e)⟩
 bs:=I.bs
 bsz:=Nat.le_trans I.ok.bsz I.sz
 noex:=λ b o e z=>by
  rcases(hf b z).2.2.2.1 with q | q
  ·exact I.ok.noex b o e q
  ·exact absurd (Nat.lt_of_lt_of_le (Heap.lt_size e) (Nat.le_trans I.ok.bsz q)) (Nat.lt_irrefl _)
 exfs:=λ b z q=>by
  rcases List.mem_cons.mp (I.mQ b q) with e | e
  ·exact(hf b z).2.1 e
  ·exact(hf b z).2.2.1 e
 oF:=I.stack
 frf:=I.rQ
theorem ad5(L:xT X sc own fr)(I:Inv X pins σ H s)(hf:∀ b∈fp,vT X pins H b)(hb:∀ b∈fp,b<s.heap.objs.size)(hC:s.heap.objs.size<=C)
  (c1:∀ n c,cl.lookup n=some c->X.env.cells.lookup n=some c)(c2:∀ n,(n,NameKind.free)∈sc.names->∃ c,cl.lookup n=some c)
(hn:h1.Ns C m) (k:∀ b o,s.heap.get? b=some o->h1.get? b=some o) :
  Inv (blk X sc (lcN X own fr) cl C s H fp pins) [] (lcS own.length fr σ) H {s with heap:=h1,toks:=tk}:=by
 have ok:=afr L I hf hb hC c1 c2;refine⟨ok,rfl,I.bare,Un.kept k,⟨m,hn,λ i x v e1 e2 e3=>?_⟩,λ x c e=>?_,I.hok.fresh hC,λ x c e=>I.freeC x c (c1 _ _ e),λ p hp=>?_,I.hok.kept k,?_⟩
 ·-- one of the names around
  have hi:¬ i<own.length:=λ hi=>by
   unfold lcS at e2;rw[List.getElem?_append_left (by simpa using hi),List.getElem?_replicate] at e2
   split at e2<;>cases e2
  have e1':(lcN X own fr)[i]? =some x:=e1;unfold lcN at e1';unfold lcS at e2;rw[List.getElem?_append_right (by omega),List.getElem?_map] at e1';rw[List.getElem?_append_right (by simpa using hi),List.getElem?_map,List.length_replicate] at e2;cases q:fr[i-own.length]? with
  | none=>rw[q] at e1';cases e1'
  | some j =>
   rw[q] at e1' e2;obtain⟨y,hy,hyf⟩:=aba L.fr (List.mem_of_getElem? q);have ex:y=x:=by have:=Option.some.inj e1';rw[<- this];simp[List.getD,hy]
   subst ex;have ev:σ[j]? =some (some v):=by
    have z:(σ[j]?).getD none=some v:=Option.some.inj e2;cases w:σ[j]? with
    | none=>rw[w] at z;cases z
    | some o=>rw[w] at z;exact congrArg some z
   have hm:(y,NameKind.free)∈sc.names:=PySem.mem_of_lookup hyf;have hk:=L.free _ hm rfl;have vis:Vis X.env.scope y:=by
    rcases hk with z | z
    ·exact .inr (.inl z)
    ·exact .inr (.inr z)
   obtain⟨m0,hn0,hl⟩:=I.loc;obtain⟨u,r,l⟩:=hl j y v hy ev vis;refine⟨u,r,.inr ⟨?_,?_⟩⟩
   ·exact eR (env:=X.env) hyf
   ·obtain⟨c,hc⟩:=c2 y hm;rcases l with ⟨z,_⟩ | ⟨_,c',hc',hcell⟩
    ·rcases hk with q | q
     ·exact absurd (show X.env.kindOf y=some .local from z) (by rw[q];decide)
     ·exact absurd (show X.env.kindOf y=some .local from z) (by rw[q];decide)
    ·have:c=c':=Option.some.inj ((c1 _ _ hc).symm.trans hc');subst this;obtain⟨o,ho,hd⟩:=hcell;exact⟨c,hc,o,k _ _ ho,hd⟩
 ·obtain⟨v,o,ho,hd⟩:=I.cell x c (c1 _ _ e);exact⟨v,o,k _ _ ho,hd⟩
 ·have hp':p∈X.pn++pins:=by simpa [blk] using hp
  obtain⟨a1,a2,a3,a4,a5⟩:=I.pin p hp';refine⟨k _ _ a1,a2,Nat.ne_of_lt (Nat.lt_of_lt_of_le (Heap.lt_size a1) hC),λ q=>?_,a5⟩;rcases List.mem_cons.mp (I.mQ _ q) with e | e
  ·exact a3 e
  ·exact a4 e
 ·show(lcS own.length fr σ).length=(lcN X own fr).length;simp[lcS,lcN]
abbrev LcW:=Nat->Nat->List V->St->Hp->Prop
def acg(J:It)(g:TG)(tt:TT)(te:TE)(W:LcW)(Fin:List V->Hp->Prop):Prop:=∀ i m ys τ H,W i m ys τ H ->
 (J.stop i H/\Fin ys H)\/(J.go i H/\ys.length<sizeLine/\∀ x H',J.yld i H x H'->g x τ H' λ τ2 H2=>tt τ2 H2 λ b H3 =>
  if b=true then te τ2 H3 λ y H4=>∃ m',m'<m/\W (i+1) m' (ys++[y]) τ2 H4 else ∃ m',m'<m/\W (i+1) m' ys τ2 H3)
section
variable {X:Cx}{pins:PN}{σ:St}{H:Hp}{s:Shared}{sc:Scope}{own:List Str}{fr:List Nat}{cl:List (Str×Addr)}{fp:List Addr}{it:Addr}{J:It}{tn:Nat->Heap->Prop}{g:TG}{tt:TT}{te:TE}{W:LcW}{Fin:List V->Hp->Prop}
 {elt tg iter:Expr}{ifs:List Expr}{pos:Pos}{E:VP}
theorem xF{RR:Value->Addr->Result->Shared->Prop}(hc:X.calm=true)(L:xT X sc own fr)(hcl1:∀ n c,cl.lookup n=some c->X.env.cells.lookup n=some c)(hcl2:∀ n,(n,NameKind.free)∈sc.names->∃ c,cl.lookup n=some c)
  (hg:∀ C s H ex pl,PG (blk X sc (lcN X own fr) cl C s H ex pl) tg g)(ht:∀ C s H ex pl,PTs (blk X sc (lcN X own fr) cl C s H ex pl) ifs tt)(he:∀ C s H ex pl,PE (blk X sc (lcN X own fr) cl C s H ex pl) elt te)
  (I:Inv X pins σ H s)(T:Turn X.prog X.w X.K tg J fp it tn)(st:tn 0 s.heap)(hf:∀ b∈fp,vT X pins H b)(w0:∃ m,W 0 m [] (lcS own.length fr σ) H)(turn:acg J g tt te W Fin)
  (hRR:∀ (D C:Addr) (s':Shared) (H':Hp) (ys:List V) (us:List Value) (n:Nat) (m:Str->Option Value),Inv X pins σ H' s'->s'.heap.get? D=some {cls:=.type "list",data:=.seq us.toArray n}->Vals ys us->ys.length<=sizeLine->H' D=none->H' C=none ->
   s.heap.objs.size<=D->s.heap.objs.size<=C->D≠C->s'.heap.Ns C m->Fin ys H'->RR (.ref D) C (.ok .next) s') :
  wpAny (model X.prog X.w) X.A (newList []) (λ acc s₃=>wpAny (model X.prog X.w) X.A (newFunctionEnv sc X.env.globals cl [] X.env.qual none .none (some X.env)) (λ cenv s₄ =>
   codeAny (model X.prog X.w) X.A (.compStart (.ListComp elt [⟨tg,iter,ifs,0⟩] sc pos) 0 (.ref it) acc {cenv with scope:=relabel sc X.env}) (RR acc cenv.locals) s₄) E s₃) E s:=by
 refine wpAny_newObj_type (wpAny_newFunctionEnv L.cell (by intro y hy;simp at hy) (λ h₁ hns₁ hsb₁=>?_) L.kind);dsimp only at hns₁ hsb₁ ⊢;generalize hH2:s.heap.push {cls:=.type "list",dict:=none,data:=.seq ([]:List Value).toArray}=H2 at hns₁ hsb₁ ⊢;have hCs:H2.objs.size=s.heap.objs.size+1:=by rw[<- hH2,Heap.size_push]
 have hD0:s.heap.objs.size≠H2.objs.size:=by rw[hCs];exact Nat.ne_of_lt (Nat.lt_succ_self _)
 have hCle:s.heap.objs.size<=H2.objs.size:=by rw[hCs];exact Nat.le_succ _
 have below:∀ b,b<s.heap.objs.size->b≠H2.objs.size/\b≠s.heap.objs.size:=λ b hb=>⟨by rw[hCs];exact Nat.ne_of_lt (Nat.lt_succ_of_lt hb),Nat.ne_of_lt hb⟩;have old:∀ b o,s.heap.get? b=some o->h₁.get? b=some o:=λ b o e=>hsb₁.extBut b o (below b (Heap.lt_size e)).1 (Heap.get?_push_of_some _ (hH2 ▸ Heap.get?_push_of_some _ e));have hacc:h₁.get? s.heap.objs.size=some {cls:=.type "list",data:=.seq ([]:List Value).toArray 0}:=hsb₁.extBut _ _ hD0 (Heap.get?_push_of_some _ (hH2 ▸ Heap.get?_push_size _ rfl));have hfb:∀ b∈fp,b<s.heap.objs.size:=λ b hb=>by obtain⟨o,e,_⟩:=T.obj 0 _ st b hb;exact Heap.lt_size e
 have I1:Inv (blk X sc (lcN X own fr) cl H2.objs.size s H fp pins) [] (lcS own.length fr σ) H {s with heap:=h₁,toks:=s.toks+([]:List (Str×Value)).length}:=ad5 L I hf hfb hCle hcl1 hcl2 hns₁ old;have st1:tn 0 h₁:=T.keep 0 _ _ st λ b _ o e=>old b o e;generalize hY:blk X sc (lcN X own fr) cl H2.objs.size s H fp pins=Y at I1;have hYp:Y.prog=X.prog:=by rw[<- hY];rfl
 have hYw:Y.w=X.w:=by rw[<- hY];rfl
 have hYK:Y.K=X.K:=by rw[<- hY];rfl
 have hYA:Y.A=X.A:=by rw[<- hY];rfl
 have hYc:Y.calm=true:=by rw[<- hY];exact hc
 have hYe:Y.env=compEnvC sc cl H2.objs.size X.env:=by rw[<- hY];rfl
 have hYx:Y.xe=λ _ _=>False:=by rw[<- hY];rfl
 have hYpn:Y.pn=X.pn++pins:=by rw[<- hY];rfl
 have hYs:Y.s₀=s:=by rw[<- hY];rfl
 have hYH:Y.H₀=H:=by rw[<- hY];rfl
 have hYex:Y.ex=fp:=by rw[<- hY];rfl
 have hYfs:Y.fs=frs X.stack:=by rw[<- hY];rfl
 have gY:=hg H2.objs.size s H fp pins;have tY:=ht H2.objs.size s H fp pins;have eY:=he H2.objs.size s H fp pins;rw[hY] at gY tY eY;have D_pin:∀ p∈Y.pn++([]:PN),p.1≠s.heap.objs.size:=λ p hp=>by rw[hYpn,List.append_nil] at hp;exact(below _ (Heap.lt_size (I.pin p hp).1)).2
 have D_cell:∀ x c,Y.env.cells.lookup x=some c->c≠s.heap.objs.size:=λ x c e=>by rw[hYe] at e;obtain⟨v,z⟩:=I.cell x c (hcl1 _ _ e);exact(below _ z.lt).2
 have D_loc:s.heap.objs.size≠Y.env.locals:=by rw[hYe];exact hD0
 have D_fs:s.heap.objs.size ∉ Y.fs:=by
  rw[hYfs];intro z;rcases List.mem_cons.mp (I.mQ _ z) with e | e
  ·exact absurd I.lt (by rw[<- e];exact Nat.lt_irrefl _)
  ·exact I.ajz (Nat.le_refl _) e
 have fpY:∀ {H':Hp} (pl:PN),(∀ b∈fp,H' b=none)->(∀ p∈pl,p.1=s.heap.objs.size)->∀ b∈fp,vT Y pl H' b:=λ {H'} pl hn hp b hb=>by
  obtain⟨_,f1,f2,f3,f4,f5⟩:=hf b hb;refine⟨hn b hb,by rw[hYe];exact(below b (hfb b hb)).1,?_,.inl (by rw[hYex];exact hb),λ x c e=>?_,λ p q=>?_⟩
  ·rw[hYfs];intro z;rcases List.mem_cons.mp (I.mQ _ z) with e | e
   ·exact f1 e
   ·exact f2 e
  ·rw[hYe] at e;exact f4 x c (hcl1 _ _ e)
  ·rcases List.mem_append.mp q with z | z
   ·rw[hYpn] at z;exact f5 p z
   ·rw[hp p z];exact Ne.symm (below b (hfb b hb)).2
 have loop:∀ s₃:Shared,s₃={s with heap:=h₁,toks:=s.toks+([]:List (Str×Value)).length} ->
   codeAny (model X.prog X.w) X.A (.compLoop (.ListComp elt [⟨tg,iter,ifs,0⟩] sc pos) 0 (.ref it) (.ref s.heap.objs.size) (compEnvC sc cl H2.objs.size X.env)) (RR (.ref s.heap.objs.size) H2.objs.size) s₃:=by
  rintro s₃ rfl;obtain⟨m0,w0⟩:=w0;refine qg (λ n s'=>∃ i ys τ H' us k,Inv Y [] τ H' s'/\tn i s'.heap/\(∀ b∈fp,H' b=none)/\H' s.heap.objs.size=none/\s'.heap.get? s.heap.objs.size=some {cls:=.type "list",data:=.seq us.toArray k}/\Vals ys us/\ys.length<=sizeLine/\W i n ys τ H') ?_ m0
   ⟨0,[],_,H,[],0,I1,st1,λ b hb=>(hf b hb).1,I.hok.fresh (Nat.le_refl _),hacc,.nil,Nat.zero_le _,w0⟩
  rintro n s' ⟨i,ys,τ,H',us,k,I',st',hn',hD',ha',hv',hz',w'⟩;have Ip:Inv Y [(s.heap.objs.size,{cls:=.type "list",data:=.seq us.toArray k})] τ H' s':=I'.iY λ p hp=>by
   have e:p=(s.heap.objs.size,{cls:=.type "list",data:=.seq us.toArray k}):=by simpa using hp
   subst e;exact⟨ha',hD',D_loc,D_fs,λ v z=>nomatch (show Data.seq _ _=Data.cell v from z)⟩
  have onlyD:∀ p∈[((s.heap.objs.size,{cls:=.type "list",data:=.seq us.toArray k}):Addr×Obj)],p.1=s.heap.objs.size:=λ p hp=>by
   have e:p=(s.heap.objs.size,{cls:=.type "list",data:=.seq us.toArray k}):=by simpa using hp
   subst e;rfl
  rcases turn i n ys τ H' w' with ⟨stop,fin⟩ | ⟨go,hlen,step⟩
  ·have q:=T.done Y hYp hYw hYK hYc i _ s' τ H' (λ _ _=>False) Ip (fpY _ hn' onlyD) st' stop;rw[hYA] at q;refine thn q λ r s4 hq30=>?_;obtain⟨hr,I4⟩:=hq30;subst hr;have un:Un (frs X.stack) fp H H' s.heap s4.heap:=by have z:=I4.base;rw[hYfs,hYex,hYH,hYs] at z;exact z
   have os4:s4.os=s.os:=by have z:=I4.os;rw[hYs] at z;exact z
   have hok4:HOk X.prog X.w H' s4.heap:=by have z:=I4.hok;rw[hYp,hYw] at z;exact z
   have hch:∀ b∈fp,(b∈X.ex\/X.s₀.heap.objs.size<=b)/\b≠X.env.locals/\(∀ x c,X.env.cells.lookup x=some c->c≠b)/\∀ p∈X.pn++pins,p.1≠b:=λ b hb=>by obtain⟨_,f1,f2,f3,f4,f5⟩:=hf b hb;exact⟨f3,f1,f4,f5⟩
   have IX:Inv X pins σ H' s4:=I.afx os4 un hok4 I4.bare hch;obtain⟨mC,hmC,_⟩:=I4.loc;have hCf:=I4.free;rw[hYe] at hmC hCf;have pD:=I4.pin (s.heap.objs.size,{cls:=.type "list",data:=.seq us.toArray k}) (List.mem_append_right _ (List.mem_singleton.mpr rfl));exact hRR _ _ s4 H' ys us k mC IX pD.1 hv' hz' pD.2.1 hCf (Nat.le_refl _) hCle hD0 hmC fin
  ·have q:=T.item Y hYp hYw hYK hYc i _ s' τ H' (λ _ _=>False) Ip (fpY _ hn' onlyD) st' go;rw[hYA] at q;refine thn q λ r s4 hq31=>?_;obtain⟨u,hr,h4⟩:=hq31;subst hr;refine thn h4 λ _ s5 hq32=>?_;obtain⟨x,H5,I5,r5,y5,st5,fr5⟩:=hq32;have I5':=I5.pinned (fpY _ fr5 onlyD) (T.obj _ _ st5);have g5:=gY _ s5 τ H5 x u _ I5' r5 (step x H5 y5);rw[hYp,hYw,hYA,hYe,hYx] at g5;refine thn g5 λ _ s6 hq33=>?_;obtain⟨σ6,H6,I6,q6⟩:=hq33;have t6:=tY _ s6 σ6 H6 _ I6 q6;rw[hYp,hYw,hYA,hYe,hYx] at t6;refine thn t6 λ ok s7 hq34=>?_;obtain⟨H7,I7,q7⟩:=hq34;have keepD:∀ {σ8:St} {H8:Hp} {s8:Shared},Inv Y ([(s.heap.objs.size,{cls:=.type "list",data:=.seq us.toArray k})]++mM fp s5.heap) σ8 H8 s8->s8.heap.get? s.heap.objs.size=some {cls:=.type "list",data:=.seq us.toArray k}/\H8 s.heap.objs.size=none:=
    λ {σ8 H8 s8} I8=>by have pD:=I8.pin (s.heap.objs.size,{cls:=.type "list",data:=.seq us.toArray k}) (List.mem_append_right _ (List.mem_append_left _ (List.mem_singleton.mpr rfl)));exact⟨pD.1,pD.2.1⟩
   have keepI:∀ {σ8:St} {H8:Hp} {s8:Shared},Inv Y ([(s.heap.objs.size,{cls:=.type "list",data:=.seq us.toArray k})]++mM fp s5.heap) σ8 H8 s8->tn (i+1) s8.heap/\∀ b∈fp,H8 b=none:=
    λ {σ8 H8 s8} I8=>by refine⟨T.keep _ _ _ st5 λ b hb o e=>(I8.pin (b,o) (List.mem_append_right _ (List.mem_append_right _ (gD hb e)))).1,λ b hb=>?_⟩;obtain⟨o,e,d⟩:=T.obj _ _ st5 b hb;exact(I8.pin (b,o) (List.mem_append_right _ (List.mem_append_right _ (gD hb e)))).2.1
   cases ok with
   | false =>
    rw[if_neg Bool.false_ne_true] at q7 ⊢;obtain⟨m',hm',w7⟩:=q7;obtain⟨a7,b7⟩:=keepD I7;obtain⟨c7,d7⟩:=keepI I7;exact⟨m',hm',i+1,ys,σ6,H7,us,k,I7.iY (λ p hp=>(nomatch hp)),c7,d7,b7,a7,hv',hz',w7⟩
   | true =>
    rw[if_pos rfl] at q7 ⊢;have e7:=eY _ s7 σ6 H7 _ I7 q7;rw[hYp,hYw,hYA,hYe,hYx] at e7;refine thn e7 λ v s8 hq35=>?_;obtain⟨y,H8,I8,r8,m',hm',w8⟩:=hq35;obtain⟨a8,b8⟩:=keepD I8;obtain⟨c8,d8⟩:=keepI I8;have hl:=hv'.length;refine call_meets F.slot_list_append ⟨_,a8,rfl⟩ F.entry_list_append (F.args_list_append_2 _ _) (PySem.list_append s.heap.objs.size us.toArray k v (by rw[List.size_toArray];omega)) ⟨a8,?_⟩;have qu:=PySem.IsL.update a8 (λ xs=>xs.push v);have I9:=(I8.iY (pins':=[]) λ p hp=>nomatch hp).turned (it:=s.heap.objs.size) (t':=s8.toks) (h':=s8.heap.update s.heap.objs.size (Obj.mapSeq λ xs=>xs.push v)) (λ b o hb e=>(Heap.get?_update_other s8.heap _ (Ne.symm hb)).trans e) b8 D_loc (.inr (by rw[hYs];exact Nat.le_refl _)) D_cell D_pin;have ep:us.toArray.push v=(us++[v]).toArray:=by simp
    rw[ep] at qu;refine⟨m',hm',i+1,ys++[y],σ6,H8,us++[v],(if (us++[v]).toArray.size==us.toArray.size then k else k+1),I9,T.keep _ _ _ c8 λ b hb o e=>(Heap.get?_update_other s8.heap _ (Ne.symm (below b (hfb b hb)).2)).trans e,d8,b8,?_,hv'.append (.cons r8 .nil),?_,w8⟩
    ·exact qu
    ·rw[List.length_append,List.length_singleton];omega
 exact codeAny_compStart_list (loop _ rfl) (T.self _ 0 _ _ _ st1 (loop _ rfl))
def tLC(wi:TI)(g:TG)(tt:TT)(te:TE)(k:Nat)(fr:List Nat):TE:=λ σ H Q=>wi σ H λ J H1=>∃ W:LcW,(∃ m,W 0 m [] (lcS k fr σ) H1)/\acg J g tt te W λ ys H2=>∀ p,H2 p=none->Q (.ref p) (upd H2 p (.lst ys))
theorem mI(L:xT X sc own fr)(ok:X.Ok):∃ cl,closureFor sc X.env=pure cl/\(∀ n c,cl.lookup n=some c->X.env.cells.lookup n=some c)/\(∀ n,(n,NameKind.free)∈sc.names->∃ c,cl.lookup n=some c):=
 qc λ x hx hf=>ok.has x.1 (L.free x hx hf)
theorem aif(hc:X.calm=true)(L:xT X sc own fr)(hi:PI X tg iter wi)
  (hg:∀ cl C s H ex pl,PG (blk X sc (lcN X own fr) cl C s H ex pl) tg g)(ht:∀ cl C s H ex pl,PTs (blk X sc (lcN X own fr) cl C s H ex pl) ifs tt)(he:∀ cl C s H ex pl,PE (blk X sc (lcN X own fr) cl C s H ex pl) elt te)
  (hs:∀ x,foldedSetIterable iter X.env x=pure x:=by intro _;rfl):PE X (.ListComp elt [⟨tg,iter,ifs,0⟩] sc pos) (tLC wi g tt te own.length fr):=by
 intro pins s σ H Q I h;obtain⟨cl,hcl,c1,c2⟩:=mI L I.ok;rw[eval_ListComp];refine wpAny_comprehension_free (use:=none) (g:=⟨tg,iter,ifs,0⟩) (gs:=[]) rfl hs hcl L.kind L.names ?_;refine thn (hi pins s σ H _ I h) λ v s1 h1=>thn h1 λ itv s2 h2=>?_;obtain⟨it,fp,tn,J,H2,e,I2,T,st2,f2,W,w0,turn⟩:=h2;subst e;refine xF (cl:=cl) hc L c1 c2 (hg cl) (ht cl) (he cl) I2 T st2 f2 w0 turn λ D C s' H' ys us n m I' a' hv hz hD hC dD dC hDC hns fin=>?_;refine⟨m,hns,λ h' sb=>?_⟩;have far:∀ b,s2.heap.objs.size<=b->(X.s₀.heap.objs.size<=b)/\b≠X.env.locals/\(∀ x c,X.env.cells.lookup x=some c->c≠b)/\∀ p∈X.pn++pins,p.1≠b:=λ b hb=>by obtain⟨_,f1,_,f3,f4,f5⟩:=I2.rL (H':=λ _=>none) hb rfl;refine⟨Nat.le_trans I2.sz hb,f1,f4,f5⟩
 obtain⟨z1,z2,z3,z4⟩:=far C dC;obtain⟨y1,y2,y3,y4⟩:=far D dD;have I3:Inv X pins σ H' {s' with heap:=h'}:=I'.turned (t':=s'.toks) (λ b o hb e=>sb.extBut b o hb e) hC z2 (.inr z1) z3 z4;exact⟨.ref D,_,I3.afj (sb.extBut _ _ hDC a') hD hv hz y1 y2 y3 y4,rfl,fin D hD⟩
theorem aao(hN:X.N.Nodup)(hi':X.N[i]? =some x)(hx:Loc X.env.scope x)(hc:X.calm=true)(L:xT X sc own fr)(hi:PI X tg iter wi)
  (hg:∀ cl C s H ex pl,PG (blk X sc (lcN X own fr) cl C s H ex pl) tg g)(ht:∀ cl C s H ex pl,PTs (blk X sc (lcN X own fr) cl C s H ex pl) ifs tt)(he:∀ cl C s H ex pl,PE (blk X sc (lcN X own fr) cl C s H ex pl) elt te)
  (hsw:swapsWith (.ListComp elt [⟨tg,iter,ifs,0⟩] sc pos) (some (.Name x pos')) spos.line X.env=pure true:=by rfl)
  (hs:∀ x,foldedSetIterable iter X.env x=pure x:=by intro _;rfl)(hf:X.fn x=true\/X.env.scope.names.lookup x=some .local:=by first | exact .inl rfl | exact .inr rfl | assumption) :
  PS X (.Assign [.Name x pos'] (.ListComp elt [⟨tg,iter,ifs,0⟩] sc pos) spos) (ahr (tLC wi g tt te own.length fr) (adD i)):=by
 intro pins s σ H D' I h;obtain⟨cl,hcl,c1,c2⟩:=mI L I.ok;rw[exec_Assign_Name_used _ _ _ _ hsw];refine wpAny_bind (wpAny_standAt (wpAny_bind ?_));show wpAny _ _ (evalThenUse (.ListComp elt [⟨tg,iter,ifs,0⟩] sc pos) X.env (assign (.Name x pos') X.env)) _ _ _;unfold evalThenUse;refine wpAny_bind ?_;refine wpAny_comprehension_free (use:=some (assign (.Name x pos') X.env)) (g:=⟨tg,iter,ifs,0⟩) (gs:=[]) rfl hs hcl L.kind L.names ?_;refine thn (hi pins s σ H _ I h) λ v s1 h1=>thn h1 λ itv s2 h2=>?_;obtain⟨it,fp,tn,J,H2,e,I2,T,st2,f2,W,w0,turn⟩:=h2;subst e;refine xF (cl:=cl) hc L c1 c2 (hg cl) (ht cl) (he cl) I2 T st2 f2 w0 turn λ D C s' H' ys us n m I' a' hv hz hD hC dD dC hDC hns fin=>?_;have far:∀ b,s2.heap.objs.size<=b->(X.s₀.heap.objs.size<=b)/\b≠X.env.locals/\(∀ x c,X.env.cells.lookup x=some c->c≠b)/\(b ∉ X.fs)/\∀ p∈X.pn++pins,p.1≠b:=λ b hb=>by obtain⟨_,f1,f2,f3,f4,f5⟩:=I2.rL (H':=λ _=>none) hb rfl;refine⟨Nat.le_trans I2.sz hb,f1,f4,f2,f5⟩
 obtain⟨z1,z2,z3,z0,z4⟩:=far C dC;obtain⟨y1,y2,y3,_,y4⟩:=far D dD;have I3:=I'.afj a' hD hv hz y1 y2 y3 y4;obtain⟨oC,hoC,nsC⟩:∃ o,s'.heap.get? C=some o/\∃ es ep,o.data=.dict es ep:=by obtain⟨o,es,ep,e1,e2,_⟩:=hns;exact⟨o,e1,es,ep,e2⟩
 have hCt:(upd H' D (.lst ys)) C=none:=by rw[aq (Ne.symm hDC)];exact hC
 have I4:Inv X (pins++[(C,oC)]) σ (upd H' D (.lst ys)) s':=I3.iY λ p hp=>by
  rcases List.mem_append.mp hp with z | z
  ·exact I3.pin p (List.mem_append_right _ z)
  ·have e:p=(C,oC):=by simpa using z
   subst e;obtain⟨es,ep,hd⟩:=nsC;exact⟨hoC,hCt,z2,z0,λ v z=>by have z':oC.data=.cell v:=z;rw[hd] at z';cases z'⟩
 refine thn (wO (pos:=pos') hN hi' hx hf _ s' σ _ (.ref D) (.ref D) _ I4 rfl (fin D hD)) λ _ s5 hq36=>?_;obtain⟨σ5,H5,I5,q5⟩:=hq36;have pC:=I5.pin (C,oC) (List.mem_append_right _ (List.mem_append_right _ (List.mem_singleton.mpr rfl)));obtain⟨o,es,ep,e1,e2,e3⟩:=hns;rw[hoC] at e1;cases e1;refine⟨m,⟨oC,es,ep,pC.1,e2,e3⟩,λ h' sb=>?_⟩;have I6:Inv X pins σ5 H5 {s5 with heap:=h'}:=(I5.jI).turned (t':=s5.toks) (λ b o hb e=>sb.extBut b o hb e) pC.2.1 z2 (.inr z1) z3 z4;exact wpAny_pure (wpAny_pure ⟨σ5,H5,I6,q5⟩)
end
end L2
namespace D
open L2
abbrev St:=L2.St
structure Kp(H H':Hp):Prop where
 tup:∀ b xs,H b=some (.tup xs)->H' b=some (.tup xs)
 frz:∀ b o u,H b=some (.frz o u)->H' b=some (.frz o u)
theorem Kp.refl(H:Hp):Kp H H:=⟨λ _ _ e=>e,λ _ _ _ e=>e⟩
theorem Kp.trans(a:Kp H H1)(b:Kp H1 H2):Kp H H2:=⟨λ c xs e=>b.tup c xs (a.tup c xs e),λ c o u e=>b.frz c o u (a.frz c o u e)⟩
theorem Kp.new(h:H p=none):Kp H (upd H p o):=⟨λ b xs e=>by rw[aq (a6 e h)];exact e,λ b ob u e=>by rw[aq (a6 e h)];exact e⟩
theorem Kp.set(h:H p=some u)(ht:∀ xs,u ≠ .tup xs)(hf:∀ ob v,u ≠ .frz ob v):Kp H (upd H p o):=
 ⟨λ b xs e=>by rw[aq (agF e h λ z=>ht _ z.symm)];exact e,λ b ob v e=>by rw[aq (agF e h λ z=>hf _ _ z.symm)];exact e⟩
theorem Kp.un(u:Un fs ex H H' h h'):Kp H H':=⟨u.tups,u.frzs⟩
def SqF(K:FG)(H:Hp)(a:Addr)(xs:List V):Prop:=
 (∃ o,H a=some (.frz o (.lst xs)))\/∃ (o:Obj) (its:Array Value) (n:Nat),K.lookup a=some o/\o.cls=.type "list" /\ o.dict=none/\o.data=.seq its n/\its.size<=sizeLine/\Vals xs its.toList
theorem SqF.sq{K:FG}{H:Hp}{a:Addr}{xs:List V}(h:SqF K H a xs):SqL K H a xs:=by
 rcases h with h | h
 ·exact .inl (.inr h)
 ·exact .inr h
theorem SqF.keep{K:FG}{H H':Hp}{a:Addr}{xs:List V}(k:Kp H H')(h:SqF K H a xs):SqF K H' a xs:=by
 rcases h with ⟨o,h⟩ | h
 ·exact .inl ⟨o,k.frz _ _ _ h⟩
 ·exact .inr h
theorem SqT.keep{K:FG}{H H':Hp}{a:Addr}{xs:List V}(k:Kp H H')(h:SqT K H a xs):SqT K H' a xs:=by
 rcases h with (h | ⟨o,h⟩) | h
 ·exact .inl (.inl (k.tup _ _ h))
 ·exact .inl (.inr ⟨o,k.frz _ _ _ h⟩)
 ·exact .inr h
def pq:Key->PyData
 | .inl i=>.int i
 | .inr x=>.str x
mutual
def aC(K:FG)(H:Hp):PyData->V->Prop
 | .none,v=>v=.non
 | .bool b,v=>v=.bl b
 | .int i,v=>v=.int i
 | .str x,v=>v=.str x
 | .list ds,v=>∃ a vs,v=.ref a/\SqF K H a vs/\bo K H ds vs
 | .tuple ds,v=>∃ a vs,v=.ref a/\SqT K H a vs/\bo K H ds vs
 | .dict kvs,v=>∃ a o l,v=.ref a/\H a=some (.frz o (.dK l))/\jb K H kvs l
def bo(K:FG)(H:Hp):List PyData->List V->Prop
 | [],vs=>vs=[]
 | d::ds,vs=>∃ v r,vs=v::r/\aC K H d v/\bo K H ds r
def jb(K:FG)(H:Hp):List (PyData×PyData)->List (Key×V)->Prop
 | [],l=>l=[]
 | (k,d)::ds,l=>∃ key v r,l=(key,v)::r/\k=pq key/\aC K H d v/\jb K H ds r
end
mutual
theorem aC.keep{K:FG}{H H':Hp}(k:Kp H H'):∀ {d:PyData} {v:V},aC K H d v->aC K H' d v
 | .none,v,h=>by simp only[aC] at h ⊢;exact h
 | .bool b,v,h=>by simp only[aC] at h ⊢;exact h
 | .int i,v,h=>by simp only[aC] at h ⊢;exact h
 | .str x,v,h=>by simp only[aC] at h ⊢;exact h
 | .list ds,v,h=>by simp only[aC] at h ⊢;obtain⟨a,vs,e,s,r⟩:=h;exact⟨a,vs,e,s.keep k,bo.keep k r⟩
 | .tuple ds,v,h=>by simp only[aC] at h ⊢;obtain⟨a,vs,e,s,r⟩:=h;exact⟨a,vs,e,SqT.keep k s,bo.keep k r⟩
 | .dict kvs,v,h=>by simp only[aC] at h ⊢;obtain⟨a,o,l,e,s,r⟩:=h;exact⟨a,o,l,e,k.frz _ _ _ s,jb.keep k r⟩
theorem bo.keep{K:FG}{H H':Hp}(k:Kp H H'):∀ {ds:List PyData} {vs:List V},bo K H ds vs->bo K H' ds vs
 | [],vs,h=>by simp only[bo] at h ⊢;exact h
 | d::ds,vs,h=>by simp only[bo] at h ⊢;obtain⟨v,r,e,h1,h2⟩:=h;exact⟨v,r,e,aC.keep k h1,bo.keep k h2⟩
theorem jb.keep{K:FG}{H H':Hp}(k:Kp H H'):∀ {ds:List (PyData×PyData)} {l:List (Key×V)},jb K H ds l->jb K H' ds l
 | [],l,h=>by simp only[jb] at h ⊢;exact h
 | (key,d)::ds,l,h=>by simp only[jb] at h ⊢;obtain⟨k',v,r,e,ek,h1,h2⟩:=h;exact⟨k',v,r,e,ek,aC.keep k h1,jb.keep k h2⟩
end
theorem bo.length{K:FG}{H:Hp}:∀ {ds:List PyData} {vs:List V},bo K H ds vs->vs.length=ds.length
 | [],vs,h=>by simp only[bo] at h;rw[h];rfl
 | d::ds,vs,h=>by simp only[bo] at h;obtain⟨v,r,e,_,h2⟩:=h;rw[e,List.length_cons,List.length_cons,bo.length h2]
theorem bo.get{K:FG}{H:Hp}:∀ {ds:List PyData} {vs:List V} {i:Nat} {d:PyData},bo K H ds vs->ds[i]? =some d->∃ v,vs[i]? =some v/\aC K H d v
 | [],_,_,_,_,e=>by simp at e
 | d::ds,vs,0,d',h,e=>by simp only[bo] at h;obtain⟨v,r,ev,h1,_⟩:=h;simp at e;subst e;exact⟨v,by rw[ev];rfl,h1⟩
 | d::ds,vs,i+1,d',h,e=>by simp only[bo] at h;obtain⟨v,r,ev,_,h2⟩:=h;obtain⟨v',e1,e2⟩:=bo.get (i:=i) h2 (by simpa using e);exact⟨v',by rw[ev];simpa using e1,e2⟩
theorem bo.get'{K:FG}{H:Hp}{ds:List PyData}{vs:List V}{i:Nat}{v:V}(h:bo K H ds vs)(e:vs[i]? =some v):∃ d,ds[i]? =some d/\aC K H d v:=by
 have hi:i<ds.length:=by have:=(List.getElem?_eq_some_iff.mp e).1;rw[h.length] at this;exact this
 obtain⟨v',e1,r⟩:=h.get (i:=i) (d:=ds[i]) (by simp[hi]);rw[e] at e1;cases e1;exact⟨ds[i],by simp[hi],r⟩
theorem bo.ints{K:FG}{H:Hp}:∀ (ns:List Int),bo K H (ns.map PyData.int) (ns.map V.int)
 | []=>by simp[bo]
 | n::ns=>by simp only[List.map_cons,bo];exact⟨_,_,rfl,by simp[aC],bo.ints ns⟩
theorem bo.append{K:FG}{H:Hp}:∀ {ds es:List PyData} {vs us:List V},bo K H ds vs->bo K H es us->bo K H (ds++es) (vs++us)
 | [],es,vs,us,h,q=>by simp only[bo] at h;subst h;exact q
 | d::ds,es,vs,us,h,q=>by simp only[bo] at h;obtain⟨v,r,e,h1,h2⟩:=h;subst e;simp only[List.cons_append,bo];exact⟨v,r++us,rfl,h1,bo.append h2 q⟩
theorem bo.drop{K:FG}{H:Hp}:∀ {ds:List PyData} {vs:List V} (n:Nat),bo K H ds vs->bo K H (ds.drop n) (vs.drop n)
 | ds,vs,0,h=>by simpa using h
 | [],vs,n+1,h=>by simp only[bo] at h;subst h;simp[bo]
 | d::ds,vs,n+1,h=>by
  simp only[bo] at h;obtain⟨v,r,e,_,h2⟩:=h;subst e
  simpa using bo.drop n h2
theorem bo.take{K:FG}{H:Hp}:∀ {ds:List PyData} {vs:List V} (n:Nat),bo K H ds vs->bo K H (ds.take n) (vs.take n)
 | ds,vs,0,h=>by simp[bo]
 | [],vs,n+1,h=>by simp only[bo] at h;subst h;simp[bo]
 | d::ds,vs,n+1,h=>by simp only[bo] at h;obtain⟨v,r,e,h1,h2⟩:=h;subst e;simp only[List.take_succ_cons,bo];exact⟨v,_,rfl,h1,bo.take n h2⟩
inductive W where
 | d (x:PyData)
 | m (a:Addr)
 | t (n:String)
inductive MO where
 | lst (ws:List W)
 | dic (kvs:List (Key×W))
 | dct (kvs:List (List Key×W))
 | fdic (kvs:List (Key×W))
 | ins (C:Addr) (fs:List (Str×W))
 | tup (ws:List W)
 | flst (ws:List W)
 | exc (C:Addr) (fs:List (Str×W))
 | code (q:Str) (pos:Pos)
abbrev MH:=Addr->Option MO
def cn(M:MH)(a:Addr)(o:MO):MH:=λ b=>if b=a then some o else M b
theorem aA:cn M a o a=some o:=if_pos rfl
theorem aR(h:b≠a):cn M a o b=M b:=if_neg h
theorem gn:cn (cn M a o) a u=cn M a u:=by funext b;unfold cn;split<;>rfl
abbrev DS:=List (Option W)
def aG(K:FG)(H:Hp):W->V->Prop
 | .d x,v=>aC K H x v
 | .m a,v=>v=.ref a
 | .t n,v=>v=.ty n
theorem aG.keep{K:FG}{H H':Hp}(k:Kp H H'):∀ {w:W} {v:V},aG K H w v->aG K H' w v
 | .d _,_,h=>aC.keep k h
 | .m _,_,h=>h
 | .t _,_,h=>h
def ba(K:FG)(H:Hp):List W->List V->Prop:=Paired (aG K H)
theorem ba.keep{K:FG}{H H':Hp}(k:Kp H H'){ws:List W}{vs:List V}(h:ba K H ws vs):ba K H' ws vs:=Paired.mE h λ _ _ r=>r.keep k
theorem ba.length{K:FG}{H:Hp}{ws:List W}{vs:List V}(h:ba K H ws vs):ws.length=vs.length:=Paired.length h
theorem ba.get{K:FG}{H:Hp}:∀ {ws:List W} {vs:List V} {i:Nat} {w:W},ba K H ws vs->ws[i]? =some w->∃ v,vs[i]? =some v/\aG K H w v
 | _,_,_,_,.nil,e=>by simp at e
 | _,_,0,_,.cons r _,e=>by simp at e;subst e;exact⟨_,rfl,r⟩
 | _,_,i+1,_,.cons _ t,e=>by obtain⟨u,h1,h2⟩:=ba.get (i:=i) t (by simpa using e);exact⟨u,by simpa using h1,h2⟩
theorem ba.set{K:FG}{H:Hp}{w:W}{v:V}(r:aG K H w v):∀ {ws:List W} {vs:List V} (i:Nat),ba K H ws vs->ba K H (ws.set i w) (vs.set i v)
 | _,_,_,.nil=>.nil
 | _,_,0,.cons _ t=>.cons r t
 | _,_,i+1,.cons q t=>.cons q (ba.set r i t)
theorem ba.append{K:FG}{H:Hp}:∀ {ws ws':List W} {vs vs':List V},ba K H ws vs->ba K H ws' vs'->ba K H (ws++ws') (vs++vs')
 | _,_,_,_,.nil,s=>s
 | _,_,_,_,.cons r t,s=>.cons r (ba.append t s)
theorem ba.data{K:FG}{H:Hp}:∀ {ds:List PyData} {vs:List V},ba K H (ds.map W.d) vs->bo K H ds vs
 | [],_,h=>by cases h;simp[bo]
 | d::ds,_,h=>by
  cases h with
  | cons r t=>simp only[bo];exact⟨_,_,rfl,r,ba.data t⟩
theorem bo.ws{K:FG}{H:Hp}:∀ {ds:List PyData} {vs:List V},bo K H ds vs->ba K H (ds.map W.d) vs
 | [],vs,h=>by simp only[bo] at h;subst h;exact .nil
 | d::ds,vs,h=>by simp only[bo] at h;obtain⟨v,r,e,h1,h2⟩:=h;subst e;exact .cons h1 (bo.ws h2)
def adA(K:FG)(H:Hp)(a:Addr):MO->Prop
 | .lst ws=>∃ vs,H a=some (.lst vs)/\ba K H ws vs
 | .dic kvs=>∃ l,H a=some (.dK l)/\Paired (λ(p:Key×W) (q:Key×V)=>p.1=q.1/\aG K H p.2 q.2) kvs l
 | .fdic kvs=>∃ o l,H a=some (.frz o (.frz o (.dK l)))/\Paired (λ(p:Key×W) (q:Key×V)=>p.1=q.1/\aG K H p.2 q.2) kvs l
 | .dct kvs=>∃ l,H a=some (.dT l)/\Paired (λ(p:List Key×W) (q:List Key×V)=>p.1=q.1/\aG K H p.2 q.2) kvs l
 | .ins C fs=>∃ dx l,H a=some (.ins C dx l)/\Paired (λ(p:Str×W) (q:Str×V)=>p.1=q.1/\aG K H p.2 q.2) fs l
 | .tup ws=>∃ vs,H a=some (.tup vs)/\ba K H ws vs
 | .flst ws=>∃ o vs,H a=some (.frz o (.frz o (.lst vs)))/\ba K H ws vs
 | .exc C fs=>∃ φ dct,H a=some (.ext φ)/\(∀ h,φ h->∃ vs,h.get? a=some {cls:=.ref C,dict:=dct,data:=.fields vs}/\(fs=[]->vs[2]? =some .none)) /\
   ((dct=none/\fs=[])\/∃ dx o l,dct=some dx/\H dx=some (.frz o (.xd l))/\Paired (λ(p:Str×W) (q:Str×V)=>p.1=q.1/\aG K H p.2 q.2) fs l)
 | .code q pos=>∃ ps,H a=some (.tbl ps)/\TriplesOk ps.toList/\(codeAmong pos ps.toList=none\/∃ c o vs t,codeAmong pos ps.toList=some (.ref c)/\H c=some (.frz o (.own 0))/\o.data=.fields vs/\vs[1]? =some (.str q t))
def cH(K:FG)(H:Hp)(M:MH):Prop:=∀ a o,M a=some o->adA K H a o
theorem adA.is{K:FG}{H:Hp}{a:Addr}{o:MO}(h:adA K H a o):∃ u,H a=some u:=by
 cases o with
 | lst ws=>obtain⟨vs,e,_⟩:=h;exact⟨_,e⟩
 | dic kvs=>obtain⟨l,e,_⟩:=h;exact⟨_,e⟩
 | dct kvs=>obtain⟨l,e,_⟩:=h;exact⟨_,e⟩
 | fdic kvs=>obtain⟨o,l,e,_⟩:=h;exact⟨_,e⟩
 | ins C fs=>obtain⟨dx,l,e,_⟩:=h;exact⟨_,e⟩
 | tup ws=>obtain⟨vs,e,_⟩:=h;exact⟨_,e⟩
 | flst ws=>obtain⟨o,vs,e,_⟩:=h;exact⟨_,e⟩
 | exc C fs=>obtain⟨φ,dct,e,_⟩:=h;exact⟨_,e⟩
 | code q pos=>obtain⟨ps,e,_⟩:=h;exact⟨_,e⟩
theorem cH.free{K:FG}{H:Hp}{M:MH}(h:cH K H M){p:Addr}(e:H p=none):M p=none:=by
 cases q:M p with
 | none=>rfl
 | some o =>
  obtain⟨u,z⟩:=(h p o q).is;rw[e] at z;cases z
theorem adA.keep{K:FG}{H H':Hp}{a:Addr}{o:MO}(k:Kp H H')(s:∀ u,H a=some u->H' a=some u)(h:adA K H a o):adA K H' a o:=by
 cases o with
 | lst ws=>obtain⟨vs,e,r⟩:=h;exact⟨vs,s _ e,r.keep k⟩
 | dic kvs=>obtain⟨l,e,r⟩:=h;exact⟨l,s _ e,Paired.mE r λ p q z=>⟨z.1,z.2.keep k⟩⟩
 | dct kvs=>obtain⟨l,e,r⟩:=h;exact⟨l,s _ e,Paired.mE r λ p q z=>⟨z.1,z.2.keep k⟩⟩
 | fdic kvs=>obtain⟨o,l,e,r⟩:=h;exact⟨o,l,s _ e,Paired.mE r λ p q z=>⟨z.1,z.2.keep k⟩⟩
 | ins C fs=>obtain⟨dx,l,e,r⟩:=h;exact⟨dx,l,s _ e,Paired.mE r λ p q z=>⟨z.1,z.2.keep k⟩⟩
 | tup ws=>obtain⟨vs,e,r⟩:=h;exact⟨vs,s _ e,r.keep k⟩
 | flst ws=>obtain⟨o,vs,e,r⟩:=h;exact⟨o,vs,s _ e,r.keep k⟩
 | exc C fs =>
  obtain⟨φ,dct,e,p,r⟩:=h;refine⟨φ,dct,s _ e,p,?_⟩;rcases r with r | ⟨dx,o,l,e1,e2,r⟩
  ·exact .inl r
  ·exact .inr ⟨dx,o,l,e1,k.frz _ _ _ e2,Paired.mE r λ p q z=>⟨z.1,z.2.keep k⟩⟩
 | code q pos =>
  obtain⟨ps,e,ht,hc⟩:=h;refine⟨ps,s _ e,ht,?_⟩;rcases hc with hc | ⟨c,o,vs,t,e1,e2,e3⟩
  ·exact .inl hc
  ·exact .inr ⟨c,o,vs,t,e1,k.frz _ _ _ e2,e3⟩
theorem cH.new{K:FG}{H:Hp}{M:MH}{p:Addr}{o:HO}(h:cH K H M)(e:H p=none):cH K (upd H p o) M:=λ a mo q =>
 (h a mo q).keep (Kp.new e) λ u z=>by rw[aq (a6 z e)];exact z
theorem cH.put{K:FG}{H:Hp}{M:MH}{p:Addr}{o:HO}{mo:MO}(h:cH K H M)(k:Kp H (upd H p o))(r:adA K (upd H p o) p mo):cH K (upd H p o) (cn M p mo):=λ a mo' q=>by
 by_cases e:a=p
 ·subst e;rw[aA] at q;cases q;exact r
 ·rw[aR e] at q;exact(h a mo' q).keep k λ u z=>by rw[aq e];exact z
structure Abs(K:FG)(H:Hp)(σ:St)(τ:DS)(M:MH):Prop where
 len:σ.length=τ.length
 val:∀ (i:Nat) w,τ[i]? =some (some w)->∃ v,σ[i]? =some (some v)/\aG K H w v
 mem:cH K H M
theorem Abs.go{K:FG}{H H':Hp}{σ:St}{τ:DS}{M M':MH}(h:Abs K H σ τ M)(k:Kp H H')(m:cH K H' M'):Abs K H' σ τ M':=
 ⟨h.len,λ i w e=>let ⟨v,q,r⟩:=h.val i w e; ⟨v,q,r.keep k⟩,m⟩
theorem Abs.set{K:FG}{H:Hp}{σ:St}{τ:DS}{M:MH}{w:W}{v:V}(h:Abs K H σ τ M)(i:Nat)(r:aG K H w v):Abs K H (σ.set i (some v)) (τ.set i (some w)) M:=by
 refine⟨by rw[List.length_set,List.length_set];exact h.len,λ j w' e=>?_,h.mem⟩
 by_cases hj:i=j
 ·subst hj;have hl:i<τ.length:=by
   have:=(List.getElem?_eq_some_iff.mp e).1
   rwa[List.length_set] at this
  rw[List.getElem?_set_self hl] at e;cases e;exact⟨v,List.getElem?_set_self (by rw[h.len];exact hl),r⟩
 ·rw[List.getElem?_set_ne hj] at e;obtain⟨v',q,r'⟩:=h.val j w' e;exact⟨v',by rw[List.getElem?_set_ne hj];exact q,r'⟩
abbrev QD:=W->MH->Prop
abbrev TD:=DS->MH->QD->Prop
abbrev TTd:=DS->MH->(Bool->MH->Prop)->Prop
abbrev TAd:=DS->MH->(List W->MH->Prop)->Prop
structure Ed where
 nx:DS->MH->Prop
 rt:QD
 bk:DS->MH->Prop:=λ _ _=>False
 ct:DS->MH->Prop:=λ _ _=>False
abbrev TSd:=Ed->DS->MH->Prop
def up(K:FG)(t:TD):TE:=λ σ H Q=>∃ τ M Qd,Abs K H σ τ M/\t τ M Qd/\∀ v H' w M',Kp H H'->aG K H' w v->cH K H' M'->Qd w M'->Q v H'
def upT(K:FG)(t:TTd):TT:=λ σ H Q=>∃ τ M Qd,Abs K H σ τ M/\t τ M Qd/\∀ b H' M',Kp H H'->cH K H' M'->Qd b M'->Q b H'
def upA(K:FG)(t:TAd):TA:=λ σ H Q=>∃ τ M Qd,Abs K H σ τ M/\t τ M Qd/\∀ vs H' ws M',Kp H H'->ba K H' ws vs->cH K H' M'->Qd ws M'->Q vs H'
def upS(K:FG)(t:TSd):TS:=λ D σ H=>∃ τ M Dd,Abs K H σ τ M/\t Dd τ M /\
 (∀ σ' H' τ' M',Kp H H'->Abs K H' σ' τ' M'->Dd.nx τ' M'->D.nx σ' H')/\(∀ v H' w M',Kp H H'->aG K H' w v->cH K H' M'->Dd.rt w M'->D.rt v H') /\
 (∀ σ' H' τ' M',Kp H H'->Abs K H' σ' τ' M'->Dd.bk τ' M'->D.bk σ' H')/\(∀ σ' H' τ' M',Kp H H'->Abs K H' σ' τ' M'->Dd.ct τ' M'->D.ct σ' H')
abbrev PD(X:Cx)(e:Expr)(t:TD):Prop:=PE X e (up X.K t)
abbrev PTd(X:Cx)(e:Expr)(t:TTd):Prop:=PT X e (upT X.K t)
abbrev PAd(X:Cx)(es:List Expr)(t:TAd):Prop:=PA X es (upA X.K t)
abbrev PSd(X:Cx)(st:Stmt)(t:TSd):Prop:=PS X st (upS X.K t)
abbrev lO(X:Cx)(st:List Stmt)(t:TSd):Prop:=PSs X st (upS X.K t)
theorem fx(h:PE X e t)(k:∀ σ H Q,t' σ H Q->t σ H Q):PE X e t':=λ pins s σ H Q I q=>h pins s σ H Q I (k σ H Q q)
theorem ae6(h:PT X e t)(k:∀ σ H Q,t' σ H Q->t σ H Q):PT X e t':=λ pins s σ H Q I q=>h pins s σ H Q I (k σ H Q q)
theorem ajn(h:PA X es t)(k:∀ σ H Q,t' σ H Q->t σ H Q):PA X es t':=λ pos pins s σ H Q I q=>h pos pins s σ H Q I (k σ H Q q)
theorem aaa{st:Stmt}{t t':TS}(h:PS X st t)(k:∀ D σ H,t' D σ H->t D σ H):PS X st t':=λ pins s σ H D I q=>h pins s σ H D I (k D σ H q)
theorem agw{st:List Stmt}{t t':TS}(h:PSs X st t)(k:∀ D σ H,t' D σ H->t D σ H):PSs X st t':=λ pins s σ H D I q=>h pins s σ H D I (k D σ H q)
end D
namespace D
open L2
section
variable {X:Cx}{pos:Pos}{a b c e:Expr}{ta tb tc te:TD}{K:FG}
abbrev Kont(K:FG)(H:Hp)(Qd:QD)(Q:VK):Prop:=∀ v H' w M',Kp H H'->aG K H' w v->cH K H' M'->Qd w M'->Q v H'
theorem kgo(k:Kont K H Qd Q)(kp:Kp H H1):Kont K H1 Qd Q:=λ v H' w M' k2 r m q=>k v H' w M' (kp.trans k2) r m q
inductive aju(i:Nat) (τ:DS) (M:MH) (Q:QD):Prop
 | mk (w:W) (z:τ[i]? =some (some w)) (q:Q w M):aju i τ M Q
def aj(i:Nat)(τ:DS)(M:MH)(Q:QD):Prop:=aju i τ M Q
theorem agm(h:PE X e (ajg i)):PD X e (aj i):=fx h λ σ H Q hq37=>by obtain⟨τ,M,Qd,A,⟨w,e,q⟩,k⟩:=hq37;obtain⟨v,e',r⟩:=A.val i w e;exact⟨v,e',k v H w M (Kp.refl H) r A.mem q⟩
def dC(w:W)(_:DS)(M:MH)(Q:QD):Prop:=Q w M
theorem abb(h:PE X e (tC v))(r:∀ H,aG X.K H w v):PD X e (dC w):=fx h λ σ H Q ⟨τ,M,Qd,A,q,k⟩=>k v H w M (Kp.refl H) (r H) A.mem q
def OpD(K:FG)(r:R2)(rd:W->W->MH->QD->Prop):Prop:=∀ x y H w w' M Qd Q,aG K H w x->aG K H w' y->cH K H M->rd w w' M Qd->Kont K H Qd Q->r x y H Q
def dOp(rd:W->W->MH->QD->Prop)(ta tb:TD)(τ:DS)(M:MH)(Q:QD):Prop:=ta τ M λ w M1=>tb τ M1 λ w' M2=>rd w w' M2 Q
theorem t9(hd:OpD K r rd)(h:up K (dOp rd ta tb) σ H Q):tOp r (up K ta) (up K tb) σ H Q:=by obtain⟨τ,M,Qd,A,h,k⟩:=h;refine⟨τ,M,_,A,h,λ x H1 w M1 kp r1 m1 q1=>⟨τ,M1,_,A.go kp m1,q1,λ y H2 w' M2 kp2 r2 m2 q2=>?_⟩⟩;exact hd x y H2 w w' M2 Qd Q (r1.keep kp2) r2 m2 q2 (kgo k (kp.trans kp2))
theorem ah3(ho:OpR X (binaryOp op) r)(hd:OpD X.K r rd)(ha:PD X a ta)(hb:PD X b tb):PD X (.BinOp a op b pos) (dOp rd ta tb):=fx (afg ho ha hb) λ σ H Q h=>t9 hd h
theorem ahh(ho:OpR X (compareOp op) r)(hd:OpD X.K r rd)(ha:PD X a ta)(hb:PD X b tb)(hm:behindInMarks op b=false:=by first | exact hB _ (by decide) (by decide) | rfl) :
  PD X (.Compare a [op] [b] pos) (dOp rd ta tb):=fx (ae0 ho ha hb hm) λ σ H Q h=>t9 hd h
theorem aip(hr:IxR X r)(hd:OpD X.K r rd)(ha:PD X a ta)(hb:PD X b tb)(hs:sX b:=by intro _ _;rfl):PD X (.Subscript a b pos) (dOp rd ta tb):=fx (aix hr ha hb hs) λ σ H Q h=>t9 hd h
def aJ(t:TD)(τ:DS)(M:MH)(Q:Bool->MH->Prop):Prop:=t τ M λ w M1=>∃ k,w=.d (.bool k)/\Q k M1
theorem jC(hi:∀ σ H Q,up K ta σ H Q->t' σ H Q)(h:upT K (aJ ta) σ H Q):ac1 t' σ H Q:=by obtain⟨τ,M,Qd,A,h,k⟩:=h;refine hi σ H _ ⟨τ,M,_,A,h,λ v H' w M' kp r m hq38=>?_⟩;obtain⟨b,e,q⟩:=hq38;subst e;simp only[aG,aC] at r;exact⟨b,r,k b H' M' kp m q⟩
theorem ad8(ho:OpR X (compareOp op) r)(hd:OpD X.K r rd)(ha:PD X a ta)(hb:PD X b tb)(hm:behindInMarks op b=false:=by first | exact hB _ (by decide) (by decide) | rfl) :
  PTd X (.Compare a [op] [b] pos) (aJ (dOp rd ta tb)):=ae6 (acW ho ha hb hm) λ σ H Q h=>jC (λ _ _ _ q=>t9 hd q) h
theorem adX(h:PD X e te)(he:∀ whole,isTrue e X.env whole=(do let v <- whole;standAt e.pos;holding [v] (truthy v)):=by intro _;rfl):PTd X e (aJ te):=ae6 (afo h he) λ σ H Q q=>jC (λ _ _ _ z=>z) q
def fq(r r':W->W->MH->QD->Prop)(ta tb tc:TD)(τ:DS)(M:MH)(Q:QD):Prop:=ta τ M λ x M1=>tb τ M1 λ y M2=>r x y M2 λ z M3=>∃ k,z=.d (.bool k)/\(if k=true then tc τ M3 λ w' M4=>r' y w' M4 Q else Q (.d (.bool false)) M3)
theorem pA(hd:OpD K r rd)(hd':OpD K r' rd')(h:up K (fq rd rd' ta tb tc) σ H Q):yf r r' (up K ta) (up K tb) (up K tc) σ H Q:=by
 obtain⟨τ,M,Qd,A,h,k⟩:=h;refine⟨τ,M,_,A,h,λ x H1 w M1 kp r1 m1 q1=>⟨τ,M1,_,A.go kp m1,q1,λ y H2 w' M2 kp2 r2 m2 q2=>?_⟩⟩;have kq:=kp.trans kp2;refine hd x y H2 w w' M2 _ _ (r1.keep kp2) r2 m2 q2 λ v H3 w'' M3 kp3 r3 m3 hq39=>?_;obtain⟨b,e,q3⟩:=hq39;subst e;simp only[aG,aC] at r3;refine⟨b,r3,?_⟩;have kr:=kq.trans kp3;cases b with
 | false =>
  rw[if_neg Bool.false_ne_true] at q3 ⊢;exact k _ H3 _ M3 kr (by simp[aG,aC]) m3 q3
 | true =>
  rw[if_pos rfl] at q3 ⊢;exact⟨τ,M3,_,A.go kr m3,q3,λ u H4 w4 M4 kp4 r4 m4 q4=>hd' y u H4 w' w4 M4 Qd Q (r2.keep (kp3.trans kp4)) r4 m4 q4 (kgo k (kr.trans kp4))⟩
theorem aaL(ho:OpR X (compareOp op) r)(hd:OpD X.K r rd)(ho':OpR X (compareOp op') r')(hd':OpD X.K r' rd')(ha:PD X a ta)(hb:PD X b tb)(hc:PD X c tc)
  (hm:lastMarks [op,op'] [b,c]=false:=by with_unfolding_all rfl):PD X (.Compare a [op,op'] [b,c] pos) (fq rd rd' ta tb tc):=fx (aaw ho ho' ha hb hc hm) λ σ H Q h=>pA hd hd' h
theorem xh(ho:OpR X (compareOp op) r)(hd:OpD X.K r rd)(ho':OpR X (compareOp op') r')(hd':OpD X.K r' rd')(ha:PD X a ta)(hb:PD X b tb)(hc:PD X c tc)
  (hm:lastMarks [op,op'] [b,c]=false:=by with_unfolding_all rfl):PTd X (.Compare a [op,op'] [b,c] pos) (aJ (fq rd rd' ta tb tc)):=ae6 (aaG ho ho' ha hb hc hm) λ σ H Q h=>jC (λ _ _ _ q=>pA hd hd' q) h
def UnD(K:FG)(r:V->Hp->VK->Prop)(rd:W->MH->QD->Prop):Prop:=∀ x H w M Qd Q,aG K H w x->cH K H M->rd w M Qd->Kont K H Qd Q->r x H Q
def dUn(rd:W->MH->QD->Prop)(ta:TD)(τ:DS)(M:MH)(Q:QD):Prop:=ta τ M λ w M1=>rd w M1 Q
theorem aii(ho:UnR X (unaryOp op) r)(hd:UnD X.K r rd)(ha:PD X a ta):PD X (.UnaryOp op a pos) (dUn rd ta):=fx (ahT ho ha) λ σ H Q h=>by obtain⟨τ,M,Qd,A,h,k⟩:=h;exact⟨τ,M,_,A,h,λ x H1 w M1 kp r1 m1 q1=>hd x H1 w M1 Qd Q r1 m1 q1 (kgo k kp)⟩
variable {tA tB:TTd}{rest:List Expr}
def ae9(t u:TTd)(τ:DS)(M:MH)(Q:Bool->MH->Prop):Prop:=t τ M λ k M1=>if k=true then u τ M1 Q else Q false M1
def dOr(t u:TTd)(τ:DS)(M:MH)(Q:Bool->MH->Prop):Prop:=t τ M λ k M1=>if k=true then Q true M1 else u τ M1 Q
def lN(t:TTd)(τ:DS)(M:MH)(Q:Bool->MH->Prop):Prop:=t τ M λ k M1=>Q (!k) M1
abbrev PWd(X:Cx)(e:Expr)(t:TTd):Prop:=PW X e (upT X.K t)
theorem pw_w(h:PW X e t)(k:∀ σ H Q,t' σ H Q->t σ H Q):PW X e t':=λ w pins s σ H Q I q=>h w pins s σ H Q I (k σ H Q q)
theorem abn(ha:PTd X a tA):PWd X (.BoolOp .And [a] pos) tA:=pw_and1 ha
theorem ad2(ha:PTd X a tA):PWd X (.BoolOp .Or [a] pos) tA:=pw_or1 ha
theorem acT(ha:PTd X a tA)(hb:PWd X (.BoolOp .And (b::rest) pos) tB):PWd X (.BoolOp .And (a::b::rest) pos) (ae9 tA tB):=pw_w (pw_and ha hb) λ σ H Q h=>by
 obtain⟨τ,M,Qd,A,h,k⟩:=h;refine⟨τ,M,_,A,h,λ b H1 M1 kp m1 q1=>?_⟩;cases b with
 | true=>rw[if_pos rfl] at q1 ⊢;exact⟨τ,M1,Qd,A.go kp m1,q1,λ b H2 M2 kp2 m2 q2=>k b H2 M2 (kp.trans kp2) m2 q2⟩
 | false=>rw[if_neg Bool.false_ne_true] at q1 ⊢;exact k _ H1 M1 kp m1 q1
theorem ahk(ha:PTd X a tA)(hb:PWd X (.BoolOp .Or (b::rest) pos) tB):PWd X (.BoolOp .Or (a::b::rest) pos) (dOr tA tB):=pw_w (pw_or ha hb) λ σ H Q h=>by
 obtain⟨τ,M,Qd,A,h,k⟩:=h;refine⟨τ,M,_,A,h,λ b H1 M1 kp m1 q1=>?_⟩;cases b with
 | false=>rw[if_neg Bool.false_ne_true] at q1 ⊢;exact⟨τ,M1,Qd,A.go kp m1,q1,λ b H2 M2 kp2 m2 q2=>k b H2 M2 (kp.trans kp2) m2 q2⟩
 | true=>rw[if_pos rfl] at q1 ⊢;exact k _ H1 M1 kp m1 q1
theorem ai7(h:PWd X e tA):PTd X e tA:=h.pt
theorem aeL(ha:PTd X a tA):PTd X (.UnaryOp .Not a pos) (lN tA):=ae6 (afh ha) λ σ H Q h=>by obtain⟨τ,M,Qd,A,h,k⟩:=h;exact⟨τ,M,_,A,h,λ b H1 M1 kp m1 q1=>k (!b) H1 M1 kp m1 q1⟩
def jo(ta tb:TD)(τ:DS)(M:MH)(Q:QD):Prop:=ta τ M λ x M1=>∃ k,x=.d (.bool k)/\if k=true then tb τ M1 Q else Q (.d (.bool false)) M1
def ahE(ta tb:TD)(τ:DS)(M:MH)(Q:QD):Prop:=ta τ M λ x M1=>∃ k,x=.d (.bool k)/\if k=true then Q (.d (.bool true)) M1 else tb τ M1 Q
def xk(ta:TD)(τ:DS)(M:MH)(Q:QD):Prop:=ta τ M λ x M1=>∃ k,x=.d (.bool k)/\Q (.d (.bool (!k))) M1
theorem agC{op}(h:PD X a ta):PD X (.BoolOp op [a] pos) ta:=ahm h
theorem ahl(ha:PD X a ta)(hb:PD X (.BoolOp .And (b::rest) pos) tb):PD X (.BoolOp .And (a::b::rest) pos) (jo ta tb):=fx (afI ha hb) λ σ H Q h=>by
 obtain⟨τ,M,Qd,A,h,k⟩:=h;refine⟨τ,M,_,A,h,λ x H1 w M1 kp r1 m1 hq40=>?_⟩;obtain⟨b,e,q1⟩:=hq40;subst e;simp only[aG,aC] at r1;refine⟨b,r1,?_⟩;cases b with
 | true=>rw[if_pos rfl] at q1 ⊢;exact⟨τ,M1,Qd,A.go kp m1,q1,kgo k kp⟩
 | false=>rw[if_neg Bool.false_ne_true] at q1 ⊢;exact k _ H1 _ M1 kp (by simp[aG,aC]) m1 q1
theorem aiM(ha:PD X a ta)(hb:PD X (.BoolOp .Or (b::rest) pos) tb):PD X (.BoolOp .Or (a::b::rest) pos) (ahE ta tb):=fx (aiQ ha hb) λ σ H Q h=>by
 obtain⟨τ,M,Qd,A,h,k⟩:=h;refine⟨τ,M,_,A,h,λ x H1 w M1 kp r1 m1 hq41=>?_⟩;obtain⟨b,e,q1⟩:=hq41;subst e;simp only[aG,aC] at r1;refine⟨b,r1,?_⟩;cases b with
 | false=>rw[if_neg Bool.false_ne_true] at q1 ⊢;exact⟨τ,M1,Qd,A.go kp m1,q1,kgo k kp⟩
 | true=>rw[if_pos rfl] at q1 ⊢;exact k _ H1 _ M1 kp (by simp[aG,aC]) m1 q1
theorem afX(ha:PD X a ta):PD X (.UnaryOp .Not a pos) (xk ta):=fx (agD ha) λ σ H Q h=>by obtain⟨τ,M,Qd,A,h,k⟩:=h;refine⟨τ,M,_,A,h,λ x H1 w M1 kp r1 m1 hq42=>?_⟩;obtain⟨b,e,q1⟩:=hq42;subst e;simp only[aG,aC] at r1;exact⟨b,r1,k _ H1 _ M1 kp (by simp[aG,aC]) m1 q1⟩
def aiA(t:TTd)(ta tb:TD)(τ:DS)(M:MH)(Q:QD):Prop:=t τ M λ k M1=>if k=true then ta τ M1 Q else tb τ M1 Q
theorem abI(hc:PTd X c tA)(ha:PD X a ta)(hb:PD X b tb):PD X (.IfExp c a b pos) (aiA tA ta tb):=fx (abz hc ha hb) λ σ H Q h=>by
 obtain⟨τ,M,Qd,A,h,k⟩:=h;refine⟨τ,M,_,A,h,λ b H1 M1 kp m1 q1=>?_⟩;cases b with
 | true=>rw[if_pos rfl] at q1 ⊢;exact⟨τ,M1,Qd,A.go kp m1,q1,kgo k kp⟩
 | false=>rw[if_neg Bool.false_ne_true] at q1 ⊢;exact⟨τ,M1,Qd,A.go kp m1,q1,kgo k kp⟩
variable {es:List Expr}{t:TAd}
def aF(_:DS)(M:MH)(Q:List W->MH->Prop):Prop:=Q [] M
def af(ta:TD)(tr:TAd)(τ:DS)(M:MH)(Q:List W->MH->Prop):Prop:=ta τ M λ w M1=>tr τ M1 λ ws M2=>Q (w::ws) M2
theorem fh:PAd X [] aF:=ajn zP λ σ H Q ⟨τ,M,Qd,A,h,k⟩=>k [] H [] M (Kp.refl H) .nil A.mem h
theorem jE(ha:PD X e te)(hr:PAd X es t)(hs:starEach (e::es) X.env=(false,eval e X.env)::starEach es X.env:=by rfl):PAd X (e::es) (af te t):=ajn (oA ha hr hs) λ σ H Q h=>by obtain⟨τ,M,Qd,A,h,k⟩:=h;exact⟨τ,M,_,A,h,λ x H1 w M1 kp r1 m1 q1=>⟨τ,M1,_,A.go kp m1,q1,λ xs H2 ws M2 kp2 r2 m2 q2=>k _ H2 _ M2 (kp.trans kp2) (.cons (r1.keep kp2) r2) m2 q2⟩⟩
def oE:List W->Option (List PyData)
 | []=>some []
 | .d x::r=>(oE r).map (x::·)
 | _::_=>none
theorem nU:∀ {ws:List W} {ds:List PyData},oE ws=some ds->ws=ds.map W.d
 | [],ds,h=>by simp only[oE] at h;cases h;rfl
 | .d x::r,ds,h=>by
  simp only[oE] at h;cases q:oE r with
  | none=>rw[q] at h;cases h
  | some l=>rw[q] at h;cases h;rw[nU q];rfl
 | .m _::_,ds,h=>by simp[oE] at h
 | .t _::_,ds,h=>by simp[oE] at h
def wm(t:TAd)(τ:DS)(M:MH)(Q:QD):Prop:=t τ M λ ws M1=>∃ ds,oE ws=some ds/\ds.length<=sizeLine/\Q (.d (.list ds)) M1
theorem adh(hp:H p=none)(r:bo K H ds vs):aC K (upd H p (.frz o (.lst vs))) (.list ds) (.ref p):=by simp only[aC];exact⟨p,vs,rfl,.inl ⟨o,ar⟩,r.keep (Kp.new hp)⟩
theorem kQ(hp:H p=none)(r:bo K H ds vs)(m:cH K H M)(q:Qd (.d (.list ds)) M)(k:Kont K H Qd Q) :
  ∃ p' u,V.ref p=.ref p'/\(upd H p (.lst vs)) p'=some u/\Fz u/\∀ o,Q (.ref p) (upd (upd H p (.lst vs)) p' (.frz o u)):=by
 refine⟨p,_,rfl,ar,trivial,λ o=>?_⟩;rw[sD];exact k _ _ (.d (.list ds)) M (Kp.new hp) (adh hp r) (m.new hp) q
theorem agW(h:PAd X es t):PD X (.List es pos) (wm t):=fx (j6 (abX h)) λ σ H Q h=>by obtain⟨τ,M,Qd,A,h,k⟩:=h;refine⟨τ,M,_,A,h,λ vs H1 ws M1 kp r1 m1 hq43=>?_⟩;obtain⟨ds,e,hz,q1⟩:=hq43;have e':=nU e;subst e';have rA:=r1.data;exact⟨by rw[rA.length];exact hz,λ p hp=>kQ hp rA m1 q1 (kgo k kp)⟩
def vC(t:TAd)(τ:DS)(M:MH)(Q:QD):Prop:=t τ M λ ws M1=>ws.length<=sizeLine/\∀ p,M1 p=none->Q (.m p) (cn M1 p (.lst ws))
theorem aev(h:PAd X es t):PD X (.List es pos) (vC t):=fx (abX h) λ σ H Q h=>by obtain⟨τ,M,Qd,A,h,k⟩:=h;refine⟨τ,M,_,A,h,λ vs H1 ws M1 kp r1 m1 ⟨hz,q1⟩=>⟨by rw[<- r1.length];exact hz,λ p hp=>?_⟩⟩;exact k _ _ (.m p) (cn M1 p (.lst ws)) (kp.trans (Kp.new hp)) rfl (m1.put (mo:=.lst ws) (Kp.new hp) ⟨vs,ar,r1.keep (Kp.new hp)⟩) (q1 p (m1.free hp))
def iI(t:TAd)(τ:DS)(M:MH)(Q:QD):Prop:=t τ M λ ws M1=>∃ ds,oE ws=some ds/\ds.length<=sizeLine/\Q (.d (.tuple ds)) M1
theorem agh{x1}(h:PAd X es t):PD X (.Tuple es x1 pos) (iI t):=fx (aca h) λ σ H Q h=>by obtain⟨τ,M,Qd,A,h,k⟩:=h;refine⟨τ,M,_,A,h,λ vs H1 ws M1 kp r1 m1 hq44=>?_⟩;obtain⟨ds,e,hz,q1⟩:=hq44;have e':=nU e;subst e';have rA:=r1.data;refine⟨by rw[rA.length];exact hz,λ p hp=>k _ _ (.d (.tuple ds)) M1 (kp.trans (Kp.new hp)) ?_ (m1.new hp) q1⟩;simp only[aG,aC];exact⟨p,vs,rfl,.inl (.inl ar),rA.keep (Kp.new hp)⟩
variable {x:Str}{p:Pos}{id T:String}{r:List V->Hp->VK->Prop}{rd:List W->MH->QD->Prop}
def fH(K:FG)(r:List V->Hp->VK->Prop)(rd:List W->MH->QD->Prop):Prop:=∀ vs H ws M Qd Q,ba K H ws vs->cH K H M->rd ws M Qd->Kont K H Qd Q->r vs H Q
def dCB(rd:List W->MH->QD->Prop)(t:TAd)(τ:DS)(M:MH)(Q:QD):Prop:=t τ M λ ws M1=>rd ws M1 Q
theorem acE(hd:fH K r rd)(h:up K (dCB rd t) σ H Q):tCB r (upA K t) σ H Q:=by obtain⟨τ,M,Qd,A,h,k⟩:=h;exact⟨τ,M,_,A,h,λ vs H1 ws M1 kp r1 m1 q1=>hd vs H1 ws M1 Qd Q r1 m1 q1 (kgo k kp)⟩
theorem abd(hc:eU X (.builtin id) r)(hd:fH X.K r rd)(hg:Gl X x)(hm:X.mg x=none)(hv:bootBuiltins x=some (.builtin id))(ha:PAd X (e::es) t)(hn:x ≠ "__name__":= by decide)(hdb:ND x:=by decide)
  (he:starEach (e::es) X.env=(false,eval e X.env)::starEach es X.env:=by rfl)(hpl:(backTo pos (starEach es X.env)).any (·.1)=false:=by rfl):PD X (.Call (.Name x p) (e::es) [] pos) (dCB rd t):=
 fx (uQ hc hg hm hv ha hn hdb he hpl) λ σ H Q h=>acE hd h
theorem wD(hc:eU X (.type T) r)(hd:fH X.K r rd)(hg:Gl X x)(hm:X.mg x=none)(hv:bootBuiltins x=some (.type T))(ha:PAd X (e::es) t)(hn:x ≠ "__name__":= by decide)(hdb:ND x:=by decide)
  (he:starEach (e::es) X.env=(false,eval e X.env)::starEach es X.env:=by rfl)(hpl:(backTo pos (starEach es X.env)).any (·.1)=false:=by rfl):PD X (.Call (.Name x p) (e::es) [] pos) (dCB rd t):=
 fx (xC hc hg hm hv ha hn hdb he hpl) λ σ H Q h=>acE hd h
end
section
variable {X:Cx}{pos:Pos}{st:Stmt}{sts:List Stmt}{t u:TSd}{e:Expr}{te:TD}{K:FG}
def bh(D:Ed)(τ:DS)(M:MH):Prop:=D.nx τ M
def aW(t u:TSd)(D:Ed)(τ:DS)(M:MH):Prop:=t {D with nx:=u D} τ M
theorem xo(h1:PSd X st t)(h2:lO X sts u):lO X (st::sts) (aW t u):=agw (aat h1 h2) λ D σ H ⟨τ,M,Dd,A,h,k1,k2,k3,k4⟩ =>
 ⟨τ,M,{Dd with nx:=u Dd},A,h,λ σ' H' τ' M' kp A' q=>⟨τ',M',Dd,A',q,λ σ2 H2 τ2 M2 kp2=>k1 σ2 H2 τ2 M2 (kp.trans kp2),λ v H2 w M2 kp2=>k2 v H2 w M2 (kp.trans kp2),λ σ2 H2 τ2 M2 kp2=>k3 σ2 H2 τ2 M2 (kp.trans kp2),λ σ2 H2 τ2 M2 kp2=>k4 σ2 H2 τ2 M2 (kp.trans kp2)⟩,k2,k3,k4⟩
theorem aam(h1:PSd X st t):lO X [st] t:=zO h1
def jq(te:TD)(D:Ed)(τ:DS)(M:MH):Prop:=te τ M λ _ M1=>D.nx τ M1
theorem aad(he:PD X e te)(hs:swapsWith e none pos.line X.env=pure false:=by rfl):PSd X (.Expr e pos) (jq te):=aaa (adG he hs) λ D σ H ⟨τ,M,Dd,A,h,k1,_⟩ =>
 ⟨τ,M,_,A,h,λ v H1 w M1 kp r m q=>k1 σ H1 τ M1 kp (A.go kp m) q⟩
def bR(te:TD)(D:Ed)(τ:DS)(M:MH):Prop:=te τ M D.rt
theorem adF(he:PD X e te):PSd X (.Return (some e) pos) (bR te):=aaa (afz he) λ D σ H ⟨τ,M,Dd,A,h,k1,k2,_⟩=>⟨τ,M,_,A,h,λ v H1 w M1 kp r m q=>k2 v H1 w M1 kp r m q⟩
def dIf(c:TTd)(t u:TSd)(D:Ed)(τ:DS)(M:MH):Prop:=c τ M λ b M1=>if b=true then t D τ M1 else u D τ M1
theorem af8(hc:PTd X c tc)(ha:lO X a t)(hb:lO X b u):PSd X (.If c a b pos) (dIf tc t u):=aaa (aid hc ha hb) λ D σ H hq45=>by
 obtain⟨τ,M,Dd,A,h,k1,k2,k3,k4⟩:=hq45;refine⟨τ,M,_,A,h,λ b H1 M1 kp m q=>?_⟩;have go:∀ {t':TSd},t' Dd τ M1->upS X.K t' D σ H1:=λ {t'} q=>⟨τ,M1,Dd,A.go kp m,q,λ σ2 H2 τ2 M2 kp2=>k1 σ2 H2 τ2 M2 (kp.trans kp2),λ v H2 w M2 kp2=>k2 v H2 w M2 (kp.trans kp2),λ σ2 H2 τ2 M2 kp2=>k3 σ2 H2 τ2 M2 (kp.trans kp2),λ σ2 H2 τ2 M2 kp2=>k4 σ2 H2 τ2 M2 (kp.trans kp2)⟩;cases b with
 | true=>rw[if_pos rfl] at q;show(if true=true then upS X.K t D σ H1 else upS X.K u D σ H1);rw[if_pos rfl];exact go q
 | false=>rw[if_neg Bool.false_ne_true] at q;show(if false=true then upS X.K t D σ H1 else upS X.K u D σ H1);rw[if_neg Bool.false_ne_true];exact go q
abbrev TGd:=W->DS->MH->(DS->MH->Prop)->Prop
def upG(K:FG)(g:TGd):TG:=λ v σ H Q=>∃ w τ M Qd,aG K H w v/\Abs K H σ τ M/\g w τ M Qd/\∀ σ' H' τ' M',Kp H H'->Abs K H' σ' τ' M'->Qd τ' M'->Q σ' H'
abbrev PGd(X:Cx)(e:Expr)(g:TGd):Prop:=PG X e (upG X.K g)
theorem ah1(h:PG X e g)(k:∀ v σ H Q,g' v σ H Q->g v σ H Q):PG X e g':=λ pins s σ H v u Q I r q=>h pins s σ H v u Q I r (k v σ H Q q)
def gN(i:Nat)(w:W)(τ:DS)(M:MH)(Q:DS->MH->Prop):Prop:=Q (τ.set i (some w)) M
def cv(te:TD)(g:TGd)(D:Ed)(τ:DS)(M:MH):Prop:=te τ M λ w M1=>g w τ M1 D.nx
theorem ac6(h:upS K (cv te g) D σ H):ahr (up K te) (upG K g) D σ H:=by obtain⟨τ,M,Dd,A,h,k1,_⟩:=h;exact⟨τ,M,_,A,h,λ v H1 w M1 kp r m q=>⟨w,τ,M1,_,r,A.go kp m,q,λ σ2 H2 τ2 M2 kp2 A2 q2=>k1 σ2 H2 τ2 M2 (kp.trans kp2) A2 q2⟩⟩
theorem adK(he:PD X e te)(hg:PGd X tg g)(hs:swapsWithSole [tg] e pos.line X.env=pure false:=by rfl)(hw:swappedStores [tg] e X.env=pure none:=by rfl)
  (h1:(assignEach [tg] X.env).map (·.2)=[assign tg X.env]:=by rfl):PSd X (.Assign [tg] e pos) (cv te g):=aaa (ag7 he hg hs hw h1) λ D σ H h=>ac6 h
theorem acO(hN:X.N.Nodup)(hi:X.N[i]? =some x)(hx:Loc X.env.scope x)(he:PD X e te)(hs:swapsWith e (some (.Name x pos')) pos.line X.env=pure false:=by rfl)(hf:X.fn x=true\/X.env.scope.names.lookup x=some .local:=by first | exact .inl rfl | exact .inr rfl | assumption) :
  PSd X (.Assign [.Name x pos'] e pos) (cv te (gN i)):=aaa (af3 hN hi hx he hs hf) λ D σ H ⟨τ,M,Dd,A,h,k1,_⟩ =>
 ⟨τ,M,_,A,h,λ v H1 w M1 kp r m q=>k1 _ H1 _ M1 kp ((A.go kp m).set i r) q⟩
end
abbrev SpD:=List W->MH->QD->Prop
def eX(K:FG)(sp:SpD):Sp:=λ vs H Q _=>∃ ws M Qd,ba K H ws vs/\cH K H M/\sp ws M Qd/\Kont K H Qd Q
def aU(sp:SpD)(t:TAd)(τ:DS)(M:MH)(Q:QD):Prop:=t τ M λ ws M1=>sp ws M1 Q
theorem ad0(F:cQ X.prog X.w X.K X.mg X.base CX0 k f fd ps (eX X.K sp))(hr:fO k X.A)(hg:Gl X x)(hm:X.mg x=some (.ref f))(hk:W.keepIn X.K (.ref f)=true)(hb:Binds X.K fd ps [])
  (ha:PAd X (e::es) t)(hdb:ND x:=by decide)(he:starEach (e::es) X.env=(false,eval e X.env)::starEach es X.env:=by rfl)(hpl:(backTo pos (starEach es X.env)).any (·.1)=false:=by rfl) :
  PD X (.Call (.Name x p) (e::es) [] pos) (aU sp t):=fx (aeo (E:=E0) (dvs:=[]) F hr hg hm hk hb .nil ag9 ha hdb he hpl) λ σ H Q h=>by
 obtain⟨τ,M,Qd,A,h,k⟩:=h;exact⟨τ,M,_,A,h,λ vs H1 ws M1 kp r1 m1 q1=>⟨ws,M1,Qd,by rw[List.append_nil];exact r1,m1,q1,kgo k kp⟩⟩
def aT(N:List Str)(ws:List W):DS:=ws.map some++List.replicate (N.length-ws.length) none
section
variable {P:Program}{w:World}{K:FG}{mg:Str->Option Value}{base:Heap}
theorem pP(r:ba K H ws vs)(m:cH K H M):Abs K H (start N vs) (aT N ws) M:=by
 have hl:=r.length;refine⟨?_,λ i w e=>?_,m⟩
 ·simp[L2.start,aT,hl]
 ·unfold aT at e
  by_cases hi:i<ws.length
  ·rw[List.getElem?_append_left (by simpa using hi),List.getElem?_map] at e;cases q:ws[i]? with
   | none=>rw[q] at e;cases e
   | some w' =>
    rw[q] at e;cases e;obtain⟨v,e1,r1⟩:=r.get q;refine⟨v,?_,r1⟩;unfold L2.start;rw[List.getElem?_append_left (by rw[List.length_map,<- hl];exact hi),List.getElem?_map,e1];rfl
  ·rw[List.getElem?_append_right (by simpa using hi),List.getElem?_replicate] at e
   split at e<;>cases e
theorem bC{x qual:Str}{st:Stmt}{N ps:List Str}{k:Nat}{sp:SpD}{t:TSd}(F:Fun K x qual st f fd)(S:aK N ps (ao st))(len:∀ ws M Q,sp ws M Q->ws.length=ps.length)
  (hbody:∀ (cdv:Value) (A:Around) (outer:List Env) (s:Shared) (H:Hp) (E:XK),fO k (A.deeper (envOfC qual (ao st) s.heap.objs.size f cdv)) ->
   lO (tm CX0 P w K mg base N qual (ao st) f cdv A outer s H E).nox (bj st) t)
  (read:∀ ws M Q,sp ws M Q->t {nx:=λ _ M'=>Q (.d .none) M',rt:=Q} (aT N ws) M):cQ P w K mg base CX0 (k+1) f fd ps (eX K sp):=by
 refine F.ok S (λ vs H Q E h=>?_) (λ cdv A outer s H vs Q E hr h=>?_)
 ·obtain⟨ws,M,Qd,r,_,q,_⟩:=h;rw[<- r.length];exact len _ _ _ q
 ·obtain⟨ws,M,Qd,r,m,q,kk⟩:=h;refine⟨_,hbody cdv A outer s H E hr,aT N ws,M,_,pP r m,read ws M Qd q,λ σ' H' τ' M' kp A' q'=>?_,λ v H' w' M' kp r' m' q'=>?_,λ σ' H' τ' M' kp A' q'=>q'.elim,λ σ' H' τ' M' kp A' q'=>q'.elim⟩
  ·exact kk _ H' _ M' kp (by simp[aG,aC]) A'.mem q'
  ·exact kk v H' w' M' kp r' m' q'
end
end D
namespace L2
structure cX(k:Nat)(A:Around):Prop where
 gd:A.guards=some []
 dp:A.depth+3 * k+5<recursionLimit
 un:A.units+16 * k+200<cLine
theorem cX.mono(r:cX k A)(h:j<=k):cX j A:=⟨r.gd,by have:=r.dp;omega,by have:=r.un;omega⟩
theorem cX.deeper(r:cX (k+1) A)(env:Env):cX k (A.deeper env):=
 ⟨r.gd,by have:=r.dp;show A.depth+1+3 * k+5<_;omega,by have:=r.un;show A.units+3+16 * k+200<_;omega⟩
theorem cX.depth(r:cX k A):A.depth<recursionLimit:=by have:=r.dp;omega
theorem cX.units(r:cX k A):A.units+64<cLine:=by have:=r.un;omega
theorem fO.h(r:fO k A):cX k A:=⟨r.gd,r.dp,r.un⟩
theorem cX.mark(r:cX k A)(v:Value):cX k (A.mark (some v)):=⟨r.gd,r.dp,r.un⟩
end L2
namespace D
open L2
mutual
theorem dz(I:Inv X pins σ H s):∀ (d:PyData) {x:V} {u:Value},aC X.K H d x->RelV x u->d.hasDict=false->∃ as,Reads s.heap u d as
 | .none,x,u,h,r,_=>by simp only[aC] at h;subst h;cases (show u=Value.none from r);exact⟨_,.none⟩
 | .bool b,x,u,h,r,_=>by simp only[aC] at h;subst h;cases (show u=Value.bool b from r);exact⟨_,.bool b⟩
 | .int i,x,u,h,r,_=>by simp only[aC] at h;subst h;obtain⟨t,e⟩:=(show ∃ t,u=Value.int i t from r);subst e;exact⟨_,.int i t⟩
 | .str z,x,u,h,r,_=>by simp only[aC] at h;subst h;obtain⟨t,e⟩:=(show ∃ t,u=Value.str z t from r);subst e;exact⟨_,.str z t⟩
 | .list ds,x,u,h,r,hd=>by simp only[aC] at h;obtain⟨a,vs,e,hs,ra⟩:=h;subst e;cases (show u=Value.ref a from r);obtain⟨its,rv,⟨o,n,e1,e2,e3,e4⟩,hz⟩:=I.list hs.sq;obtain⟨as,q⟩:=kl I ds ra rv (by simpa [PyData.hasDict] using hd);exact⟨_,.list e1 e2 e4 (by simpa using q)⟩
 | .tuple ds,x,u,h,r,hd=>by simp only[aC] at h;obtain⟨a,vs,e,hs,ra⟩:=h;subst e;cases (show u=Value.ref a from r);obtain⟨its,rv,⟨o,e1,e2,n,e4⟩,hz⟩:=I.tuple hs;obtain⟨as,q⟩:=kl I ds ra rv (by simpa [PyData.hasDict] using hd);exact⟨_,.tuple e1 e2 e4 (by simpa using q)⟩
 | .dict kvs,x,u,h,r,hd=>by simp[PyData.hasDict] at hd
theorem kl(I:Inv X pins σ H s):∀ (ds:List PyData) {xs:List V} {us:List Value},bo X.K H ds xs->Vals xs us->PyData.hasDictAll ds=false->∃ as,ReadsAll s.heap us ds as
 | [],xs,us,h,r,_=>by simp only[bo] at h;subst h;cases r;exact⟨_,.nil⟩
 | d::ds,xs,us,h,r,hd=>by
  simp only[bo] at h;obtain⟨v,vr,e,h1,h2⟩:=h;subst e;simp only[PyData.hasDictAll,Bool.or_eq_false_iff] at hd;cases r with
  | cons r1 r2 =>
   obtain⟨as,q1⟩:=dz I d h1 r1 hd.1;obtain⟨bs,q2⟩:=kl I ds h2 r2 hd.2;exact⟨_,.cons q1 q2⟩
end
def aen:PyData->Bool
 | .none | .bool _ | .int _ | .str _=>true
 | _=>false
theorem vD:∀ {d:PyData} {x:V} {u:Value} {h:Heap} {K:FG} {H:Hp},aen d=true->aC K H d x->RelV x u->Reads h u d []
 | .none,x,u,h,K,H,_,e,r=>by simp only[aC] at e;subst e;cases (show u=Value.none from r);exact .none
 | .bool b,x,u,h,K,H,_,e,r=>by simp only[aC] at e;subst e;cases (show u=Value.bool b from r);exact .bool b
 | .int i,x,u,h,K,H,_,e,r=>by simp only[aC] at e;subst e;obtain⟨t,z⟩:=(show ∃ t,u=Value.int i t from r);subst z;exact .int i t
 | .str i,x,u,h,K,H,_,e,r=>by simp only[aC] at e;subst e;obtain⟨t,z⟩:=(show ∃ t,u=Value.str i t from r);subst z;exact .str i t
 | .list _,_,_,_,_,_,f,_,_=>nomatch f
 | .tuple _,_,_,_,_,_,f,_,_=>nomatch f
 | .dict _,_,_,_,_,_,f,_,_=>nomatch f
theorem kL{P:Program}{w:World}{h:Heap}{K:FG}{H:Hp}:∀ {kvs:List (PyData×PyData)} {l:List (Key×V)} {vs:List (Key×Value)} {es:List DictEntry},(kvs.all λ p=>aen p.2)=true->jb K H kvs l->KV l vs->Pairs (bb P w) es vs ->
  ReadsAll h (es.map (·.key)) (kvs.map (·.1)) []/\ReadsAll h (es.map (·.val)) (kvs.map (·.2)) []
 | [],l,vs,es,_,r,kv,p=>by simp only[jb] at r;subst r;cases kv;cases p;exact⟨.nil,.nil⟩
 | (k,d)::kvs,l,vs,es,f,r,kv,p=>by
  simp only[jb] at r;obtain⟨key,v,lr,e,ek,r1,r2⟩:=r;subst e;rw[List.all_cons,Bool.and_eq_true] at f;cases kv with
  | cons q1 q2 =>
   rename_i kv0 vs0
   obtain⟨k0,u0⟩:=kv0;obtain⟨q1,q3⟩:=q1;cases p with
   | cons p1 p2 p3 =>
    rename_i en es0
    obtain⟨i1,i2⟩:=kL f.2 r2 q2 p3;have rk:Reads h en.key k []:=by
     have hk:oR k0 en.key=true:=p1;have hk0:key=k0:=q1;subst hk0;rw[ek];rcases bK hk with ⟨i,t,z1,z2⟩ | ⟨i,t,z1,z2⟩
     ·subst z1;rw[z2];exact .int i t
     ·subst z1;rw[z2];exact .str i t
    have rv:Reads h en.val d []:=by rw[p2];exact vD f.1 r1 q3
    exact⟨.cons rk i1,.cons rv i2⟩
def fy(d:PyData):Bool:=d.showable&&decide (d.shown.length<=sizeLine)&&decide (d.depth<=60)&&(!d.hasDict || match d with
 | .dict kvs=>kvs.all λ p=>aen p.2
 | _=>false)
theorem vW(I:Inv X pins σ H s){d:PyData}{x:V}{u:Value}(h:aC X.K H d x)(r:RelV x u)(ok:fy d=true):∃ as,Reads s.heap u d as/\(d.hasDict=true->sysModules ∉ as):=by
 simp only[fy,Bool.and_eq_true,Bool.or_eq_true] at ok;cases hd:d.hasDict with
 | false =>
  obtain⟨as,q⟩:=dz I d h r hd;exact⟨as,q,λ z=>absurd z (by simp)⟩
 | true =>
  have f:=ok.2.resolve_left (by simp[hd]);cases d with
  | dict kvs =>
   simp only[aC] at h;obtain⟨a,o,l,e,ha,rk⟩:=h;subst e;cases (show u=Value.ref a from r);obtain⟨z,hs,vs,kv,o',es,ep,e1,e2,e3,e4,e5,e6⟩:=vK I.hok (.inr ⟨o,ha⟩);obtain⟨q1,q2⟩:=kL (h:=s.heap) f rk kv e5;refine⟨_,.dict e1 e2.1 e3 q1 q2,λ _ hm=>?_⟩;simp only[List.append_nil] at hm;have hm':sysModules=a:=by simpa using hm
   rw[<- hm'] at hs;simp at hs
  | _=>exact absurd f (by simp)
def pZ(d:PyData):Bool:=SeqAt.shaped d&&!d.hasDict
def dR:PyData->PyData->Bool
 | .str _,.str _=>true
 | d,d'=>pZ d&&pZ d'
theorem fL(h:dR d d'=true):(∃ x y,d=.str x/\d'=.str y)\/(pZ d=true/\pZ d'=true):=by
 cases d with
 | str x =>
  cases d' with
  | str y=>exact .inl ⟨x,y,rfl,rfl⟩
  | _=>exact .inr (by simpa [dR] using h)
 | _=>exact .inr (by simpa [dR] using h)
theorem rX(x y:Str):decide (V.str x=V.str y)=PyData.eqv (.str x) (.str y):=by
 rw[PyData.eqv]
 by_cases e:x=y
 ·subst e;simp
 ·rw[decide_eq_false (λ z=>e (V.str.inj z))];exact(beq_eq_false_iff_ne.mpr e).symm
theorem acm(hr:cX k X.A):OpR X (compareOp .Eq) (λ x y H Q=>∃ d d',aC X.K H d x/\aC X.K H d' y/\dR d d'=true/\Q (.bl (PyData.eqv d d')) H):=by
 intro pins s σ H x y v u Q I rx ry h;obtain⟨d,d',h1,h2,o,q⟩:=h;rcases fL o with ⟨a,b,e1,e2⟩ | ⟨o1,o2⟩
 ·subst e1;subst e2;simp only[aC] at h1 h2;subst h1;subst h2;exact ah5 pins s σ H _ _ v u Q I rx ry ⟨rfl,by rw[rX];exact q⟩
 simp only[pZ,Bool.and_eq_true,Bool.not_eq_true'] at o1 o2;obtain⟨as,r1⟩:=dz I d h1 rx o1.2;obtain⟨bs,r2⟩:=dz I d' h2 ry o2.2;exact eq_dataH r1 r2 o1.1 o2.1 hr.units ⟨.bl _,H,I,rfl,q⟩
theorem agK(hr:cX k X.A):OpR X (compareOp .NotEq) (λ x y H Q=>∃ d d',aC X.K H d x/\aC X.K H d' y/\dR d d'=true/\Q (.bl (!PyData.eqv d d')) H):=by
 intro pins s σ H x y v u Q I rx ry h;obtain⟨d,d',h1,h2,o,q⟩:=h;rcases fL o with ⟨a,b,e1,e2⟩ | ⟨o1,o2⟩
 ·subst e1;subst e2;simp only[aC] at h1 h2;subst h1;subst h2;exact aiz pins s σ H _ _ v u Q I rx ry ⟨rfl,by rw[rX];exact q⟩
 simp only[pZ,Bool.and_eq_true,Bool.not_eq_true'] at o1 o2;obtain⟨as,r1⟩:=dz I d h1 rx o1.2;obtain⟨bs,r2⟩:=dz I d' h2 ry o2.2;exact ne_dataH r1 r2 o1.1 o2.1 hr.units ⟨.bl _,H,I,rfl,q⟩
def tyD:PyData->String
 | .none => "NoneType"
 | .bool _ => "bool"
 | .int _ => "int"
 | .str _ => "str"
 | .list _ => "list"
 | .tuple _ => "tuple"
 | .dict _ => "dict"
inductive Ty6:String->Prop where
 | int:Ty6 "int" | bool:Ty6 "bool" | str:Ty6 "str" | list:Ty6 "list" | tuple:Ty6 "tuple" | dict:Ty6 "dict"
def gF(d:PyData)(T:String):Bool:=tyD d==T || (T == "int" && tyD d == "bool")
theorem x9{K:FG}(d:PyData){T:String}(h:Ty6 T):W.kitOne K (.type (tyD d)) (.type T)=some (gF d T):=by
 cases h<;>cases d<;>rfl
theorem zf:eU X (.builtin "isinstance") (λ xs H Q=>∃ x d T,xs=[x,.ty T]/\aC X.K H d x/\Ty6 T/\Q (.bl (gF d T)) H):=by
 intro pins s σ H xs us Q I r h;obtain⟨x,d,T,rfl,rd,h6,q⟩:=h;obtain⟨u,w',rfl,rx,ry⟩:=vals2 r;cases (show w'=Value.type T from ry);have e:=x9 (K:=X.K) d h6;have fin:∀ tk,EP X pins σ Q (.bool (gF d T)) {s with toks:=tk}:=λ tk=>⟨.bl _,H,I.tok _,rfl,q⟩;generalize gF d T=b at e fin;cases d with
 | none=>simp only[aC] at rd;subst rd;cases (show u=Value.none from rx);exact W.kia_one W.kitx_none I.kIn True.intro e (λ z=>nomatch z) fin
 | bool y=>simp only[aC] at rd;subst rd;cases (show u=Value.bool y from rx);exact W.kia_one W.kitx_bool I.kIn True.intro e (λ z=>nomatch z) fin
 | int i=>simp only[aC] at rd;subst rd;obtain⟨t,z⟩:=(show ∃ t,u=Value.int i t from rx);subst z;exact W.kia_one W.kitx_int I.kIn True.intro e (λ z=>nomatch z) fin
 | str y=>simp only[aC] at rd;subst rd;obtain⟨t,z⟩:=(show ∃ t,u=Value.str y t from rx);subst z;exact W.kia_one W.kitx_str I.kIn True.intro e (λ z=>nomatch z) fin
 | list ds =>
  simp only[aC] at rd;obtain⟨a,vs,z,hs,_⟩:=rd;subst z;cases (show u=Value.ref a from rx);obtain⟨its,rv,⟨o,n,e1,e2,e3,e4⟩,hz⟩:=I.list hs.sq;exact W.kia_one W.kitx_list I.kIn ⟨_,e1,e2⟩ e (λ z=>nomatch z) fin
 | tuple ds =>
  simp only[aC] at rd;obtain⟨a,vs,z,hs,_⟩:=rd;subst z;cases (show u=Value.ref a from rx);obtain⟨its,rv,⟨o,e1,e2,e3⟩,hz⟩:=I.tuple hs;exact W.kia_one W.kitx_tuple I.kIn ⟨_,e1,e2⟩ e (λ z=>nomatch z) fin
 | dict kvs =>
  simp only[aC] at rd;obtain⟨a,o,l,z,ha,_⟩:=rd;subst z;cases (show u=Value.ref a from rx);obtain⟨_,hs,vs,kv,o',es,ep,e1,e2,_⟩:=vK I.hok (.inr ⟨o,ha⟩);exact W.kia_one W.kitx_dict I.kIn ⟨_,e1,e2.1⟩ e (λ z=>nomatch z) fin
theorem pV{K:FG}{H:Hp}:∀ {bs:List Bool} {vs:List V} {us:List Value},bo K H (bs.map PyData.bool) vs->Vals vs us->LSm.BoolsAre us bs
 | [],vs,us,h,r=>by simp only[List.map_nil,bo] at h;subst h;cases r;exact .nil
 | b::bs,vs,us,h,r=>by
  simp only[List.map_cons,bo] at h;obtain⟨v,vr,e,h1,h2⟩:=h;subst e;simp only[aC] at h1;subst h1;cases r with
  | cons r1 r2=>cases (show _=Value.bool b from r1);exact .cons b (pV h2 r2)
theorem hR(hc:X.calm=true):eU X (.builtin "all") (λ xs H Q=>∃ (x:V) (bs:List Bool),xs=[x]/\aC X.K H (.list (bs.map PyData.bool)) x/\Q (.bl (bs.all id)) H):=by
 intro pins s σ H xs us Q I r h;obtain⟨x,bs,rfl,rd,q⟩:=h;obtain⟨u,rfl,rx⟩:=vals1 r;simp only[aC] at rd;obtain⟨a,vs,z,hs,ra⟩:=rd;subst z;cases (show u=Value.ref a from rx);obtain⟨its,rv,pl,hz⟩:=I.list hs.sq;obtain⟨m,F⟩:=I.fr;have N:News X.base X.env.locals s.heap []:=λ p hp=>nomatch hp;have hb:=pV ra rv;have hl:s.heap.IsList a its.toArray:=pl.isList;have hlt:a<s.heap.objs.size:=by obtain⟨_,e,_⟩:=hl;exact Heap.lt_size e
 refine call_all_walk (wpAny_pyIter_list hl ?_);refine⟨s.heap.objs.size,[s.heap.objs.size,a],[s.heap.objs.size],its.toArray.size,_,_,λ i=>(bs[i]?).getD true,rfl,Walks.list (A:=X.A.in1) (I.ok.hd hc) _ a (Nat.ne_of_lt hlt) its.toArray,
  ⟨⟨_,Heap.get?_push_size _ rfl,rfl,rfl⟩,hl.push _⟩,λ i v s' Q' E' hP hQ=>?_,λ h' tk hk=>?_⟩
 ·obtain⟨b,e,rfl⟩:=hb.get i v (by simpa using hP);simp only[e,Option.getD_some] at hQ;exact wpAny_truthy_bool hQ
 ·have e:((List.range its.toArray.size).all λ i=>(bs[i]?).getD true)=bs.all id:=by rw[List.size_toArray,hb.length];exact LSm.range_all bs
  rw[e];exact⟨.bl _,H,I.kept (LSm.kept_iter hk),rfl,q⟩
end D
namespace D
open L2
section
variable {X:Cx}{K:FG}
theorem OpR.or(h:OpR X f r)(h':OpR X f r'):OpR X f (λ x y H Q=>r x y H Q\/r' x y H Q):=by
 intro pins s σ H x y v u Q I rx ry q;rcases q with q | q
 ·exact h pins s σ H x y v u Q I rx ry q
 ·exact h' pins s σ H x y v u Q I rx ry q
theorem OpD.or(h:OpD K r rd)(h':OpD K r' rd'):OpD K (λ x y H Q=>r x y H Q\/r' x y H Q) (λ w w' M Q=>rd w w' M Q\/rd' w w' M Q):=by
 intro x y H w w' M Qd Q r1 r2 m q k;rcases q with q | q
 ·exact .inl (h x y H w w' M Qd Q r1 r2 m q k)
 ·exact .inr (h' x y H w w' M Qd Q r1 r2 m q k)
def aeD(g:Int->Int->PyData)(w:W)(w':W)(M:MH)(Q:QD):Prop:=∃ i j,w=.d (.int i)/\w'=.d (.int j)/\Q (.d (g i j)) M
def rdI(C:Int->Int->Prop)(g:Int->Int->PyData)(w:W)(w':W)(M:MH)(Q:QD):Prop:=∃ i j,w=.d (.int i)/\w'=.d (.int j)/\C i j/\Q (.d (g i j)) M
theorem mG(hg:∀ i j H,aC K H (gd i j) (g i j)):OpD K (rI0 g) (aeD gd):=by intro x y H w w' M Qd Q r1 r2 m ⟨i,j,e1,e2,q⟩ k;subst e1;subst e2;simp only[aG,aC] at r1 r2;exact⟨i,j,r1,r2,k _ H (.d (gd i j)) M (Kp.refl H) (hg i j H) m q⟩
theorem ael(hg:∀ i j H,aC K H (gd i j) (g i j)):OpD K (rI C g) (rdI C gd):=by intro x y H w w' M Qd Q r1 r2 m ⟨i,j,e1,e2,c,q⟩ k;subst e1;subst e2;simp only[aG,aC] at r1 r2;exact⟨i,j,r1,r2,c,k _ H (.d (gd i j)) M (Kp.refl H) (hg i j H) m q⟩
def qa(w w':W)(M:MH)(Q:QD):Prop:=aeD (λ i j=>.int (i-j)) w w' M Q
def gy(w w':W)(M:MH)(Q:QD):Prop:=rdI agf (λ i j=>.int (i * j)) w w' M Q
def fE(w w':W)(M:MH)(Q:QD):Prop:=rdI (λ _ j=>0<j) (λ i j=>.int (i % j)) w w' M Q
def v8(w w':W)(M:MH)(Q:QD):Prop:=rdI ai4 (λ i j=>.int (i / j)) w w' M Q
def bA(w:W)(w':W)(M:MH)(Q:QD):Prop:=aeD (λ i j=>.int (i+j)) w w' M Q\/∃ x y,w=.d (.str x)/\w'=.d (.str y)/\x.length+y.length<=sizeLine/\Q (.d (.str (x++y))) M
theorem gS:OpD K (rI0 λ i j=>.int (i-j)) qa:=mG λ _ _ _=>by simp[aC]
theorem gV:OpD K (rI agf λ i j=>.int (i * j)) gy:=ael λ _ _ _=>by simp[aC]
theorem fQ:OpD K (rI (λ _ j=>0<j) λ i j=>.int (i % j)) fE:=ael λ _ _ _=>by simp[aC]
theorem sF:OpD K (rI ai4 λ i j=>.int (i / j)) v8:=ael λ _ _ _=>by simp[aC]
def aeV:R2:=λ x y H Q=>∃ i j,x=.str i/\y=.str j/\i.length+j.length<=sizeLine/\Q (.str (i++j)) H
theorem aaz:OpD K aeV (λ w w' M Q=>∃ x y,w=.d (.str x)/\w'=.d (.str y)/\x.length+y.length<=sizeLine/\Q (.d (.str (x++y))) M):=by intro x y H w w' M Qd Q r1 r2 m ⟨i,j,e1,e2,c,q⟩ k;subst e1;subst e2;simp only[aG,aC] at r1 r2;exact⟨i,j,r1,r2,c,k _ H (.d (.str (i++j))) M (Kp.refl H) (by simp[aG,aC]) m q⟩
theorem aM:OpR X (binaryOp .Add) (λ x y H Q=>rI0 (λ i j=>.int (i+j)) x y H Q\/aeV x y H Q):=OpR.or agi vM
theorem aE:OpD K (λ x y H Q=>rI0 (λ i j=>.int (i+j)) x y H Q\/aeV x y H Q) bA:=OpD.or (mG λ _ _ _=>by simp[aC]) aaz
def rS(g:Str->Str->Bool):R2:=λ x y H Q=>∃ i j,x=.str i/\y=.str j/\Q (.bl (g i j)) H
def rdS(g:Str->Str->Bool)(w:W)(w':W)(M:MH)(Q:QD):Prop:=∃ i j,w=.d (.str i)/\w'=.d (.str j)/\Q (.d (.bool (g i j))) M
theorem adl:OpD K (rS g) (rdS g):=by intro x y H w w' M Qd Q r1 r2 m ⟨i,j,e1,e2,q⟩ k;subst e1;subst e2;simp only[aG,aC] at r1 r2;exact⟨i,j,r1,r2,k _ H (.d (.bool (g i j))) M (Kp.refl H) (by simp[aG,aC]) m q⟩
theorem yV:OpR X (compareOp .LtE) (rS λ x y=>!decide (y.cps.toList<x.cps.toList)):=by intro pins s σ H x y v u Q I rx ry h;obtain⟨i,j,rfl,rfl,q⟩:=h;obtain⟨t,rfl⟩:=rx;obtain⟨t',rfl⟩:=ry;exact PySem.P.le_str ⟨.bl _,H,I,rfl,q⟩
def o9(w:W)(w':W)(M:MH)(Q:QD):Prop:=aeD (λ i j=>.bool (decide (i<=j))) w w' M Q\/rdS (λ x y=>!decide (y.cps.toList<x.cps.toList)) w w' M Q
theorem gB:OpR X (compareOp .LtE) (λ x y H Q=>rI0 (λ i j=>.bl (decide (i<=j))) x y H Q\/rS (λ x y=>!decide (y.cps.toList<x.cps.toList)) x y H Q):=OpR.or ahY yV
theorem eG:OpD K (λ x y H Q=>rI0 (λ i j=>.bl (decide (i<=j))) x y H Q\/rS (λ x y=>!decide (y.cps.toList<x.cps.toList)) x y H Q) o9:=OpD.or (mG λ _ _ _=>by simp[aC]) adl
def adO(w w':W)(M:MH)(Q:QD):Prop:=aeD (λ i j=>.bool (decide (i<j))) w w' M Q
def aa5(w w':W)(M:MH)(Q:QD):Prop:=aeD (λ i j=>.bool (decide (j<i))) w w' M Q
def ahP(w w':W)(M:MH)(Q:QD):Prop:=aeD (λ i j=>.bool (decide (j<=i))) w w' M Q
theorem nc:OpD K (rI0 λ i j=>.bl (decide (i<j))) adO:=mG λ _ _ _=>by simp[aC]
theorem m9:OpD K (rI0 λ i j=>.bl (decide (j<i))) aa5:=mG λ _ _ _=>by simp[aC]
theorem agc:OpD K (rI0 λ i j=>.bl (decide (j<=i))) ahP:=mG λ _ _ _=>by simp[aC]
def ajb(w:W)(w':W)(M:MH)(Q:QD):Prop:=∃ d d',w=.d d/\w'=.d d'/\dR d d'=true/\Q (.d (.bool (PyData.eqv d d'))) M
theorem agp:OpD K (λ x y H Q=>∃ d d',aC K H d x/\aC K H d' y/\dR d d'=true/\Q (.bl (PyData.eqv d d')) H) ajb:=by intro x y H w w' M Qd Q r1 r2 m ⟨d,d',e1,e2,o1,q⟩ k;subst e1;subst e2;exact⟨d,d',r1,r2,o1,k _ H (.d (.bool _)) M (Kp.refl H) (by simp[aG,aC]) m q⟩
def inS(x y:Str):Bool:=!(Builtin.Str.occurrences y x 0 y.length 1).isEmpty
def aaV(w w':W)(M:MH)(Q:QD):Prop:=rdS inS w w' M Q
theorem sV:OpD K (rS inS) aaV:=adl
theorem zG:OpR X (compareOp .In) (rS inS):=wu
def vS(w:W)(M:MH)(Q:QD):Prop:=∃ i,w=.d (.int i)/\Q (.d (.int (-i))) M
theorem kg:UnD K (rU λ i=>.int (-i)) vS:=by intro x H w M Qd Q r m ⟨i,e,q⟩ k;subst e;simp only[aG,aC] at r;exact⟨i,r,k _ H (.d (.int (-i))) M (Kp.refl H) (by simp[aG,aC]) m q⟩
def u3:W->Bool
 | .d (.str z)=>decide (z.length<=sizeLine)
 | _=>true
def ixW(M:MH):W->Int->Option W
 | .d (.list ds),i=>(atI ds i).map W.d
 | .d (.tuple ds),i=>(atI ds i).map W.d
 | .d (.str z),i=>(atI z.cps.toList i).map λ c=>W.d (.str ⟨#[c]⟩)
 | .m a,i=>match M a with
  | some (.lst ws)=>atI ws i
  | some (.tup ws)=>atI ws i
  | _=>none
 | _,_=>none
inductive RIx(w:W) (w':W) (M:MH) (Q:QD):Prop
 | mk (i:Int) (x:W) (z0:w'=.d (.int i)) (z1:ixW M w i=some x) (z2:u3 w=true) (q:Q x M):RIx w w' M Q
def dQ(w:W)(w':W)(M:MH)(Q:QD):Prop:=RIx w w' M Q
theorem uf(r:bo K H ds vs)(e:atI ds i=some d):∃ v,atI vs i=some v/\aC K H d v:=by
 unfold atI at e ⊢;rw[r.length];cases q:ixN ds.length i with
 | none=>rw[q] at e;cases e
 | some j =>
  rw[q] at e;exact r.get e
theorem qZ(r:ba K H ds vs)(e:atI ds i=some d):∃ v,atI vs i=some v/\aG K H d v:=by
 unfold atI at e ⊢;rw[<- r.length];cases q:ixN ds.length i with
 | none=>rw[q] at e;cases e
 | some j =>
  rw[q] at e;exact r.get e
theorem aX:OpD K (rIx K) dQ:=by
 intro x y H w w' M Qd Q r1 r2 m ⟨i,z,e2,ei,hf,q⟩ k;subst e2;simp only[aG,aC] at r2;cases w with
 | t n=>simp[ixW] at ei
 | m a =>
  simp only[aG] at r1;simp only[ixW] at ei;cases hm:M a with
  | none=>rw[hm] at ei;cases ei
  | some mo =>
   rw[hm] at ei;cases mo with
   | lst ws =>
    obtain⟨vs,e1,rw1⟩:=m a _ hm;obtain⟨v,e3,rv⟩:=qZ rw1 ei;exact .inl ⟨a,vs,i,v,r1,r2,SqL.of e1,e3,k v H z M (Kp.refl H) rv m q⟩
   | dic _=>cases ei
   | dct _=>cases ei
   | fdic _=>cases ei
   | ins _ _=>cases ei
   | tup ws =>
    obtain⟨vs,e1,rw1⟩:=m a _ hm;obtain⟨v,e3,rv⟩:=qZ rw1 ei;exact .inr (.inl ⟨a,vs,i,v,r1,r2,.inl (.inl e1),e3,k v H z M (Kp.refl H) rv m q⟩)
   | flst _=>cases ei
   | exc _ _=>cases ei
   | code _ _=>cases ei
 | d d =>
  cases d with
  | list ds =>
   simp only[aG,aC] at r1;obtain⟨a,vs,e1,hs,ra⟩:=r1;simp only[ixW] at ei;cases h:atI ds i with
   | none=>rw[h] at ei;cases ei
   | some d =>
    rw[h] at ei;cases ei;obtain⟨v,e3,rv⟩:=uf ra h;exact .inl ⟨a,vs,i,v,e1,r2,hs.sq,e3,k v H (.d d) M (Kp.refl H) rv m q⟩
  | tuple ds =>
   simp only[aG,aC] at r1;obtain⟨a,vs,e1,hs,ra⟩:=r1;simp only[ixW] at ei;cases h:atI ds i with
   | none=>rw[h] at ei;cases ei
   | some d =>
    rw[h] at ei;cases ei;obtain⟨v,e3,rv⟩:=uf ra h;exact .inr (.inl ⟨a,vs,i,v,e1,r2,hs,e3,k v H (.d d) M (Kp.refl H) rv m q⟩)
  | str s =>
   simp only[aG,aC] at r1;simp only[ixW] at ei;cases h:atI s.cps.toList i with
   | none=>rw[h] at ei;cases ei
   | some c =>
    rw[h] at ei;cases ei;exact .inr (.inr ⟨s,i,c,r1,r2,of_decide_eq_true hf,h,k _ H (.d (.str ⟨#[c]⟩)) M (Kp.refl H) (by simp[aG,aC]) m q⟩)
  | _=>simp[ixW] at ei
theorem adM(h:PE X e t):PE X e (λ σ H Q=>t σ H λ v H1=>Q v H1\/∃ p u,v=.ref p/\H1 p=some u/\Fz u/\∀ o,Q v (upd H1 p (.frz o u))):=by
 intro pins s σ H Q I hq;refine thn (h pins s σ H _ I hq) λ v s1 hq46=>?_;obtain⟨x,H1,I1,r1,q⟩:=hq46;rcases q with q | ⟨p,u,e1,e2,f,q⟩
 ·exact⟨x,_,I1,r1,q⟩
 ·obtain⟨o,I2⟩:=I1.freeze e2 f;exact⟨x,_,I2,r1,q o⟩
def ajc:V->Option Int->Option Int->Hp->VK->Prop:=λ x lo hi H Q=>∃ z,x=.str z/\z.length<=sizeLine/\Q (.str (Txt.slice z lo hi)) H
theorem afB:SlR X ajc:=by
 intro pins s σ H x v vl vu lo hi sl Q I rx hs pl pu h;obtain⟨z,rfl,hz,q⟩:=h;obtain⟨t,rfl⟩:=rx;have fin:∀ t' k,EP X pins σ Q (.str (Txt.slice z lo hi) t') {s with toks:=k}:=λ t' k=>⟨.str _,H,I.tok _,⟨_,rfl⟩,q⟩;refine⟨"str",_,F.slot_str_getitem.lookup,typeIs_str _ _ _,?_⟩;cases pl with
 | none =>
  cases pu with
  | none=>exact wpAny_getItem_str_slice (l:=none) (u:=none) (st:=none) hs rfl (post_val_or_str ⟨Nat.le_trans (Txt.slice_le z _ _) hz,fin⟩)
  | int j uj=>exact wpAny_getItem_str_slice (l:=none) (u:=some (j,uj)) (st:=none) hs rfl (post_val_or_str ⟨Nat.le_trans (Txt.slice_le z _ _) hz,fin⟩)
 | int i ui =>
  cases pu with
  | none=>exact wpAny_getItem_str_slice (l:=some (i,ui)) (u:=none) (st:=none) hs rfl (post_val_or_str ⟨Nat.le_trans (Txt.slice_le z _ _) hz,fin⟩)
  | int j uj=>exact wpAny_getItem_str_slice (l:=some (i,ui)) (u:=some (j,uj)) (st:=none) hs rfl (post_val_or_str ⟨Nat.le_trans (Txt.slice_le z _ _) hz,fin⟩)
abbrev TOd:=DS->MH->(Option Int->MH->Prop)->Prop
def upO(K:FG)(t:TOd):TO:=λ σ H Q=>∃ τ M Qd,Abs K H σ τ M/\t τ M Qd/\∀ b H' M',Kp H H'->cH K H' M'->Qd b M'->Q b H'
abbrev POd(X:Cx)(e:Option Expr)(t:TOd):Prop:=PO X e (upO X.K t)
theorem ajf(h:PO X e t)(k:∀ σ H Q,t' σ H Q->t σ H Q):PO X e t':=λ pins s σ H Q I q=>h pins s σ H Q I (k σ H Q q)
def bJ(_:DS)(M:MH)(Q:Option Int->MH->Prop):Prop:=Q none M
def dq(t:TD)(τ:DS)(M:MH)(Q:Option Int->MH->Prop):Prop:=t τ M λ w M1=>∃ i,w=.d (.int i)/\Q (some i) M1
theorem abS(h:PD X e te):POd X (some e) (dq te):=ajf (adP h) λ σ H Q ⟨τ,M,Qd,A,q,k⟩=>⟨τ,M,_,A,q,λ v H1 w M1 kp r m hq47=>by obtain⟨i,e,q1⟩:=hq47;subst e;simp only[aG,aC] at r;exact⟨i,r,k _ H1 M1 kp m q1⟩⟩
def cutD(xs:List α)(lo hi:Option Int):List α:=(xs.drop (HT.sIx xs.length 0 lo)).take (HT.sIx xs.length xs.length hi-HT.sIx xs.length 0 lo)
def uu(n:Nat)(lo hi:Option Int):Bool:=decide (HT.sIx n 0 lo=0/\HT.sIx n n hi=n)
def slW:W->Option Int->Option Int->Option W
 | .d (.list ds),lo,hi=>some (.d (.list (cutD ds lo hi)))
 | .d (.tuple ds),lo,hi=>if uu ds.length lo hi then none else some (.d (.tuple (cutD ds lo hi)))
 | .d (.str z),lo,hi=>some (.d (.str (Txt.slice z lo hi)))
 | _,_,_=>none
def dSl(te:TD)(tl th:TOd)(τ:DS)(M:MH)(Q:QD):Prop:=te τ M λ w M1=>tl τ M1 λ lo M2=>th τ M2 λ hi M3=>∃ z,slW w lo hi=some z/\u3 w=true/\Q z M3
theorem aha:SlR X (λ x lo hi H Q=>ajw X.K x lo hi H Q\/ajD X.K x lo hi H Q\/ajc x lo hi H Q):=aeQ.or (af4.or afB)
theorem bo.cut(r:bo K H ds vs)(lo hi:Option Int):bo K H (cutD ds lo hi) (ab5 vs lo hi):=by
 unfold cutD ab5;rw[r.length];exact(r.drop _).take _
theorem abH{te:TD}{lo hi:Option Expr}{tl th:TOd}{pos p2:Pos}(he:PD X e te)(hl:POd X lo tl)(hu:POd X hi th):PD X (.Subscript e (.Slice lo hi none p2) pos) (dSl te tl th):=
 fx (adM (aa9 aha he hl hu)) λ σ H Q h=>by
  obtain⟨τ,M,Qd,A,h,k⟩:=h;refine⟨τ,M,_,A,h,λ v H1 w M1 kp1 r1 m1 q1=>⟨τ,M1,_,A.go kp1 m1,q1,λ lo H2 M2 kp2 m2 q2=>⟨τ,M2,_,A.go (kp1.trans kp2) m2,q2,λ hi H3 M3 kp3 m3 q3=>?_⟩⟩⟩;obtain⟨z,ez,hf,q⟩:=q3;have kp:=(kp1.trans kp2).trans kp3;have r:=r1.keep (kp2.trans kp3);cases w with
  | t n=>simp[slW] at ez
  | m a=>simp[slW] at ez
  | d d =>
   cases d with
   | list ds =>
    simp only[slW] at ez;cases ez;simp only[aG,aC] at r;obtain⟨a,vs,e1,hs,ra⟩:=r;exact .inl ⟨a,vs,e1,hs.sq,λ p hp=>.inr (kQ hp (bo.cut ra lo hi) m3 q (kgo k kp))⟩
   | tuple ds =>
    simp only[slW] at ez
    split at ez
    ·cases ez
    ·rename_i hw
     cases ez;simp only[aG,aC] at r;obtain⟨a,vs,e1,hs,ra⟩:=r;refine .inr (.inl ⟨a,vs,e1,hs,?_,λ p hp=>.inl ?_⟩)
     ·rw[ra.length]
      simpa [uu] using hw
     ·refine k _ _ (.d (.tuple _)) M3 (kp.trans (Kp.new hp)) ?_ (m3.new hp) q;simp only[aG,aC];exact⟨p,_,rfl,.inl (.inl ar),(bo.cut ra lo hi).keep (Kp.new hp)⟩
   | str s =>
    simp only[slW] at ez;cases ez;simp only[aG,aC] at r;exact .inr (.inr ⟨s,r,of_decide_eq_true hf,.inl (k _ H3 (.d (.str _)) M3 kp (by simp[aG,aC]) m3 q)⟩)
   | _=>simp[slW] at ez
def z9(to ti:TD)(v:W)(τ:DS)(M:MH)(Q:DS->MH->Prop):Prop:=to τ M λ w M1=>ti τ M1 λ w' M2=>∃ a ws i j,w=.m a/\w'=.d (.int i)/\M2 a=some (.lst ws)/\ixN ws.length i=some j/\Q τ (cn M2 a (.lst (ws.set j v)))
theorem yO(m:cH K H M)(e:H a=some (.lst vs))(rw1:ba K H ws vs)(rv:aG K H w v) :
  Kp H (upd H a (.lst (vs.set j v)))/\cH K (upd H a (.lst (vs.set j v))) (cn M a (.lst (ws.set j w))):=by
 have kp:Kp H (upd H a (.lst (vs.set j v))):=Kp.set e (λ xs z=>nomatch z) λ _ _ z=>nomatch z;exact⟨kp,m.put kp ⟨_,ar,(ba.set rv j rw1).keep kp⟩⟩
theorem adZ(ho:PD X o to)(hi:PD X i ti)
  (ha:∀ v,assign (.Subscript o i pos) X.env v=(do
   let ov <- holding [v] (eval o X.env)
   let iv <- holding [v,ov] (eval i X.env)
   standAt pos
   holding [v,ov,iv] (setItem ov iv v)
   release [v,ov,iv] []):=by intro _;rfl):PGd X (.Subscript o i pos) (z9 to ti):=ah1 (af2 ho hi set_list ha) λ v σ H Q h=>by
 obtain⟨w,τ,M,Qd,rv,A,h,k⟩:=h;refine⟨τ,M,_,A,h,λ x H1 wo M1 kp1 r1 m1 q1=>⟨τ,M1,_,A.go kp1 m1,q1,λ y H2 wi M2 kp2 r2 m2 q2=>?_⟩⟩;obtain⟨a,ws,i,j,e1,e2,hm,hj,q⟩:=q2;subst e1;subst e2;simp only[aG,aC] at r1 r2;obtain⟨vs,e3,rw1⟩:=m2 a _ hm;have kp:=kp1.trans kp2;obtain⟨kp3,m3⟩:=yO (j:=j) m2 e3 rw1 (rv.keep kp);exact⟨a,vs,i,j,r1,r2,e3,by rw[<- rw1.length];exact hj,k σ _ τ _ (kp.trans kp3) (A.go (kp.trans kp3) m3) q⟩
theorem aaE:ajm X (aiG X.K):=by
 intro pins s σ H o i ov iv Q I ro ri h;obtain⟨p,xs,k,z,rfl,rfl,hq,he,q⟩:=h;cases ro;obtain⟨t,rfl⟩:=ri;obtain⟨its,r,pl,hz⟩:=I.list hq;obtain⟨j,h1,h2,h3,h4,h5⟩:=oN he;obtain⟨w,ew,rw'⟩:=r.get h2;have hl:=r.length;have hn:=kR;have fin:EP X pins σ Q w s:=⟨z,H,I,rw',q⟩
 by_cases h0:0<=k
 ·have hj:k.toNat=j:=by rw[seqIndex_of h0 h5] at h1;exact Option.some.inj h1
  exact wpAny_getItem_list pl.isList h0 (by omega) (by rw[hj];simpa using ew) fin
 ·have hj:(k+(its.toArray.size:Int)).toNat=j:=by rw[seqIndex_neg (by omega) h4] at h1;rw[List.size_toArray,<- hl];exact Option.some.inj h1
  exact wpAny_getItem_list_neg pl.isList (by omega) (by rw[List.size_toArray]<;>omega) (by omega) (by rw[hj];simpa using ew) fin
def aaS(to ti te:TD)(f:Int->Int->Int)(D:Ed)(τ:DS)(M:MH):Prop:=to τ M λ w M1=>ti τ M1 λ w' M2=>∃ a ws i j n,w=.m a/\w'=.d (.int i)/\M2 a=some (.lst ws)/\ixN ws.length i=some j/\ws[j]? =some (.d (.int n)) /\
 te τ M2 λ y M3=>∃ n',y=.d (.int n')/\M3=M2/\D.nx τ (cn M3 a (.lst (ws.set j (.d (.int (f n n'))))))
theorem abc(ho:PD X o to)(hi:PD X i ti)(he:PD X e te)(hp:PIp X op (ipI f))
  (ha:∀ ov iv new,augStore i ov iv new=(do holding [new,ov,iv] (setItem ov iv new);release [new,ov,iv] [];pure .next):=by intros;rfl):PSd X (.AugAssign (.Subscript o i tpos) op e pos) (aaS to ti te f):=
 aaa (acJ ho hi aaE he hp set_list ha) λ D σ H h=>by
  obtain⟨τ,M,Dd,A,h,k1,_⟩:=h;refine⟨τ,M,_,A,h,λ x H1 wo M1 kp1 r1 m1 q1=>⟨τ,M1,_,A.go kp1 m1,q1,λ y H2 wi M2 kp2 r2 m2 q2=>?_⟩⟩;obtain⟨a,ws,i,j,n,e1,e2,hm,hj,hn,q⟩:=q2;subst e1;subst e2;simp only[aG,aC] at r1 r2;obtain⟨vs,e3,rw1⟩:=m2 a _ hm;obtain⟨v,e4,rv⟩:=rw1.get hn;simp only[aG,aC] at rv;have hj':ixN vs.length i=some j:=by rw[<- rw1.length];exact hj
  refine⟨a,vs,i,v,r1,r2,SqL.of e3,by unfold atI;rw[hj'];exact e4,?_⟩;refine⟨τ,M2,_,A.go (kp1.trans kp2) m2,q,λ z H3 wz M3 kp3 r3 m3 q3=>?_⟩;obtain⟨n',e5,e6,qn⟩:=q3;subst e5;subst e6;simp only[aG,aC] at r3;refine⟨n,n',rv,r3,?_⟩;obtain⟨vs',e3',rw2⟩:=m3 a _ hm;have kp:=(kp1.trans kp2).trans kp3;obtain⟨kp4,m4⟩:=yO (j:=j) (v:=.int (f n n')) (w:=.d (.int (f n n'))) m3 e3' rw2 (by simp[aG,aC]);exact⟨a,vs',i,j,r1,r2,e3',by rw[<- rw2.length];exact hj,k1 σ _ τ _ (kp.trans kp4) (A.go (kp.trans kp4) m4) qn⟩
end
section
variable {X:Cx}{K:FG}{tg:Expr}
def Its(z:Str):It:=⟨λ i _=>i<z.cps.size,λ i H x H'=>H'=H/\∃ c,z.cps[i]? =some c/\x=.str ⟨#[c]⟩,λ i _=>z.cps.size<=i⟩
theorem uM(it:Addr)(T:String)(z:Str)(t:Tok)
  (hT:["enumerate", "zip", "dict_itemiterator", "dict_reverseitemiterator", "odict_iterator", "itertools.zip_longest", "itertools.pairwise"].contains T=false)
  (W:∀ A:Around,A.handled=none->Walks P w A it [it] [it] z.cps.size (SignAt z) (λ i h=>h.IsStrIter it T z t i))(hself:∀ (A:Around) (i:Nat) (s:Shared) (Q:VP) (E:VP),s.heap.IsStrIter it T z t i->Q (.ref it) s->wpAny (model P w) A (pyIter (.ref it)) Q E s)
  (hend:∀ (A:Around) (i:Nat) (s:Shared) (Q:Option Value->Shared->Prop) (E:VP),A.handled=none->s.heap.IsStrIter it T z t i->z.cps[i]? =none->(∀ h',Heap.ExtBut it s.heap h'->Q none {s with heap:=h'})->wpAny (model P w) A (pyNext (.ref it)) Q E s) :
  Turn P w K tg (Its z) [it] it (λ i h=>h.IsStrIter it T z t i) where
 mem:=by simp
 obj:=λ i h st b hb=>by
  have e:b=it:=by simpa using hb
  subst e;obtain⟨o,e,c,d⟩:=st;exact⟨o,e,λ v q=>by rw[d] at q;cases q⟩
 keep:=λ i h h' st k=>by obtain⟨o,e,r⟩:=st;exact⟨o,k it (by simp) o e,r⟩
 item:=by intro X hP hw hK hc i pins s σ H E I hf st hg;subst hP hw hK;obtain⟨f0,f1,f2,f3,f4,f5⟩:=hf it (by simp);refine(W X.A (I.ok.hd hc)).item i s _ _ hg st λ v h' tk hv st' kk=>?_;obtain⟨c,u,hc',rfl⟩:=hv;have I1:Inv X pins σ H {s with heap:=h',toks:=tk}:=I.turned (λ b o hb e=>kk b o (by simpa using hb) e) f0 f1 f3 f4 f5;obtain⟨o,e,cl,d⟩:=id st';exact⟨_,rfl,yb (s:={s with heap:=h',toks:=tk}) e cl d hT ⟨.str ⟨#[c]⟩,H,I1,⟨u,rfl⟩,⟨rfl,c,hc',rfl⟩,st',λ b hb=>(hf b hb).1⟩⟩
 done:=by intro X hP hw hK hc i pins s σ H E I hf st hg;subst hP hw hK;obtain⟨f0,f1,f2,f3,f4,f5⟩:=hf it (by simp);have hn:z.cps.size<=i:=hg;exact hend X.A i s _ E (I.ok.hd hc) st (by simp[hn]) λ h' eb=>⟨rfl,I.turned (t':=s.toks) (λ b o hb e=>eb b o hb e) f0 f1 f3 f4 f5⟩
 self:=hself
section
variable {pins:PN}{σ:St}{H:Hp}{s:Shared}{R:It->Hp->Prop}{E:VP}
theorem afA(I:Inv X pins σ H s)(q:R (Its z) H):wpAny (model X.prog X.w) X.A (pyIter (.str z t)) (PIE X pins σ tg R) E s:=by
 cases ha:z.cps.all (·<128)
 ·refine wpAny_pyIter_wide ha ?_;refine⟨s.heap.objs.size,[s.heap.objs.size],_,_,H,rfl,I.kept (t':=s.toks) λ b o e=>Heap.get?_push_of_some _ e,
   uM _ "str_iterator" z t (by decide) (λ A hA=>Walks.strWide hA _ z t) (λ A i s Q E st h=>wpAny_pyIter_striter_wide st h) (λ A i s Q E hh st hx hQ=>wpAny_pyNext_wide_end hh st hx hQ),⟨_,Heap.get?_push_size _ rfl,rfl,rfl⟩,λ b hb=>?_,q⟩
  have e:b=s.heap.objs.size:=by simpa using hb
  subst e;exact I.rL (Nat.le_refl _) (I.hok.fresh (Nat.le_refl _))
 ·refine wpAny_pyIter_ascii ha ?_;refine⟨s.heap.objs.size,[s.heap.objs.size],_,_,H,rfl,I.kept (t':=s.toks) λ b o e=>Heap.get?_push_of_some _ e,
   uM _ "str_ascii_iterator" z t (by decide) (λ A hA=>Walks.strAscii hA _ z t) (λ A i s Q E st h=>wpAny_pyIter_striter_ascii st h) (λ A i s Q E hh st hx hQ=>wpAny_pyNext_ascii_end hh st hx hQ),⟨_,Heap.get?_push_size _ rfl,rfl,rfl⟩,λ b hb=>?_,q⟩
  have e:b=s.heap.objs.size:=by simpa using hb
  subst e;exact I.rL (Nat.le_refl _) (I.hok.fresh (Nat.le_refl _))
theorem acX(I:Inv X pins σ H s)(hq:SqL X.K H a xs)(q:R (Itl X.K a) H):wpAny (model X.prog X.w) X.A (pyIter (.ref a)) (PIE X pins σ tg R) E s:=by
 obtain⟨its,rv,p,hz⟩:=I.list hq;refine wpAny_pyIter_list p.isList ?_;refine⟨s.heap.objs.size,[s.heap.objs.size],_,_,H,rfl,I.kept (t':=s.toks) λ b o e=>Heap.get?_push_of_some _ e,yt a _,⟨_,Heap.get?_push_size _ rfl,rfl,rfl⟩,λ b hb=>?_,q⟩;have e:b=s.heap.objs.size:=by simpa using hb
 subst e;exact I.rL (Nat.le_refl _) (I.hok.fresh (Nat.le_refl _))
theorem afV(I:Inv X pins σ H s)(hq:SqT X.K H a xs)(q:R (Itt X.K a) H):wpAny (model X.prog X.w) X.A (pyIter (.ref a)) (PIE X pins σ tg R) E s:=by
 obtain⟨its,rv,p,hz⟩:=I.tuple hq;refine wpAny_pyIter_tuple (show s.heap.IsTuple a its.toArray from p) ?_;refine⟨s.heap.objs.size,[s.heap.objs.size],_,_,H,rfl,I.kept (t':=s.toks) λ b o e=>Heap.get?_push_of_some _ e,vb a _,⟨_,Heap.get?_push_size _ rfl,rfl,rfl⟩,λ b hb=>?_,q⟩;have e:b=s.heap.objs.size:=by simpa using hb
 subst e;exact I.rL (Nat.le_refl _) (I.hok.fresh (Nat.le_refl _))
end
def aj7(K:FG)(tl:TE):TI:=λ σ H R=>tl σ H λ x H1=>(∃ a xs,x=.ref a/\SqL K H1 a xs/\R (Itl K a) H1)\/(∃ a xs,x=.ref a/\SqT K H1 a xs/\R (Itt K a) H1)\/∃ z,x=.str z/\R (Its z) H1
theorem afZ(hl:PE X l tl):PI X tg l (aj7 X.K tl):=by
 intro pins s σ H R I h;refine thn (hl pins s σ H _ I h) λ v s1 hq48=>?_;obtain⟨x,H1,I1,r1,q1⟩:=hq48;rcases q1 with ⟨a,xs,e,hq,q⟩ | ⟨a,xs,e,hq,q⟩ | ⟨z,e,q⟩
 ·subst e;cases r1;exact acX I1 hq q
 ·subst e;cases r1;exact afV I1 hq q
 ·subst e;obtain⟨t,rfl⟩:=r1;exact afA I1 q
def ItD(K:FG)(J:It)(H0:Hp)(ws:List W):Prop:=∀ H,Kp H0 H->∀ i:Nat,(i<ws.length->J.go i H)/\(ws.length<=i->J.stop i H) /\
 ∀ x H',i<ws.length->J.yld i H x H'->Kp H H'/\(∀ M,cH K H M->cH K H' M)/\∃ w,ws[i]? =some w/\aG K H' w x
abbrev TId:=DS->MH->(List W->MH->Prop)->Prop
def upI(K:FG)(t:TId):TI:=λ σ H R=>∃ τ M Rd,Abs K H σ τ M/\t τ M Rd/\∀ J H' ws M',Kp H H'->cH K H' M'->ItD K J H' ws->Rd ws M'->R J H'
abbrev PId(X:Cx)(tg iter:Expr)(t:TId):Prop:=PI X tg iter (upI X.K t)
theorem afc(h:PI X tg iter t)(k:∀ σ H R,t' σ H R->t σ H R):PI X tg iter t':=λ pins s σ H R I q=>h pins s σ H R I (k σ H R q)
def jY:W->Option (List W)
 | .d (.list ds)=>some (ds.map W.d)
 | .d (.tuple ds)=>some (ds.map W.d)
 | .d (.str z)=>some (z.cps.toList.map λ c=>W.d (.str ⟨#[c]⟩))
 | _=>none
def dI(te:TD)(τ:DS)(M:MH)(R:List W->MH->Prop):Prop:=te τ M λ w M1=>∃ ws,jY w=some ws/\R ws M1
theorem acS(hs:SqT K H a vs)(ra:bo K H ds vs):ItD K (Itt K a) H (ds.map W.d):=λ H1 kp i=>by
 have hl:=ra.length;refine⟨λ hi=>?_,λ hi=>⟨vs,SqT.keep kp hs,by rw[List.length_map] at hi;omega⟩,λ x H' hi y=>?_⟩
 ·rw[List.length_map] at hi;exact⟨vs,vs[i]'(by omega),SqT.keep kp hs,by simp⟩
 ·obtain⟨e,y⟩:=y;subst e;have ev:=y vs (SqT.keep kp hs);obtain⟨d,e1,rd⟩:=(ra.keep kp).get' ev;exact⟨Kp.refl _,λ M m=>m,.d d,by simp[e1],rd⟩
theorem aeY(z:Str):ItD K (Its z) H (z.cps.toList.map λ c=>W.d (.str ⟨#[c]⟩)):=λ H1 kp i=>by refine⟨λ hi=>(show i<z.cps.size by simpa using hi),λ hi=>(show z.cps.size<=i by simpa using hi),λ x H' hi y=>?_⟩;obtain⟨e,c,hc,ex⟩:=y;subst e;subst ex;exact⟨Kp.refl _,λ M m=>m,.d (.str ⟨#[c]⟩),by simp[hc],by simp[aG,aC]⟩
theorem adT(lo:Int)(n:Nat):ItD K (Itr lo n) H ((List.range n).map λ i:Nat=>W.d (.int (lo+(i:Int)))):=λ H1 kp i=>by refine⟨λ hi=>(show i<n by simpa using hi),λ hi=>(show n<=i by simpa using hi),λ x H' hi y=>?_⟩;obtain⟨e,ex⟩:=y;subst e;subst ex;simp at hi;exact⟨Kp.refl _,λ M m=>m,.d (.int (lo+i)),by simp[hi],by simp[aG,aC]⟩
theorem yA(h:PD X l te):PId X tg l (dI te):=afc (afZ h) λ σ H R hq49=>by
 obtain⟨τ,M,Rd,A,h,k⟩:=hq49;refine⟨τ,M,_,A,h,λ v H1 w M1 kp r m hq50=>?_⟩;obtain⟨ws,e,q⟩:=hq50;cases w with
 | t n=>simp[jY] at e
 | m a=>simp[jY] at e
 | d d =>
  cases d with
  | list ds =>
   simp only[jY] at e;cases e;simp only[aG,aC] at r;obtain⟨a,vs,e1,hs,ra⟩:=r;refine .inl ⟨a,vs,e1,hs.sq,k _ H1 _ M1 kp m ?_ q⟩;intro H2 kp2 i;have hl:=ra.length;have hs2:=(hs.keep kp2).sq;refine⟨λ hi=>?_,λ hi=>⟨vs,hs2,by rw[List.length_map] at hi;omega⟩,λ x H' hi y=>?_⟩
   ·rw[List.length_map] at hi;exact⟨vs,vs[i]'(by omega),hs2,by simp⟩
   ·obtain⟨e,y⟩:=y;subst e;have ev:=y vs hs2;obtain⟨d,e1,rd⟩:=(ra.keep kp2).get' ev;exact⟨Kp.refl _,λ M m=>m,.d d,by simp[e1],rd⟩
  | tuple ds =>
   simp only[jY] at e;cases e;simp only[aG,aC] at r;obtain⟨a,vs,e1,hs,ra⟩:=r;exact .inr (.inl ⟨a,vs,e1,hs,k _ H1 _ M1 kp m (acS hs ra) q⟩)
  | str z =>
   simp only[jY] at e;cases e;simp only[aG,aC] at r;exact .inr (.inr ⟨z,r,k _ H1 _ M1 kp m (aeY z) q⟩)
  | _=>simp[jY] at e
def jQ(lo:Int)(n:Nat):List W:=(List.range n).map λ i:Nat=>W.d (.int (lo+(i:Int)))
def sY(ta:TAd)(τ:DS)(M:MH)(R:List W->MH->Prop):Prop:=ta τ M λ ws M1=>∃ j:Int,ws=[.d (.int j)]/\-(2 ^ 62)<=j/\j<2 ^ 62/\R (jQ 0 j.toNat) M1
theorem cK(r:ba K H [w] vs):∃ v,vs=[v]/\aG K H w v:=by
 cases r with
 | cons r1 r2=>cases r2;exact⟨_,rfl,r1⟩
theorem mw(r:ba K H [w,w'] vs):∃ v v',vs=[v,v']/\aG K H w v/\aG K H w' v':=by
 cases r with
 | cons r1 r2 =>
  cases r2 with
  | cons r3 r4=>cases r4;exact⟨_,_,rfl,r1,r3⟩
theorem vf(hg:Gl X "range")(hm:X.mg "range" = none)(ha:PAd X [a] ta)(hs:starEach [a] X.env=[(false,eval a X.env)]:=by rfl):PId X tg (.Call (.Name "range" p) [a] [] pos) (sY ta):=
 afc (xV hg hm ha hs) λ σ H R ⟨τ,M,Rd,A,h,k⟩=>⟨τ,M,_,A,h,λ vs H1 ws M1 kp r m hq51=>by obtain⟨j,e,h1,h2,q⟩:=hq51;subst e;obtain⟨v,e1,r1⟩:=cK r;simp only[aG,aC] at r1;subst r1;exact⟨j,e1,h1,h2,k _ H1 _ M1 kp m (adT 0 j.toNat) q⟩⟩
def yP(di:TId)(g:TGd)(tb:TSd)(D:Ed)(τ:DS)(M:MH):Prop:=di τ M λ ws M1=>∃ P:Nat->DS->MH->Prop,P 0 τ M1 /\
 (∀ i w τ M,ws[i]? =some w->P i τ M->g w τ M λ τ2 M2=>tb {D with nx:=P (i+1),ct:=P (i+1),bk:=D.nx} τ2 M2)/\∀ τ M,P ws.length τ M->D.nx τ M
theorem ady(hp:PassesOwn (model X.prog X.w) X.A X.env X.xe)(hc:X.calm=true)(hi:PId X tg iter di)(hg:PGd X tg g)(hb:lO X body tb)
  (hs:∀ x,foldedSetIterable iter X.env x=pure x:=by intro _;rfl):PSd X (.For tg iter body [] pos) (yP di g tb):=aaa (ahb hp hc hi hg hb hs) λ D σ H hq52=>by
 obtain⟨τ,M,Dd,A,h,k1,k2,k3,k4⟩:=hq52;refine⟨τ,M,_,A,h,λ J H1 ws M1 kp m1 it hq53=>?_⟩;obtain⟨P,p0,pt,pe⟩:=hq53;refine⟨λ i n σ H'=>n=ws.length-i/\i<=ws.length/\Kp H1 H'/\∃ τ M,Abs X.K H' σ τ M/\P i τ M,⟨ws.length,by simp,Nat.zero_le _,Kp.refl _,τ,M1,A.go kp m1,p0⟩,?_⟩;rintro i n σ2 H2 ⟨rfl,hi,kp2,τ2,M2,A2,p2⟩;obtain⟨go,stop,yld⟩:=it H2 kp2 i
 by_cases hlt:i<ws.length
 ·refine .inr ⟨go hlt,λ σ3 H3=>Kp H2 H3/\∃ τ M,Abs X.K H3 σ3 τ M/\P (i+1) τ M,λ σ3 H3 ⟨kp3,τ3,M3,A3,p3⟩=>⟨ws.length-(i+1),by omega,rfl,hlt,kp2.trans kp3,τ3,M3,A3,p3⟩,λ x H3 y=>?_⟩;obtain⟨kp3,mk,w,ew,rw⟩:=yld x H3 hlt y;refine⟨w,τ2,M2,_,rw,A2.go kp3 (mk _ A2.mem),pt i w τ2 M2 ew p2,λ σ4 H4 τ4 M4 kp4 A4 q4=>?_⟩;have kq:=kp3.trans kp4;have kr:=(kp.trans kp2).trans kq;exact⟨τ4,M4,_,A4,q4,λ σ5 H5 τ5 M5 kp5 A5 q5=>⟨kq.trans kp5,τ5,M5,A5,q5⟩,λ v H5 w M5 kp5=>k2 v H5 w M5 (kr.trans kp5),λ σ5 H5 τ5 M5 kp5=>k1 σ5 H5 τ5 M5 (kr.trans kp5),λ σ5 H5 τ5 M5 kp5 A5 q5=>⟨kq.trans kp5,τ5,M5,A5,q5⟩⟩
 ·have hl:i=ws.length:=by omega
  subst hl;exact .inl ⟨stop (Nat.le_refl _),k1 σ2 H2 τ2 M2 (kp.trans kp2) A2 (pe τ2 M2 p2)⟩
def afb(k:Nat)(fr:List Nat)(τ:DS):DS:=List.replicate k none++fr.map λ j=>(τ[j]?).getD none
theorem ago(A:Abs K H σ τ M)(k:Nat)(fr:List Nat):Abs K H (lcS k fr σ) (afb k fr τ) M:=by
 refine⟨by simp[lcS,afb],λ i w e=>?_,A.mem⟩;unfold afb at e
 by_cases hi:i<k
 ·rw[List.getElem?_append_left (by simpa using hi),List.getElem?_replicate] at e
  split at e<;>cases e
 ·rw[List.getElem?_append_right (by simpa using hi),List.getElem?_map,List.length_replicate] at e;cases q:fr[i-k]? with
  | none=>rw[q] at e;cases e
  | some j =>
   rw[q] at e;have e':(τ[j]?).getD none=some w:=Option.some.inj e;have e2:τ[j]? =some (some w):=by
    cases z:τ[j]? with
    | none=>rw[z] at e';cases e'
    | some o=>rw[z] at e';exact congrArg some e'
   obtain⟨v,q1,r⟩:=A.val j w e2;refine⟨v,?_,r⟩;unfold lcS;rw[List.getElem?_append_right (by simpa using hi),List.getElem?_map,List.length_replicate,q];simp[q1]
def dLC(di:TId)(g:TGd)(tt:TTd)(te:TD)(k:Nat)(fr:List Nat)(τ:DS)(M:MH)(Q:QD):Prop:=di τ M λ ws M1=>∃ P:Nat->List PyData->DS->MH->Prop,P 0 [] (afb k fr τ) M1 /\
 (∀ i w acc τ M,ws[i]? =some w->P i acc τ M->acc.length<sizeLine/\g w τ M λ τ2 M2=>tt τ2 M2 λ b M3=>if b=true then te τ2 M3 λ y M4=>∃ d,y=.d d/\P (i+1) (acc++[d]) τ2 M4 else P (i+1) acc τ2 M3) /\
 ∀ acc τ M,P ws.length acc τ M->Q (.d (.list acc)) M
theorem ab0(h:up K (dLC di g tt te k fr) σ H Q) :
  aje (tLC (upI K di) (upG K g) (upT K tt) (up K te) k fr) σ H Q:=by
 obtain⟨τ,M,Qd,A,h,kk⟩:=h;refine⟨τ,M,_,A,h,λ J H1 ws M1 kp m1 it hq54=>?_⟩;obtain⟨P,p0,pt,pe⟩:=hq54;refine⟨λ i n ys σ' H'=>n=ws.length-i/\i<=ws.length/\Kp H1 H'/\∃ acc τ M,bo K H' acc ys/\Abs K H' σ' τ M/\P i acc τ M,⟨ws.length,by simp,Nat.zero_le _,Kp.refl _,[],_,M1,by simp[bo],ago (A.go kp m1) k fr,p0⟩,?_⟩;rintro i n ys σ2 H2 ⟨rfl,hi,kp2,acc,τ2,M2,ra,A2,p2⟩;obtain⟨go,stop,yld⟩:=it H2 kp2 i
 by_cases hlt:i<ws.length
 ·have hlen:=ra.length;refine .inr ⟨go hlt,?_,λ x H3 y=>?_⟩
  ·obtain⟨w,hw⟩:∃ w,ws[i]? =some w:=⟨ws[i],by simp[hlt]⟩;have:=(pt i w acc τ2 M2 hw p2).1;omega
  obtain⟨kp3,mk,w,ew,rw⟩:=yld x H3 hlt y;refine⟨w,τ2,M2,_,rw,A2.go kp3 (mk _ A2.mem),(pt i w acc τ2 M2 ew p2).2,λ σ4 H4 τ4 M4 kp4 A4 q4=>⟨τ4,M4,_,A4,q4,λ b H5 M5 kp5 m5 q5=>?_⟩⟩;have kq:=(kp3.trans kp4).trans kp5;cases b with
  | false =>
   rw[if_neg Bool.false_ne_true] at q5;show(if false=true then _ else _);rw[if_neg Bool.false_ne_true];exact⟨ws.length-(i+1),by omega,rfl,hlt,kp2.trans kq,acc,τ4,M5,ra.keep kq,A4.go kp5 m5,q5⟩
  | true =>
   rw[if_pos rfl] at q5;show(if true=true then _ else _);rw[if_pos rfl];refine⟨τ4,M5,_,A4.go kp5 m5,q5,λ v H6 wv M6 kp6 r6 m6 hq55=>?_⟩;obtain⟨d,e6,q6⟩:=hq55;subst e6;refine⟨ws.length-(i+1),by omega,rfl,hlt,kp2.trans (kq.trans kp6),acc++[d],τ4,M6,bo.append (ra.keep (kq.trans kp6)) ?_,A4.go (kp5.trans kp6) m6,q6⟩;simp only[bo];exact⟨v,[],rfl,r6,rfl⟩
 ·have hl:i=ws.length:=by omega
  subst hl;exact .inl ⟨stop (Nat.le_refl _),λ p hp=>kQ hp ra A2.mem (pe acc τ2 M2 p2) (kgo kk (kp.trans kp2))⟩
section
variable {sc:Scope}{own:List Str}{fr:List Nat}{elt iter:Expr}{ifs:List Expr}{pos:Pos}{di:TId}{g:TGd}{tt:TTd}{te:TD}
abbrev ahg(X:Cx)(ifs:List Expr)(t:TTd):Prop:=PTs X ifs (upT X.K t)
def pb(_:DS)(M:MH)(Q:Bool->MH->Prop):Prop:=Q true M
theorem ah4(hc:X.calm=true)(L:xT X sc own fr)(hi:PId X tg iter di)
  (hg:∀ cl C s H ex pl,PGd (blk X sc (lcN X own fr) cl C s H ex pl) tg g)(ht:∀ cl C s H ex pl,ahg (blk X sc (lcN X own fr) cl C s H ex pl) ifs tt)(he:∀ cl C s H ex pl,PD (blk X sc (lcN X own fr) cl C s H ex pl) elt te)
  (hs:∀ x,foldedSetIterable iter X.env x=pure x:=by intro _;rfl):PD X (.ListComp elt [⟨tg,iter,ifs,0⟩] sc pos) (dLC di g tt te own.length fr):=
 fx (j6 (aif hc L hi hg ht he hs)) λ σ H Q h=>ab0 h
theorem ahn{st:Stmt}{t:TS}(h:PS X st t):PS X st (λ D σ H=>t {D with nx:=λ σ' H'=>∃ p u,H' p=some u/\Fz u/\∀ o,D.nx σ' (upd H' p (.frz o u))} σ H):=by
 intro pins s σ H D I hq;refine thn (h pins s σ H _ I hq) λ f s1 q=>?_;cases f with
 | next =>
  obtain⟨σ',H',I',p,u,e,fz,q⟩:=q;obtain⟨o,I2⟩:=I'.freeze e fz;exact⟨σ',_,I2,q o⟩
 | brk=>exact q
 | cont=>exact q
 | ret v=>exact q
theorem yQ{i:Nat}{pos' spos:Pos}(hN:X.N.Nodup)(hi':X.N[i]? =some x)(hx:Loc X.env.scope x)(hc:X.calm=true)(L:xT X sc own fr)(hi:PId X tg iter di)
  (hg:∀ cl C s H ex pl,PGd (blk X sc (lcN X own fr) cl C s H ex pl) tg g)(ht:∀ cl C s H ex pl,ahg (blk X sc (lcN X own fr) cl C s H ex pl) ifs tt)(he:∀ cl C s H ex pl,PD (blk X sc (lcN X own fr) cl C s H ex pl) elt te)
  (hsw:swapsWith (.ListComp elt [⟨tg,iter,ifs,0⟩] sc pos) (some (.Name x pos')) spos.line X.env=pure true:=by rfl)
  (hs:∀ x,foldedSetIterable iter X.env x=pure x:=by intro _;rfl)(hf:X.fn x=true\/X.env.scope.names.lookup x=some .local:=by first | exact .inl rfl | exact .inr rfl | assumption) :
  PSd X (.Assign [.Name x pos'] (.ListComp elt [⟨tg,iter,ifs,0⟩] sc pos) spos) (cv (dLC di g tt te own.length fr) (gN i)):=aaa (ahn (aao hN hi' hx hc L hi hg ht he hsw hs hf)) λ D σ H hq56=>by
 obtain⟨τ,M,Dd,A,h,k1,_⟩:=hq56;have z:up X.K (dLC di g tt te own.length fr) σ H (λ v H'=>D.nx (σ.set i (some v)) H'):=⟨τ,M,_,A,h,λ v H1 w M1 kp r m q=>k1 _ H1 _ M1 kp ((A.go kp m).set i r) q⟩;obtain⟨τ',M',R',A',h',k'⟩:=ab0 z;refine⟨τ',M',R',A',h',λ J H1 ws M1 kp m1 it q=>?_⟩;obtain⟨W,w0,st⟩:=k' J H1 ws M1 kp m1 it q;refine⟨W,w0,λ i m ys τ H w=>?_⟩;rcases st i m ys τ H w with ⟨s1,s2⟩ | r
 ·refine .inl ⟨s1,λ p hp=>?_⟩;obtain⟨p',u,e1,e2,f,q⟩:=s2 p hp;cases e1;exact⟨p,u,e2,f,q⟩
 ·exact .inr r
end
end
section
variable {X:Cx}{K:FG}
def agv(ws:List W)(M:MH)(Q:QD):Prop:=∃ i:Int,ws=[.d (.int i)]/\Q (.d (.int (if i<0 then -i else i))) M
theorem ag6:fH K (λ xs H Q=>∃ i,xs=[.int i]/\Q (.int (if i<0 then -i else i)) H) agv:=by intro vs H ws M Qd Q r m ⟨i,e,q⟩ k;subst e;obtain⟨v,e1,r1⟩:=cK r;simp only[aG,aC] at r1;subst r1;exact⟨i,e1,k _ H (.d (.int _)) M (Kp.refl H) (by simp[aG,aC]) m q⟩
def wg(M:MH):W->Option Nat
 | .d (.list ds)=>some ds.length
 | .d (.tuple ds)=>some ds.length
 | .d (.str z)=>some z.length
 | .m a=>match M a with
  | some (.lst ws)=>some ws.length
  | _=>none
 | _=>none
def dJ(ws:List W)(M:MH)(Q:QD):Prop:=∃ w n,ws=[w]/\wg M w=some n/\u3 w=true/\Q (.d (.int (n:Nat))) M
theorem cw:fH K (λ xs H Q=>∃ x n,xs=[x]/\ajd K x H n/\Q (.int n) H) dJ:=by
 intro vs H ws M Qd Q r m ⟨w,n,e,hn,hf,q⟩ k;subst e;obtain⟨v,e1,r1⟩:=cK r;refine⟨v,n,e1,?_,k _ H (.d (.int _)) M (Kp.refl H) (by simp[aG,aC]) m q⟩;cases w with
 | t _=>simp[wg] at hn
 | m a =>
  simp only[aG] at r1;subst r1;simp only[wg] at hn;cases hm:M a with
  | none=>rw[hm] at hn;cases hn
  | some mo =>
   rw[hm] at hn;cases mo with
   | lst l=>cases hn;obtain⟨us,e2,rw1⟩:=m a _ hm;exact .inl ⟨us,SqL.of e2,rw1.length⟩
   | dic _=>cases hn
   | dct _=>cases hn
   | fdic _=>cases hn
   | ins _ _=>cases hn
   | tup _=>cases hn
   | flst _=>cases hn
   | exc _ _=>cases hn
   | code _ _=>cases hn
 | d d =>
  cases d with
  | list ds=>simp only[wg] at hn;cases hn;simp only[aG,aC] at r1;obtain⟨a,us,e2,hs,ra⟩:=r1;subst e2;exact .inl ⟨us,hs.sq,ra.length.symm⟩
  | tuple ds=>simp only[wg] at hn;cases hn;simp only[aG,aC] at r1;obtain⟨a,us,e2,hs,ra⟩:=r1;subst e2;exact .inr ⟨us,hs,ra.length.symm⟩
  | str z=>simp only[wg] at hn;cases hn;simp only[aG,aC] at r1;subst r1;exact⟨of_decide_eq_true hf,rfl⟩
  | _=>simp[wg] at hn
def vV(ws:List W)(M:MH)(Q:QD):Prop:=∃ bs:List Bool,ws=[.d (.list (bs.map PyData.bool))]/\Q (.d (.bool (bs.all id))) M
theorem uw:fH K (λ xs H Q=>∃ (x:V) (bs:List Bool),xs=[x]/\aC K H (.list (bs.map PyData.bool)) x/\Q (.bl (bs.all id)) H) vV:=by intro vs H ws M Qd Q r m ⟨bs,e,q⟩ k;subst e;obtain⟨v,e1,r1⟩:=cK r;exact⟨v,bs,e1,r1,k _ H (.d (.bool _)) M (Kp.refl H) (by simp[aG,aC]) m q⟩
theorem uT:∀ {ys:List Str} {vs:List V} {us:List Value},bo K H (ys.map PyData.str) vs->Vals vs us->StrsAre us ys
 | [],vs,us,h,r=>by simp only[List.map_nil,bo] at h;subst h;cases r;exact .nil
 | y::ys,vs,us,h,r=>by
  simp only[List.map_cons,bo] at h;obtain⟨v,vr,e,h1,h2⟩:=h;subst e;simp only[aC] at h1;subst h1;cases r with
  | cons r1 r2 =>
   obtain⟨t,e⟩:=(show ∃ t,_=Value.str y t from r1);subst e;exact .cons _ _ (uT h2 r2)
def MtD(K:FG)(r:V->List V->Hp->VK->Prop)(rd:W->List W->MH->QD->Prop):Prop:=∀ x vs H w ws M Qd Q,aG K H w x->ba K H ws vs->cH K H M->rd w ws M Qd->Kont K H Qd Q->r x vs H Q
def dMS(rd:W->List W->MH->QD->Prop)(to:TD)(t:TAd)(τ:DS)(M:MH)(Q:QD):Prop:=to τ M λ w M1=>(∃ z,w=.d (.str z))/\t τ M1 λ ws M2=>rd w ws M2 Q
theorem aeP{o e:Expr}{to:TD}{t:TAd}{name:Str}{apos cpos:Pos}{id:String}{r:V->List V->Hp->VK->Prop}{rd:W->List W->MH->QD->Prop}(slot:Slot "str" name id)(hty:typeOf (.builtin id)=pure (.type "method_descriptor"))(hm:MtR X id r)(hd:MtD X.K r rd)(ho:PD X o to)(ha:PAd X (e::es) t)
  (hbase:attributeBase o name X.env (eval o X.env)=eval o X.env:=by rfl)
  (hfew:((backTo cpos (starEach (e::es) X.env)).all (λ x=>!x.1)&&(backToKw cpos (keywordEach [] X.env)).all (λ x=>x.1.isSome)
   && decide ((e::es).length+([]:List Keyword).length+(if ([]:List Keyword).isEmpty then 0 else 1)<30))=true:=by rfl)
  (hline:(apos.endLine==cpos.line)=true:=by rfl)(hs:starEach (e::es) X.env=(false,eval e X.env)::starEach es X.env:=by rfl)(hplain:(backTo cpos (starEach es X.env)).any (·.1)=false:=by rfl) :
  PD X (.Call (.Attribute o name apos) (e::es) [] cpos) (dMS rd to t):=fx (qd PySem.F.plainAttrs_str slot hty hm ho ha hbase hfew hline hs hplain) λ σ H Q hq57=>by
 obtain⟨τ,M,Qd,A,h,k⟩:=hq57;refine⟨τ,M,_,A,h,λ x H1 w M1 kp1 r1 m1 hq58=>?_⟩;obtain⟨⟨z,ez⟩,q1⟩:=hq58;subst ez;have r1':=r1;simp only[aG,aC] at r1';subst r1';exact⟨rfl,τ,M1,_,A.go kp1 m1,q1,λ vs H2 ws M2 kp2 r2 m2 q2=>hd _ vs H2 _ ws M2 Qd Q (r1.keep kp2) r2 m2 q2 (kgo k (kp1.trans kp2))⟩
def rJoin(K:FG):V->List V->Hp->VK->Prop:=λ x vs H Q=>∃ (sep:Str) (v:V) (ys:List Str),x=.str sep/\vs=[v]/\aC K H (.list (ys.map PyData.str)) v/\(ys.map (·.length)).sum+ys.length * sep.length<=16777216/\Q (.str (Txt.join sep ys)) H
theorem aeb:MtR X "str.join" (rJoin X.K):=by intro pins s σ H x vs v us Q I rx rv h;obtain⟨sep,y,ys,rfl,rfl,rd,hz,q⟩:=h;obtain⟨t,rfl⟩:=rx;obtain⟨u,rfl,ru⟩:=vals1 rv;simp only[aC] at rd;obtain⟨a,xs,e,hs,ra⟩:=rd;subst e;cases (show u=Value.ref a from ru);obtain⟨its,r,pl,hz'⟩:=I.list hs.sq;exact join_list pl.isList (by simpa using uT ra r) hz λ t' k=>⟨.str _,H,I.tok _,⟨_,rfl⟩,q⟩
def ie(w:W)(ws:List W)(M:MH)(Q:QD):Prop:=∃ (sep:Str) (ys:List Str),w=.d (.str sep)/\ws=[.d (.list (ys.map PyData.str))]/\(ys.map (·.length)).sum+ys.length * sep.length<=16777216/\Q (.d (.str (Txt.join sep ys))) M
theorem adB:MtD K (rJoin K) ie:=by intro x vs H w ws M Qd Q r1 r2 m ⟨sep,ys,e1,e2,hz,q⟩ k;subst e1;subst e2;obtain⟨v,e3,r3⟩:=cK r2;simp only[aG,aC] at r1;exact⟨sep,v,ys,r1,e3,r3,hz,k _ H (.d (.str _)) M (Kp.refl H) (by simp[aG,aC]) m q⟩
theorem adv(ho:PD X o to)(ha:PD X e te)
  (hbase:attributeBase o "join" X.env (eval o X.env)=eval o X.env:=by rfl)(hs:starEach [e] X.env=[(false,eval e X.env)]:=by rfl)
  (hfew:((backTo cpos (starEach [e] X.env)).all (λ x=>!x.1)&&(backToKw cpos (keywordEach [] X.env)).all (λ x=>x.1.isSome)
   && decide (([e]:List Expr).length+([]:List Keyword).length+(if ([]:List Keyword).isEmpty then 0 else 1)<30))=true:=by rfl)
  (hline:(apos.endLine==cpos.line)=true:=by rfl) :
  PD X (.Call (.Attribute o "join" apos) [e] [] cpos) (dMS ie to (af te aF)):=aeP PySem.F.slot_str_join PySem.F.type_str_join aeb adB ho (jE ha fh hs) hbase hfew hline hs
def ab4(_:DS)(M:MH)(Q:QD):Prop:=Q (.d (.dict [])) M
def uJ:List (TD×TD)->DS->MH->(List (W×W)->MH->Prop)->Prop
 | [],_,M,Q=>Q [] M
 | (tk,tv)::r,τ,M,Q=>tk τ M λ x M1=>tv τ M1 λ y M2=>uJ r τ M2 λ ps M3=>Q ((x,y)::ps) M3
theorem jZ:∀ {trs:List (TD×TD)} {σ:St} {H:Hp} {τ:DS} {M:MH} {Qd:List (W×W)->MH->Prop} {Q:List (V×V)->Hp->Prop},Abs K H σ τ M->uJ trs τ M Qd ->
  (∀ ps H' ws M',Kp H H'->Paired (λ(p:W×W) (q:V×V)=>aG K H' p.1 q.1/\aG K H' p.2 q.2) ws ps->cH K H' M'->Qd ws M'->Q ps H')->uR (trs.map λ p=>(up K p.1,up K p.2)) σ H Q
 | [],σ,H,τ,M,Qd,Q,A,h,k=>k [] H [] M (Kp.refl H) .nil A.mem h
 | (tk,tv)::r,σ,H,τ,M,Qd,Q,A,h,k=>by show(up K tk) σ H _;refine⟨τ,M,_,A,h,λ x H1 w M1 kp1 r1 m1 q1=>⟨τ,M1,_,A.go kp1 m1,q1,λ y H2 w' M2 kp2 r2 m2 q2=>?_⟩⟩;refine jZ (A.go (kp1.trans kp2) m2) q2 λ ps H3 ws M3 kp3 r3 m3 q3=>?_;exact k _ H3 _ M3 ((kp1.trans kp2).trans kp3) (.cons ⟨r1.keep (kp2.trans kp3),r2.keep kp3⟩ r3) m3 q3
def aeq(trs:List (TD×TD))(τ:DS)(M:MH)(Q:QD):Prop:=∀ p,M p=none->uJ trs τ (cn M p (.dic [])) λ ps M2=>M2=cn M p (.dic [])/\∃ kvs:List (Key×PyData),ps=kvs.map (λ q=>(W.d (pq q.1),W.d q.2))/\kvs.length<=15/\(kvs.map (·.1)).Nodup /\
 Q (.d (.dict (kvs.map λ q=>(pq q.1,q.2)))) M
theorem gE:∀ {more kvs:List (Key×V)},((kvs++more).map (·.1)).Nodup->fT kvs more=kvs++more
 | [],kvs,_=>by simp[fT]
 | p::r,kvs,h=>by
  have hn:lZ kvs p.1=none:=by
   cases e:lZ kvs p.1 with
   | none=>rfl
   | some v =>
    have q:(kvs.any λ kv=>decide (kv.1=p.1))=true:=by rw[nV,e];rfl
    obtain⟨z,hz,ez⟩:=List.any_eq_true.mp q;rw[List.map_append,List.nodup_append] at h;exact absurd (of_decide_eq_true ez) (h.2.2 _ (List.mem_map_of_mem hz) _ (by simp))
  show fT (putK kvs p.1 p.2) r=_;rw[aaX _ hn,gE (by simpa using h)];simp
theorem sL(r:aC K H (pq key) v):v=kV key:=by
 cases key<;>(simp only[pq,aC] at r;exact r)
theorem rl:∀ {kvs:List (Key×PyData)} {ps:List (V×V)},Paired (λ(p:W×W) (q:V×V)=>aG K H p.1 q.1/\aG K H p.2 q.2) (kvs.map λ q=>(W.d (pq q.1),W.d q.2)) ps ->
  ∃ l:List (Key×V),ps=l.map (λ kv=>(kV kv.1,kv.2))/\l.map (·.1)=kvs.map (·.1)/\jb K H (kvs.map λ q=>(pq q.1,q.2)) l
 | [],ps,h=>by cases h;exact⟨[],rfl,rfl,by simp[jb]⟩
 | (k,d)::kvs,ps,h=>by
  cases h with
  | cons r t =>
   rename_i q qs
   obtain⟨x,y⟩:=q;obtain⟨l,e1,e2,e3⟩:=rl t;refine⟨(k,y)::l,?_,by simp[e2],?_⟩
   ·rw[List.map_cons,<- e1,<- sL r.1]
   ·simp only[List.map_cons,jb];exact⟨k,y,l,rfl,rfl,r.2,e3⟩
theorem aeR(h:PPs X pos keys values (trs.map λ p=>(up X.K p.1,up X.K p.2)))(hall:keys.all (·.isSome)=true:=by rfl)(hl:keys.length=values.length:=by rfl)(h0:keys≠[]:=by simp)
  (h15:keys.length<=15:=by decide):PD X (.Dict keys values pos) (aeq trs):=fx (j6 (yJ h hall hl h0 h15)) λ σ H Q ⟨τ,M,Qd,A,q,k⟩=>λ p hp=>by
 have kp0:Kp H (upd H p (.dK [])):=Kp.new hp;have m0:cH X.K (upd H p (.dK [])) (cn M p (.dic [])):=A.mem.put (mo:=.dic []) kp0 ⟨[],ar,.nil⟩;have hM:=A.mem.free hp;refine jZ (A.go kp0 m0) (q p hM) λ ps H2 ws M2 kp2 r2 m2 hq59=>?_;obtain⟨eM,kvs,ews,hlen,hnd,qq⟩:=hq59;subst eM;subst ews;obtain⟨l0,e0,pr0⟩:=m2 p _ aA;have el0:l0=[]:=by cases pr0;rfl
 subst el0;obtain⟨l,e1,e2,e3⟩:=rl r2;have elen:l.length=kvs.length:=by
  have:=congrArg List.length e2
  simpa using this
 refine⟨e0,l,e1,by omega,p,_,rfl,ar,trivial,λ o=>?_⟩;have em:fT [] l=l:=by rw[gE (by simpa [e2] using hnd)];rfl
 rw[sD,em];have kp3:Kp H2 (upd H2 p (.frz o (.dK l))):=Kp.set e0 (λ xs z=>nomatch z) λ _ _ z=>nomatch z;refine k _ _ (.d (.dict _)) M ((kp0.trans kp2).trans kp3) ?_ (λ a mo hm=>?_) qq
 ·simp only[aG,aC];exact⟨p,o,l,rfl,ar,e3.keep kp3⟩
 ·have hne:a≠p:=λ z=>by rw[z,hM] at hm;cases hm
  exact(m2 a mo (by rw[aR hne];exact hm)).keep kp3 λ u z=>by rw[aq hne];exact z
end
structure Fn(K:FG)(mg:Str->Option Value)(x:Str)(st:Stmt)(ps:List Str)(f:Addr)(fd:FuncData):Prop where
 fn:Fun K x x st f fd
 mg:mg x=some (.ref f)
 bd:Binds K fd ps []
section
variable {K:FG}{mg:Str->Option Value}{h:Heap}
theorem zu{st:Stmt}{ps:List Str}{oc:Value}{od an:Option Addr}{osl:Array (Option Value)}{kV doc pm cdv ct:Value}(X:K.In h)(G:h.Ns mainGlobals mg)(a:W.nsIn K mainGlobals x=some (some (.ref f)))
  (l:K.lookup f=some ⟨oc,od,.func (W.fnOf x x (bS st) (bj st) (ao st) .none kV doc pm an cdv ct),osl⟩)(c:W.codeIn K cdv x=true)(k:W.keepIn K (.ref f)=true)
  (b:∀ (kV doc pm:Value) (an:Option Addr) (cdv ct:Value) (us:List Value),us.length=ps.length->bindArgs (W.fnOf x x (bS st) (bj st) (ao st) .none kV doc pm an cdv ct) ⟨us,[]⟩=pure (ps.zip us)) :
  Fn K mg x st ps f (W.fnOf x x (bS st) (bj st) (ao st) .none kV doc pm an cdv ct):=
 have F:=acD (st:=st) l c k
 ⟨F,W.mg_of X G a,F.binds b⟩
end
def afQ(sc scX:Scope)(N:List Str)(fr:List Nat):Bool:=
 (sc.kind==.function)&&sc.names.all (λ y=>!(y.2==.cell))&&sc.names.all (λ y=>!(y.2==.free) || scX.names.lookup y.1==some .cell || scX.names.lookup y.1==some .free) &&
  sc.names.all (λ y=>!(y.2==.local) || sc.names.lookup y.1==some .local)&&aiS N sc fr
theorem tX(h:afQ sc X.env.scope X.N fr=true):xT X sc own fr:=by
 simp only[afQ,Bool.and_eq_true] at h;obtain⟨⟨⟨⟨h1,h2⟩,h3⟩,h4⟩,h5⟩:=h;refine⟨eq_of_beq h1,λ y hy e=>?_,λ y hy e=>?_,λ y hy e=>?_,h5⟩
 ·have:=List.all_eq_true.mp h2 y hy;simp[e] at this
 ·have:=List.all_eq_true.mp h3 y hy;simp only[e,beq_self_eq_true,Bool.not_true,Bool.false_or,Bool.or_eq_true] at this;rcases this with z | z
  ·exact .inl (eq_of_beq z)
  ·exact .inr (eq_of_beq z)
 ·have:=List.all_eq_true.mp h4 y hy;simp only[e,beq_self_eq_true,Bool.not_true,Bool.false_or] at this;exact eq_of_beq this
theorem xJ:bootBuiltins "int" = some (.type "int"):=by decide +kernel
theorem gC:bootBuiltins "str" = some (.type "str"):=by decide +kernel
theorem yT:bootBuiltins "bool" = some (.type "bool"):=by decide +kernel
theorem zT:bootBuiltins "list" = some (.type "list"):=by decide +kernel
theorem gJ:bootBuiltins "tuple" = some (.type "tuple"):=by decide +kernel
theorem cz:bootBuiltins "len" = some (.builtin "len"):=by decide +kernel
theorem ahi:bootBuiltins "abs" = some (.builtin "abs"):=by decide +kernel
theorem iQ:bootBuiltins "repr" = some (.builtin "repr"):=by decide +kernel
theorem ug:bootBuiltins "all" = some (.builtin "all"):=by decide +kernel
theorem aL:bootBuiltins "isinstance" = some (.builtin "isinstance"):=by decide +kernel
def dZ:Expr->Bool
 | .Starred ..=>true
 | _=>false
theorem bH(e:Expr)(es:List Expr)(env:PySem.Env)(h:dZ e=false):starEach (e::es) env=(false,eval e env)::starEach es env:=by
 cases e<;>first | rfl | (exact absurd h (by simp[dZ]))
theorem cL(pos:Pos)(env:PySem.Env):∀ es:List Expr,(es.all λ e=>!dZ e)=true->(backTo pos (starEach es env)).any (·.1)=false
 | [],_=>rfl
 | e::es,h=>by rw[List.all_cons,Bool.and_eq_true,Bool.not_eq_true'] at h;rw[bH e es env h.1];show(false || (backTo pos (starEach es env)).any (·.1))=false;rw[cL pos env es h.2];rfl
section
variable {X:Cx}{pos p:Pos}{e:Expr}{es:List Expr}{te:TD}{t:TAd}{x:Str}{id T:String}{r:List V->Hp->VK->Prop}{rd:List W->MH->QD->Prop}{k:Nat}{f:Addr}{fd:FuncData}{ps:List Str}{sp:SpD}
theorem pac(ha:PD X e te)(hr:PAd X es t)(h:dZ e=false:=by rfl):PAd X (e::es) (af te t):=jE ha hr (bH e es X.env h)
theorem pcB(hc:eU X (.builtin id) r)(hd:fH X.K r rd)(hg:Gl X x)(hm:X.mg x=none)(hv:bootBuiltins x=some (.builtin id))(ha:PAd X (e::es) t)(hn:x ≠ "__name__":= by decide)(hdb:ND x:=by decide)
  (h1:dZ e=false:=by rfl)(h2:(es.all λ e=>!dZ e)=true:=by rfl):PD X (.Call (.Name x p) (e::es) [] pos) (dCB rd t):=abd hc hd hg hm hv ha hn hdb (bH e es X.env h1) (cL pos X.env es h2)
theorem pcF(F:cQ X.prog X.w X.K X.mg X.base CX0 k f fd ps (eX X.K sp))(hr:fO k X.A)(hg:Gl X x)(hm:X.mg x=some (.ref f))(hk:W.keepIn X.K (.ref f)=true)(hb:Binds X.K fd ps [])
  (ha:PAd X (e::es) t)(hdb:ND x:=by decide)(h1:dZ e=false:=by rfl)(h2:(es.all λ e=>!dZ e)=true:=by rfl) :
  PD X (.Call (.Name x p) (e::es) [] pos) (aU sp t):=ad0 F hr hg hm hk hb ha hdb (bH e es X.env h1) (cL pos X.env es h2)
end
structure Jd(p:Prop):Prop where
 h:p
abbrev pm(K:FG)(p:TD×TD):TE×TE:=(up K p.1,up K p.2)
section
variable {X:Cx}{pos:Pos}{a b c e:Expr}{ta tb tc te:TD}{K:FG}
theorem dvQ(i:Nat)(hN:X.N[i]? =some x:=by rfl)(hv:Vis X.env.scope x:=by first | exact Or.inl rfl | exact Or.inr (Or.inl rfl) | exact Or.inr (Or.inr rfl))(hd:ND x:=by decide)(hcd:(x==("__classdict__" : Str))=false:=by decide):Jd (PD X (.Name x pos) (aj i)):=⟨agm (xX hN hv hd hcd)⟩
theorem ah{i j pos}:Jd (PD X (.Constant (.int i) j pos) (dC (.d (.int i)))):=⟨abb aga λ H=>by simp[aG,aC]⟩
theorem fU{b j pos}:Jd (PD X (.Constant (.bool b) j pos) (dC (.d (.bool b)))):=⟨abb ai8 λ H=>by simp[aG,aC]⟩
theorem da{j pos}:Jd (PD X (.Constant .none j pos) (dC (.d .none))):=⟨abb agq λ H=>by simp[aG,aC]⟩
theorem ai{x j pos}:Jd (PD X (.Constant (.str x) j pos) (dC (.d (.str x)))):=⟨abb afK λ H=>by simp[aG,aC]⟩
theorem qL(hg:Gl X x)(hm:X.mg x=some (.int i t))(hd:ND x:=by decide):Jd (PD X (.Name x pos) (dC (.d (.int i)))):=⟨abb (fI (v:=.int i) hg hm ⟨t,rfl⟩ hd) λ H=>by simp[aG,aC]⟩
theorem zJ(hg:Gl X x)(hm:X.mg x=some (.str i t))(hd:ND x:=by decide):Jd (PD X (.Name x pos) (dC (.d (.str i)))):=⟨abb (fI (v:=.str i) hg hm ⟨t,rfl⟩ hd) λ H=>by simp[aG,aC]⟩
theorem bT(hg:Gl X x)(hm:X.mg x=none)(hv:bootBuiltins x=some (.type n))(hn:x ≠ "__name__":= by decide)(hd:ND x:=by decide):Jd (PD X (.Name x pos) (dC (.t n))):=⟨
 abb (zW (v:=.ty n) hg hm hv rfl hn hd) λ H=>by simp[aG]⟩
theorem aH(ho:OpR X (binaryOp op) r)(hd:OpD X.K r rd)(ha:Jd (PD X a ta))(hb:Jd (PD X b tb)):Jd (PD X (.BinOp a op b pos) (dOp rd ta tb)):=⟨D.ah3 (ho:=ho) (hd:=hd) (ha:=ha.h) (hb:=hb.h)⟩
theorem gu(ho:OpR X (compareOp op) r)(hd:OpD X.K r rd)(ha:Jd (PD X a ta))(hb:Jd (PD X b tb))(hm:behindInMarks op b=false:=by first | exact hB _ (by decide) (by decide) | rfl):Jd (PD X (.Compare a [op] [b] pos) (dOp rd ta tb)):=⟨D.ahh (ho:=ho) (hd:=hd) (ha:=ha.h) (hb:=hb.h) (hm:=hm)⟩
theorem aY(hr:IxR X r)(hd:OpD X.K r rd)(ha:Jd (PD X a ta))(hb:Jd (PD X b tb))(hs:sX b:=by intro _ _;rfl):Jd (PD X (.Subscript a b pos) (dOp rd ta tb)):=⟨D.aip (hr:=hr) (hd:=hd) (ha:=ha.h) (hb:=hb.h) (hs:=hs)⟩
theorem aw(ho:OpR X (compareOp op) r)(hd:OpD X.K r rd)(ha:Jd (PD X a ta))(hb:Jd (PD X b tb))(hm:behindInMarks op b=false:=by first | exact hB _ (by decide) (by decide) | rfl):Jd (PTd X (.Compare a [op] [b] pos) (aJ (dOp rd ta tb))):=⟨D.ad8 (ho:=ho) (hd:=hd) (ha:=ha.h) (hb:=hb.h) (hm:=hm)⟩
theorem bQ(h:Jd (PD X e te))(he:∀ whole,isTrue e X.env whole=(do let v <- whole;standAt e.pos;holding [v] (truthy v)):=by intro _;rfl):Jd (PTd X e (aJ te)):=⟨D.adX (h:=h.h) (he:=he)⟩
theorem lh(ho:OpR X (compareOp op) r)(hd:OpD X.K r rd)(ho':OpR X (compareOp op') r')(hd':OpD X.K r' rd')(ha:Jd (PD X a ta))(hb:Jd (PD X b tb))(hc:Jd (PD X c tc))(hm:lastMarks [op,op'] [b,c]=false:=by with_unfolding_all rfl):Jd (PD X (.Compare a [op,op'] [b,c] pos) (fq rd rd' ta tb tc)):=⟨D.aaL (ho:=ho) (hd:=hd) (ho':=ho') (hd':=hd') (ha:=ha.h) (hb:=hb.h) (hc:=hc.h) (hm:=hm)⟩
theorem mY(ho:OpR X (compareOp op) r)(hd:OpD X.K r rd)(ho':OpR X (compareOp op') r')(hd':OpD X.K r' rd')(ha:Jd (PD X a ta))(hb:Jd (PD X b tb))(hc:Jd (PD X c tc))(hm:lastMarks [op,op'] [b,c]=false:=by with_unfolding_all rfl):Jd (PTd X (.Compare a [op,op'] [b,c] pos) (aJ (fq rd rd' ta tb tc))):=⟨D.xh (ho:=ho) (hd:=hd) (ho':=ho') (hd':=hd') (ha:=ha.h) (hb:=hb.h) (hc:=hc.h) (hm:=hm)⟩
theorem p5(ho:UnR X (unaryOp op) r)(hd:UnD X.K r rd)(ha:Jd (PD X a ta)):Jd (PD X (.UnaryOp op a pos) (dUn rd ta)):=⟨D.aii (ho:=ho) (hd:=hd) (ha:=ha.h)⟩
variable {tA tB:TTd}{rest:List Expr}
theorem ib(ha:Jd (PTd X a tA)):Jd (PWd X (.BoolOp .And [a] pos) tA):=⟨D.abn (ha:=ha.h)⟩
theorem cM(ha:Jd (PTd X a tA)):Jd (PWd X (.BoolOp .Or [a] pos) tA):=⟨D.ad2 (ha:=ha.h)⟩
theorem jF(ha:Jd (PTd X a tA))(hb:Jd (PWd X (.BoolOp .And (b::rest) pos) tB)):Jd (PWd X (.BoolOp .And (a::b::rest) pos) (ae9 tA tB)):=⟨D.acT (ha:=ha.h) (hb:=hb.h)⟩
theorem cD(ha:Jd (PTd X a tA))(hb:Jd (PWd X (.BoolOp .Or (b::rest) pos) tB)):Jd (PWd X (.BoolOp .Or (a::b::rest) pos) (dOr tA tB)):=⟨D.ahk (ha:=ha.h) (hb:=hb.h)⟩
theorem dS(h:Jd (PWd X e tA)):Jd (PTd X e tA):=⟨D.ai7 (h:=h.h)⟩
theorem bL(ha:Jd (PTd X a tA)):Jd (PTd X (.UnaryOp .Not a pos) (lN tA)):=⟨D.aeL (ha:=ha.h)⟩
theorem f6{op}(h:Jd (PD X a ta)):Jd (PD X (.BoolOp op [a] pos) ta):=⟨D.agC (h:=h.h)⟩
theorem fZ(ha:Jd (PD X a ta))(hb:Jd (PD X (.BoolOp .And (b::rest) pos) tb)):Jd (PD X (.BoolOp .And (a::b::rest) pos) (jo ta tb)):=⟨D.ahl (ha:=ha.h) (hb:=hb.h)⟩
theorem afO(ha:Jd (PD X a ta))(hb:Jd (PD X (.BoolOp .Or (b::rest) pos) tb)):Jd (PD X (.BoolOp .Or (a::b::rest) pos) (ahE ta tb)):=⟨D.aiM (ha:=ha.h) (hb:=hb.h)⟩
theorem yE(ha:Jd (PD X a ta)):Jd (PD X (.UnaryOp .Not a pos) (xk ta)):=⟨D.afX (ha:=ha.h)⟩
theorem zi(hc:Jd (PTd X c tA))(ha:Jd (PD X a ta))(hb:Jd (PD X b tb)):Jd (PD X (.IfExp c a b pos) (aiA tA ta tb)):=⟨D.abI (hc:=hc.h) (ha:=ha.h) (hb:=hb.h)⟩
variable {es:List Expr}{t:TAd}
theorem aa  : Jd (PAd X [] aF):=⟨D.fh ⟩
theorem fg(h:Jd (PAd X es t)):Jd (PD X (.List es pos) (wm t)):=⟨D.agW (h:=h.h)⟩
theorem jH(h:Jd (PAd X es t)):Jd (PD X (.List es pos) (vC t)):=⟨D.aev (h:=h.h)⟩
theorem cp{x1}(h:Jd (PAd X es t)):Jd (PD X (.Tuple es x1 pos) (iI t)):=⟨D.agh (h:=h.h)⟩
variable {x:Str}{p:Pos}{id T:String}{r:List V->Hp->VK->Prop}{rd:List W->MH->QD->Prop}
end
section
variable {X:Cx}{pos:Pos}{st:Stmt}{sts:List Stmt}{t u:TSd}{e:Expr}{te:TD}{K:FG}
theorem au  : Jd (lO X [] bh):=⟨agw adN λ D σ H ⟨τ,M,Dd,A,h,k1,_⟩=>k1 σ H τ M (Kp.refl H) A h⟩
theorem ae(h1:Jd (PSd X st t))(h2:Jd (lO X sts u)):Jd (lO X (st::sts) (aW t u)):=⟨D.xo (h1:=h1.h) (h2:=h2.h)⟩
theorem ag(h1:Jd (PSd X st t)):Jd (lO X [st] t):=⟨D.aam (h1:=h1.h)⟩
theorem cJ(he:Jd (PD X e te))(hs:swapsWith e none pos.line X.env=pure false:=by rfl):Jd (PSd X (.Expr e pos) (jq te)):=⟨D.aad (he:=he.h) (hs:=hs)⟩
theorem ak(he:Jd (PD X e te)):Jd (PSd X (.Return (some e) pos) (bR te)):=⟨D.adF (he:=he.h)⟩
theorem aD(hc:Jd (PTd X c tc))(ha:Jd (lO X a t))(hb:Jd (lO X b u)):Jd (PSd X (.If c a b pos) (dIf tc t u)):=⟨D.af8 (hc:=hc.h) (ha:=ha.h) (hb:=hb.h)⟩
theorem aI(hN:X.N.Nodup)(hi:X.N[i]? =some x)(hx:Loc X.env.scope x)(hf:X.fn x=true\/X.env.scope.names.lookup x=some .local:=by first | exact .inl rfl | exact .inr rfl | assumption):Jd (PGd X (.Name x pos) (gN i)):=⟨
 ah1 (wO hN hi hx hf) λ v σ H Q ⟨w,τ,M,Qd,r,A,h,k⟩=>k _ H _ M (Kp.refl H) (A.set i r) h⟩
theorem fM(he:Jd (PD X e te))(hg:Jd (PGd X tg g))(hs:swapsWithSole [tg] e pos.line X.env=pure false:=by rfl)(hw:swappedStores [tg] e X.env=pure none:=by rfl)(h1:(assignEach [tg] X.env).map (·.2)=[assign tg X.env]:=by rfl):Jd (PSd X (.Assign [tg] e pos) (cv te g)):=⟨D.adK (he:=he.h) (hg:=hg.h) (hs:=hs) (hw:=hw) (h1:=h1)⟩
theorem aB(hN:X.N.Nodup)(hi:X.N[i]? =some x)(hx:Loc X.env.scope x)(he:Jd (PD X e te))(hs:swapsWith e (some (.Name x pos')) pos.line X.env=pure false:=by rfl)(hf:X.fn x=true\/X.env.scope.names.lookup x=some .local:=by first | exact .inl rfl | exact .inr rfl | assumption):Jd (PSd X (.Assign [.Name x pos'] e pos) (cv te (gN i))):=⟨D.acO (hN:=hN) (hi:=hi) (hx:=hx) (he:=he.h) (hs:=hs) (hf:=hf)⟩
end
theorem kH(F:cQ X.prog X.w X.K X.mg X.base CX0 k f fd ps (eX X.K sp))(hr:fO k X.A)(hg:Gl X x)(hm:X.mg x=some (.ref f))(hk:W.keepIn X.K (.ref f)=true)(hb:Binds X.K fd ps [])(hdb:ND x:=by decide):Jd (PD X (.Call (.Name x p) [] [] pos) (aU sp aF)):=⟨fx (abe (E:=E0) (dvs:=[]) F hr hg hm hk hb .nil ag9 hdb) λ σ H Q h=>by obtain⟨τ,M,Qd,A,h,k⟩:=h;exact⟨[],M,Qd,.nil,A.mem,h,k⟩⟩
theorem aS  : Jd (POd X none bJ):=⟨ajf ad7 λ σ H Q ⟨τ,M,Qd,A,q,k⟩=>k none H M (Kp.refl H) A.mem q⟩
theorem aO(h:Jd (PD X e te)):Jd (POd X (some e) (dq te)):=⟨D.abS (h:=h.h)⟩
theorem aQ{te:TD}{lo hi:Option Expr}{tl th:TOd}{pos p2:Pos}(he:Jd (PD X e te))(hl:Jd (POd X lo tl))(hu:Jd (POd X hi th)):Jd (PD X (.Subscript e (.Slice lo hi none p2) pos) (dSl te tl th)):=⟨D.abH (he:=he.h) (hl:=hl.h) (hu:=hu.h)⟩
theorem jB(ho:Jd (PD X o to))(hi:Jd (PD X i ti))(ha:∀ v,assign (.Subscript o i pos) X.env v=(do
   let ov <- holding [v] (eval o X.env)
   let iv <- holding [v,ov] (eval i X.env)
   standAt pos
   holding [v,ov,iv] (setItem ov iv v)
   release [v,ov,iv] []):=by intro _;rfl):Jd (PGd X (.Subscript o i pos) (z9 to ti)):=⟨D.adZ (ho:=ho.h) (hi:=hi.h) (ha:=ha)⟩
theorem yG(ho:Jd (PD X o to))(hi:Jd (PD X i ti))(he:Jd (PD X e te))(hp:PIp X op (ipI f))(ha:∀ ov iv new,augStore i ov iv new=(do holding [new,ov,iv] (setItem ov iv new);release [new,ov,iv] [];pure .next):=by intros;rfl):Jd (PSd X (.AugAssign (.Subscript o i tpos) op e pos) (aaS to ti te f)):=⟨D.abc (ho:=ho.h) (hi:=hi.h) (he:=he.h) (hp:=hp) (ha:=ha)⟩
theorem bF(h:Jd (PD X l te)):Jd (PId X tg l (dI te)):=⟨D.yA (h:=h.h)⟩
theorem fJ(hg:Gl X "range")(hm:X.mg "range" = none)(ha:Jd (PAd X [a] ta))(hs:starEach [a] X.env=[(false,eval a X.env)]:=by rfl):Jd (PId X tg (.Call (.Name "range" p) [a] [] pos) (sY ta)):=⟨D.vf (hg:=hg) (hm:=hm) (ha:=ha.h) (hs:=hs)⟩
theorem e8(hp:PassesOwn (model X.prog X.w) X.A X.env X.xe)(hc:X.calm=true)(hi:Jd (PId X tg iter di))(hg:Jd (PGd X tg g))(hb:Jd (lO X body tb))(hs:∀ x,foldedSetIterable iter X.env x=pure x:=by intro _;rfl):Jd (PSd X (.For tg iter body [] pos) (yP di g tb)):=⟨D.ady (hp:=hp) (hc:=hc) (hi:=hi.h) (hg:=hg.h) (hb:=hb.h) (hs:=hs)⟩
theorem bO  : Jd (ahg X [] pb):=⟨λ pins s σ H Q I ⟨τ,M,Qd,A,q,k⟩=>aeI pins s σ H Q I (k true H M (Kp.refl H) A.mem q)⟩
theorem gA(hc:X.calm=true)(L:xT X sc own fr)(hi:Jd (PId X tg iter di))(hg:∀ cl C s H ex pl,Jd (PGd (blk X sc (lcN X own fr) cl C s H ex pl) tg g))(ht:∀ cl C s H ex pl,Jd (ahg (blk X sc (lcN X own fr) cl C s H ex pl) ifs tt))(he:∀ cl C s H ex pl,Jd (PD (blk X sc (lcN X own fr) cl C s H ex pl) elt te))(hs:∀ x,foldedSetIterable iter X.env x=pure x:=by intro _;rfl):Jd (PD X (.ListComp elt [⟨tg,iter,ifs,0⟩] sc pos) (dLC di g tt te own.length fr)):=⟨D.ah4 (hc:=hc) (L:=L) (hi:=hi.h) (hg:=λ cl C s H ex pl=>(hg cl C s H ex pl).h) (ht:=λ cl C s H ex pl=>(ht cl C s H ex pl).h) (he:=λ cl C s H ex pl=>(he cl C s H ex pl).h) (hs:=hs)⟩
theorem iU(hN:X.N.Nodup)(hi':X.N[i]? =some x)(hx:Loc X.env.scope x)(hc:X.calm=true)(L:xT X sc own fr)(hi:Jd (PId X tg iter di))(hg:∀ cl C s H ex pl,Jd (PGd (blk X sc (lcN X own fr) cl C s H ex pl) tg g))(ht:∀ cl C s H ex pl,Jd (ahg (blk X sc (lcN X own fr) cl C s H ex pl) ifs tt))(he:∀ cl C s H ex pl,Jd (PD (blk X sc (lcN X own fr) cl C s H ex pl) elt te))(hsw:swapsWith (.ListComp elt [⟨tg,iter,ifs,0⟩] sc pos) (some (.Name x pos')) spos.line X.env=pure true:=by rfl)(hs:∀ x,foldedSetIterable iter X.env x=pure x:=by intro _;rfl)(hf:X.fn x=true\/X.env.scope.names.lookup x=some .local:=by first | exact .inl rfl | exact .inr rfl | assumption):Jd (PSd X (.Assign [.Name x pos'] (.ListComp elt [⟨tg,iter,ifs,0⟩] sc pos) spos) (cv (dLC di g tt te own.length fr) (gN i))):=⟨D.yQ (hN:=hN) (hi':=hi') (hx:=hx) (hc:=hc) (L:=L) (hi:=hi.h) (hg:=λ cl C s H ex pl=>(hg cl C s H ex pl).h) (ht:=λ cl C s H ex pl=>(ht cl C s H ex pl).h) (he:=λ cl C s H ex pl=>(he cl C s H ex pl).h) (hsw:=hsw) (hs:=hs) (hf:=hf)⟩
theorem iu(ho:Jd (PD X o to))(ha:Jd (PD X e te))(hbase:attributeBase o "join" X.env (eval o X.env)=eval o X.env:=by rfl)(hs:starEach [e] X.env=[(false,eval e X.env)]:=by rfl)(hfew:((backTo cpos (starEach [e] X.env)).all (λ x=>!x.1)&&(backToKw cpos (keywordEach [] X.env)).all (λ x=>x.1.isSome)
   && decide (([e]:List Expr).length+([]:List Keyword).length+(if ([]:List Keyword).isEmpty then 0 else 1)<30))=true:=by rfl)(hline:(apos.endLine==cpos.line)=true:=by rfl):Jd (PD X (.Call (.Attribute o "join" apos) [e] [] cpos) (dMS ie to (af te aF))):=⟨D.adv (ho:=ho.h) (ha:=ha.h) (hbase:=hbase) (hs:=hs) (hfew:=hfew) (hline:=hline)⟩
theorem yu:Jd (PD X (.Dict [] [] pos) ab4):=⟨fx (j6 abp) λ σ H Q ⟨τ,M,Qd,A,q,k⟩=>λ p hp=>by refine⟨p,_,rfl,ar,trivial,λ o=>?_⟩;rw[sD];refine k _ _ (.d (.dict [])) M (Kp.new hp) ?_ (A.mem.new hp) q;simp only[aG,aC,jb];exact⟨p,o,[],rfl,ar,rfl⟩⟩
theorem aaZ(h:Jd (PPs X pos keys values (trs.map (pm X.K))))(hall:keys.all (·.isSome)=true:=by rfl)(hl:keys.length=values.length:=by rfl)(h0:keys≠[]:=by simp)(h15:keys.length<=15:=by decide):Jd (PD X (.Dict keys values pos) (aeq trs)):=⟨D.aeR (h:=h.h) (hall:=hall) (hl:=hl) (h0:=h0) (h15:=h15)⟩
section
variable {X:Cx}{pos p:Pos}{e:Expr}{es:List Expr}{te:TD}{t:TAd}{x:Str}{id T:String}{r:List V->Hp->VK->Prop}{rd:List W->MH->QD->Prop}{k:Nat}{f:Addr}{fd:FuncData}{ps:List Str}{sp:SpD}
theorem av(ha:Jd (PD X e te))(hr:Jd (PAd X es t))(h:dZ e=false:=by rfl):Jd (PAd X (e::es) (af te t)):=⟨D.pac (ha:=ha.h) (hr:=hr.h) (h:=h)⟩
theorem dg(hc:eU X (.builtin id) r)(hd:fH X.K r rd)(hg:Gl X x)(hm:X.mg x=none)(hv:bootBuiltins x=some (.builtin id))(ha:Jd (PAd X (e::es) t))(hn:x ≠ "__name__":= by decide)(hdb:ND x:=by decide)(h1:dZ e=false:=by rfl)(h2:(es.all λ e=>!dZ e)=true:=by rfl):Jd (PD X (.Call (.Name x p) (e::es) [] pos) (dCB rd t)):=⟨D.pcB (hc:=hc) (hd:=hd) (hg:=hg) (hm:=hm) (hv:=hv) (ha:=ha.h) (hn:=hn) (hdb:=hdb) (h1:=h1) (h2:=h2)⟩
theorem dy(F:cQ X.prog X.w X.K X.mg X.base CX0 k f fd ps (eX X.K sp))(hr:fO k X.A)(hg:Gl X x)(hm:X.mg x=some (.ref f))(hk:W.keepIn X.K (.ref f)=true)(hb:Binds X.K fd ps [])(ha:Jd (PAd X (e::es) t))(hdb:ND x:=by decide)(h1:dZ e=false:=by rfl)(h2:(es.all λ e=>!dZ e)=true:=by rfl):Jd (PD X (.Call (.Name x p) (e::es) [] pos) (aU sp t)):=⟨D.pcF (F:=F) (hr:=hr) (hg:=hg) (hm:=hm) (hk:=hk) (hb:=hb) (ha:=ha.h) (hdb:=hdb) (h1:=h1) (h2:=h2)⟩
end
theorem nS:Jd (PPs X pos [] [] (([]:List (TD×TD)).map (pm X.K))):=⟨L2.aer⟩
theorem bc(hk:Jd (PD X k tk))(hv:Jd (PD X v tv))(hr:Jd (PPs X pos ks vs (trs.map (pm X.K)))):Jd (PPs X pos (some k::ks) (v::vs) (((tk,tv)::trs).map (pm X.K))):=⟨L2.abQ hk.h hv.h hr.h⟩
section
variable {κ α:Type}[DecidableEq κ]
def mv(t:List (κ×α))(k:κ):Option α:=(t.find? λ p=>decide (p.1=k)).map (·.2)
def OR(R:β->γ->Prop):Option β->Option γ->Prop
 | some a,some b=>R a b
 | none,none=>True
 | _,_=>False
theorem OR.some_of(h:OR R (some a) o):∃ b,o=some b/\R a b:=by
 cases o with
 | none=>exact h.elim
 | some b=>exact⟨b,rfl,h⟩
theorem OR.none_of(h:OR R none o):o=none:=by
 cases o with
 | none=>rfl
 | some b=>exact h.elim
theorem mJ(k:κ):∀ {t:List (κ×α)} {l:List (κ×V)},Paired (λ p q=>p.1=q.1/\R p.2 q.2) t l->OR R (mv t k) (lZ l k)
 | _,_,.nil=>True.intro
 | _,_,.cons (a:=p) (b:=q) (l₁:=t1) h t=>by
  obtain⟨h1,h2⟩:=h
  by_cases e:p.1=k
  ·rw[iy (h1.symm.trans e),show mv (p::t1) k=some p.2 by simp[mv,List.find?_cons,e]];exact h2
  ·rw[ik (λ z=>e (h1.trans z)),show mv (p::t1) k=mv t1 k by simp[mv,List.find?_cons,e]];exact mJ k t
theorem acA:∀ {t:List (κ×α)} {l:List (κ×V)},Paired P t l->t.length=l.length
 | _,_,.nil=>rfl
 | _,_,.cons _ t=>by simp[acA t]
end
def kW(k:Key):W:=.d (pq k)
theorem qB{K:FG}{H:Hp}{k:Key}{v:V}(r:aG K H (kW k) v):v=kV k:=sL r
def tkW(ks:List Key):W:=.d (.tuple (ks.map pq))
theorem agO{K:FG}{H:Hp}:∀ {ks:List Key} {vs:List V},bo K H (ks.map pq) vs->vs=ks.map kV
 | [],vs,h=>by simpa [bo] using h
 | k::ks,vs,h=>by simp only[List.map_cons,bo] at h;obtain⟨v,r,e,h1,h2⟩:=h;rw[e,sL h1,agO h2];rfl
def Rd2(H:Hp)(a:Addr)(u:HO):Prop:=Rd H a u\/∃ o,H a=some (.frz o (.frz o u))
theorem acF(ok:HOk P w H h)(e:Rd2 H a (.dK kvs)):kvs.length<=sizeLine/\(a==sysModules)=false/\∃ vs,KV kvs vs/\h.DictOf (bb P w) a vs:=by
 rcases e with e | ⟨o,e⟩
 ·exact vK ok e
 ·exact(ok a _ e).2.2
def aeS(K:FG)(H:Hp)(a:Addr)(y:V)(r:Option V):Prop:=
 (∃ kvs k,Rd2 H a (.dK kvs)/\y=kV k/\r=lZ kvs k)\/∃ kvs k b,Rd H a (.dT kvs)/\y=.ref b/\SqT K H b (k.map kV)/\r=lZ kvs k
theorem afF(I:Inv X pins σ H s)(h:SqT X.K H b (ks.map kV)):(tupleKind (bb X.prog X.w)).is s.heap ks b:=by obtain⟨its,r,⟨o,h1,h2,n,h3⟩,_⟩:=I.tuple h;exact⟨o,its.toArray,n,h1,h2,h3,by simpa using jK r⟩
theorem aeG(hu:A.units+1<cLine)(I:Inv X pins σ H s)(g:aeS X.K H a y o)(ry:RelV y u)(h:∀ w' s',Inv X pins σ H s'->RelV (o.getD .non) w'->Q w' s') :
  wpAny (model X.prog X.w) A (call (.builtin "dict.get") [.ref a,u]) Q E s:=by
 rcases g with ⟨kvs,k,e,ey,l⟩ | ⟨kvs,k,b,e,ey,eb,l⟩
 ·subst ey;obtain⟨z,hd,vs,rel,dd⟩:=acF I.hok e;refine call_meetsIn PySem.F.slot_dict_get dd.typeIs PySem.F.entry_dict_get (PySem.F.args_dict_get_2 _ _) (meets_dict_get (bb X.prog X.w) a (sR ry) hd) ⟨_,dd.mapOf,h _ _ (I.tok _) ?_⟩;rw[l];exact(rel.val k).getD rfl
 ·subst ey;cases (show u=Value.ref b from ry);obtain⟨z,hd,xs,rel,dd⟩:=agH I.hok e;refine call_meetsIn PySem.F.slot_dict_get dd.typeIs PySem.F.entry_dict_get (PySem.F.args_dict_get_2 _ _) (meetsH_dict_get (tupleKind (bb X.prog X.w)) a b hd) ⟨tupleKind_room_in1 hu,k,xs,afF I eb,dd,h _ _ (I.tok _) ?_⟩;rw[l];exact(rel.val k).getD rfl
theorem vd(hu:A.units+1<cLine)(I:Inv X pins σ H s)(e:Rd2 H a (.dK kvs))(l:lZ kvs k=some v)(ry:RelV (kV k) u)(h:∀ w' s',Inv X pins σ H s'->RelV v w'->Q w' s') :
  s.TypeIs (.ref a) "dict" /\ wpAny (model X.prog X.w) A (getItem (.ref a) u) Q E s:=by
 obtain⟨z,hd,vs,rel,dd⟩:=acF I.hok e;obtain⟨w',hw,rw'⟩:=uL.some_of (v:=v) (o:=valueAt vs k) (by rw[<- l];exact rel.val k);exact⟨dd.typeIs,wpAny_getItem_of (sR ry) dd.mapOf hw (h w' _ (I.tok _) rw')⟩
inductive sS(M:MH):W->W->Option W->Prop
 | k {a:Addr} {kvs:List (Key×W)} {k:Key} (h:M a=some (.dic kvs)):sS M (.m a) (kW k) (mv kvs k)
 | t {a:Addr} {kvs:List (List Key×W)} {ks:List Key} (h:M a=some (.dct kvs)):sS M (.m a) (tkW ks) (mv kvs ks)
 | f {a:Addr} {kvs:List (Key×W)} {k:Key} (h:M a=some (.fdic kvs)):sS M (.m a) (kW k) (mv kvs k)
 | d {kvs:List (Key×PyData)} {k:Key}:sS M (.d (.dict (kvs.map λ p=>(pq p.1,p.2)))) (kW k) ((mv kvs k).map W.d)
inductive DIs(M:MH):W->Prop
 | k {a:Addr} {kvs:List (Key×W)} (h:M a=some (.dic kvs)):DIs M (.m a)
 | t {a:Addr} {kvs:List (List Key×W)} (h:M a=some (.dct kvs)):DIs M (.m a)
 | d {kvs:List (PyData×PyData)}:DIs M (.d (.dict kvs))
theorem abj(h:pq a=pq b):a=b:=by
 cases a<;>cases b<;>simp[pq] at h<;>rw[h]
theorem gW{K:FG}{H:Hp}:∀ {kvs:List (Key×PyData)} {l:List (Key×V)},jb K H (kvs.map λ p=>(pq p.1,p.2)) l->Paired (λ(p:Key×PyData) (q:Key×V)=>p.1=q.1/\aC K H p.2 q.2) kvs l
 | [],l,h=>by simp only[List.map_nil,jb] at h;subst h;exact .nil
 | p::kvs,l,h=>by simp only[List.map_cons,jb] at h;obtain⟨key,v,r,e,ek,h1,h2⟩:=h;subst e;exact .cons ⟨abj ek,h1⟩ (gW h2)
theorem DIs.sound{K:FG}{H:Hp}{M:MH}{w:W}{x:V}(g:DIs M w)(r:aG K H w x)(m:cH K H M):∃ a,x=.ref a/\IsD H a:=by
 cases g with
 | k h =>
  obtain⟨l,e,_⟩:=m _ _ h;exact⟨_,r,.inl ⟨l,.inl e⟩⟩
 | t h =>
  obtain⟨l,e,_⟩:=m _ _ h;exact⟨_,r,.inr ⟨l,.inl e⟩⟩
 | d =>
  simp only[aG,aC] at r;obtain⟨a,o,l,e,h,_⟩:=r;exact⟨a,e,.inl ⟨l,.inr ⟨o,h⟩⟩⟩
theorem sS.sound{K:FG}{H:Hp}{M:MH}{w y:W}{o:Option W}{x v:V}(g:sS M w y o)(r:aG K H w x)(ry:aG K H y v)(m:cH K H M) :
  ∃ a p,x=.ref a/\aeS K H a v p/\OR (aG K H) o p:=by
 cases g with
 | @k a kvs k h =>
  obtain⟨l,e,pr⟩:=m _ _ h;exact⟨_,_,r,.inl ⟨l,k,.inl (.inl e),qB ry,rfl⟩,mJ k pr⟩
 | @f a kvs k h =>
  obtain⟨ob,l,e,pr⟩:=m _ _ h;exact⟨_,_,r,.inl ⟨l,k,.inr ⟨ob,e⟩,qB ry,rfl⟩,mJ k pr⟩
 | @t a kvs ks h =>
  obtain⟨l,e,pr⟩:=m _ _ h;simp only[tkW,aG,aC] at ry;obtain⟨b,vs,eb,hs,ra⟩:=ry;rw[agO ra] at hs;exact⟨_,_,r,.inr ⟨l,ks,b,.inl e,eb,hs,rfl⟩,mJ ks pr⟩
 | @d kvs k =>
  simp only[aG,aC] at r;obtain⟨a,ob,l,e,h,rk⟩:=r;refine⟨a,_,e,.inl ⟨l,k,.inl (.inr ⟨ob,h⟩),qB ry,rfl⟩,?_⟩;have g:=mJ (R:=λ d q=>aC K H d q) k (gW rk);cases q:mv kvs k with
  | none=>rw[q] at g;rw[OR.none_of g];exact True.intro
  | some z =>
   rw[q] at g;obtain⟨b,eb,rb⟩:=OR.some_of g;rw[eb];exact rb
def adQ(K:FG)(td ty:TE):TE:=λ σ H Q=>td σ H λ x H1=>∃ a,x=.ref a/\IsD H1 a/\ty σ H1 λ y H2=>∃ o,aeS K H2 a y o/\Q (o.getD .non) H2
theorem zQ(hu:X.A.units+1<cLine)(ho:PE X o td)(he:PE X e ty)(m:M1 X o "get" apos e cpos):PE X (.Call (.Attribute o "get" apos) [e] [] cpos) (adQ X.K td ty):=by intro pins s σ H Q I h;refine wpAny_Call_method m.base m.few m.line PySem.F.plainAttrs_dict PySem.F.slot_dict_get PySem.F.type_dict_get (thn (ho pins s σ H _ I h) λ u s1 hq60=>?_);obtain⟨x,H1,I1,rx,a,ex,d,q1⟩:=hq60;subst ex;obtain rfl:u=Value.ref a:=rx;obtain⟨t1,t2,_⟩:=agb I1 d;refine⟨t1,t2,?_⟩;rw[m.trees];refine Calls.callWith_builtin rfl (Calls.evalArgs_plain (Calls.spliced_cons (thn (he pins s1 σ H1 _ I1 q1) λ iv s2 ⟨y,H2,I2,ry,ov,g,q2⟩=>Calls.spliced_nil ?_)));exact aeG hu I2 g ry λ w' s3 I3 rw'=>⟨_,H2,I3,rw',q2⟩
def afE(td ty:TE):TE:=λ σ H Q=>td σ H λ x H1=>ty σ H1 λ y H2=>∃ a kvs k v,x=.ref a/\Rd2 H2 a (.dK kvs)/\y=kV k/\lZ kvs k=some v/\Q v H2
theorem aal(hu:X.A.units+1<cLine)(ho:PE X o td)(hi:PE X i ty)(hs:aew i):PE X (.Subscript o i pos) (afE td ty):=by intro pins s σ H Q I h;refine xQ PySem.F.slot_dict_getitem.lookup hs (thn (ho pins s σ H _ I h) λ u s1 ⟨x,H1,I1,rx,q1⟩=>thn (hi pins s1 σ H1 _ I1 q1) λ iv s2 hq61=>?_);obtain⟨y,H2,I2,ry,a,kvs,k,v,ex,g,ey,l,q2⟩:=hq61;subst ex ey;obtain rfl:u=Value.ref a:=rx;exact vd hu I2 g l ry λ w' s3 I3 rw'=>⟨v,H2,I3,rw',q2⟩
section
variable {X:Cx}{o i e f value:Expr}{es:List Expr}{pos pos' apos cpos:Pos}{td ti tx tv:TD}{t:TAd}
inductive ag0(M2:MH) (w y:W) (Q:QD):Prop
 | mk (a:Addr) (kvs:List (Key×W)) (k:Key) (v:W) (z0:w=.m a) (z1:M2 a=some (.dic kvs)\/M2 a=some (.fdic kvs)) (z2:y=kW k) (z3:mv kvs k=some v) (q:Q v M2):ag0 M2 w y Q
def aau(td ti:TD)(τ:DS)(M:MH)(Q:QD):Prop:=td τ M λ w M1=>ti τ M1 λ y M2=>ag0 M2 w y Q
theorem acU(hu:X.A.units+1<cLine)(ho:PD X o td)(hi:PD X i ti)(hs:aew i:=by exact λ _ _=>rfl):PD X (.Subscript o i pos) (aau td ti):=fx (aal hu ho hi hs) λ σ H Q h=>by
 obtain⟨τ,M,Qd,A,h,k⟩:=h;refine⟨τ,M,_,A,h,λ x H1 w M1 kp1 r1 m1 q1=>⟨τ,M1,_,A.go kp1 m1,q1,λ y H2 wy M2 kp2 r2 m2 hq62=>?_⟩⟩;obtain⟨a,kvs,key,v,ew,hm,ey,hv,q2⟩:=hq62;subst ew ey;obtain⟨l,e,pr⟩:∃ l,Rd2 H2 a (.dK l)/\Paired (λ(p:Key×W) (q:Key×V)=>p.1=q.1/\aG X.K H2 p.2 q.2) kvs l:=by
  rcases hm with hm | hm
  ·obtain⟨l,e,pr⟩:=m2 _ _ hm;exact⟨l,.inl (.inl e),pr⟩
  ·obtain⟨ob,l,e,pr⟩:=m2 _ _ hm;exact⟨l,.inr ⟨ob,e⟩,pr⟩
 have g:=mJ key pr;rw[hv] at g;obtain⟨b,eb,rb⟩:=OR.some_of g;refine⟨a,l,key,b,r1,e,qB r2,eb,?_⟩;exact k _ H2 v M2 (kp1.trans kp2) rb m2 q2
def aah(td ti:TD)(τ:DS)(M:MH)(Q:QD):Prop:=td τ M λ w M1=>DIs M1 w/\ti τ M1 λ y M2=>∃ o,sS M2 w y o/\Q (o.getD (.d .none)) M2
theorem OR.getD{K:FG}{H:Hp}{o:Option W}{p:Option V}{z:W}{v:V}(h:OR (aG K H) o p)(r:aG K H z v):aG K H (o.getD z) (p.getD v):=by
 cases o with
 | none=>rw[OR.none_of h];exact r
 | some a=>obtain⟨b,e,q⟩:=OR.some_of h;rw[e];exact q
theorem adj(hu:X.A.units+1<cLine)(ho:PD X o td)(he:PD X e ti)(m:M1 X o "get" apos e cpos:=by exact⟨rfl,rfl,rfl,rfl⟩):PD X (.Call (.Attribute o "get" apos) [e] [] cpos) (aah td ti):=fx (zQ hu ho he m) λ σ H Q h=>by obtain⟨τ,M,Qd,A,h,k⟩:=h;refine⟨τ,M,_,A,h,λ x H1 w M1 kp1 r1 m1 hq63=>?_⟩;obtain⟨di,q1⟩:=hq63;obtain⟨a,ea,isd⟩:=di.sound r1 m1;refine⟨a,ea,isd,τ,M1,_,A.go kp1 m1,q1,λ y H2 wy M2 kp2 r2 m2 hq64=>?_⟩;obtain⟨o,g,q2⟩:=hq64;obtain⟨a',p,e',g',ro⟩:=g.sound (r1.keep kp2) r2 m2;rw[ea] at e';cases e';exact⟨p,g',k _ H2 _ M2 (kp1.trans kp2) (ro.getD (v:=.non) (by simp[aG,aC])) m2 q2⟩
end
abbrev ajT(K:FG)(H:Hp):List (Str×W)->List (Str×V)->Prop:=Paired (λ(p:Str×W) (q:Str×V)=>p.1=q.1/\aG K H p.2 q.2)
theorem pO{K:FG}{H:Hp}(f:Str):∀ {fs:List (Str×W)} {l:List (Str×V)},ajT K H fs l->OR (aG K H) (fs.lookup f) (l.lookup f)
 | _,_,.nil=>True.intro
 | _,_,.cons (a:=p) (b:=q) (l₁:=t1) (l₂:=t2) h t=>by
  obtain⟨pk,pv⟩:=p;obtain⟨qk,qv⟩:=q;obtain⟨h1,h2⟩:=h;have h1':pk=qk:=h1;subst h1';rw[List.lookup_cons,List.lookup_cons];cases e:(f==pk) with
  | true=>exact h2
  | false=>exact pO f t
section
variable {X:Cx}{C f:Addr}{o e value:Expr}{es:List Expr}{fn m x:Str}{pos pos' apos p:Pos}{td tv te:TD}{t:TAd}{k:Nat}{fd:FuncData}{ps:List Str}{sp:SpD}
end
def wU(M:MH)(a:Addr):MH:=λ b=>if b=a then none else M b
theorem adC(h:b≠a):wU M a b=M b:=if_neg h
theorem cH.del{K:FG}{H:Hp}{M:MH}{a:Addr}{o:HO}(m:cH K H M)(kp:Kp H (upd H a o)):cH K (upd H a o) (wU M a):=λ b mo hm=>by
 by_cases e:b=a
 ·subst e;simp[wU] at hm
 ·rw[adC e] at hm;exact(m b mo hm).keep kp λ u z=>by rw[aq e];exact z
def adk(R:W->MH->Prop)(ws:List W)(M:MH):Prop:=match ws with
 | [y]=>R y M
 | _=>False
theorem iM(h:adk R ws M):∃ y,ws=[y]/\R y M:=by
 match ws,h with
 | [y],h=>exact⟨y,rfl,h⟩
def abO(td:TD)(τ:DS)(M:MH)(Q:QD):Prop:=td τ M λ w M1=>∃ a ds,w=.m a/\M1 a=some (.lst (ds.map W.d))/\Q (.d (.list ds)) (wU M1 a)
theorem aex(h:PD X e td):PD X e (abO td):=fx (j6 h) λ σ H Q h=>by obtain⟨τ,M,Qd,A,h,k⟩:=h;refine⟨τ,M,_,A,h,λ x H1 w M1 kp1 r1 m1 hq65=>?_⟩;obtain⟨a,ds,ew,hm,q⟩:=hq65;subst ew;obtain⟨vs,e,ra⟩:=m1 _ _ hm;refine⟨a,_,r1,e,trivial,λ ob=>?_⟩;have kp2:Kp H1 (upd H1 a (.frz ob (.lst vs))):=Kp.set e (λ _ z=>nomatch z) (λ _ _ z=>nomatch z);refine k _ _ (.d (.list ds)) (wU M1 a) (kp1.trans kp2) ?_ (m1.del kp2) q;simp only[aG,aC];exact⟨a,vs,r1,.inl ⟨ob,ar⟩,ra.data.keep kp2⟩
def gx(td te:TD)(τ:DS)(M:MH)(Q:QD):Prop:=td τ M λ w M1=>∃ a ws,w=.m a/\M1 a=some (.lst ws)/\te τ M1 λ y M2=>∃ ws',M2 a=some (.lst ws')/\ws'.length<sizeLine/\Q (.d .none) (cn M2 a (.lst (ws'++[y])))
theorem yR(ho:PD X o td)(he:PD X e te)
  (hbase:attributeBase o "append" X.env (eval o X.env)=eval o X.env:=by rfl)
  (hfew:((backTo cpos (starEach [e] X.env)).all (λ x=>!x.1)&&(backToKw cpos (keywordEach [] X.env)).all (λ x=>x.1.isSome)
   && decide (([e]:List Expr).length+([]:List Keyword).length+(if ([]:List Keyword).isEmpty then 0 else 1)<30))=true:=by rfl)
  (hline:(apos.endLine==cpos.line)=true:=by rfl)(hs:dZ e=false:=by rfl):PD X (.Call (.Attribute o "append" apos) [e] [] cpos) (gx td te):=
 fx (qd PySem.F.plainAttrs_list PySem.F.slot_list_append PySem.F.type_list_append zY ho (pac he fh hs) hbase hfew hline (bH e [] X.env hs) rfl) λ σ H Q h=>by obtain⟨τ,M,Qd,A,h,k⟩:=h;refine⟨τ,M,_,A,h,λ x H1 w M1 kp1 r1 m1 hq66=>?_⟩;obtain⟨a,ws,ew,hm,q1⟩:=hq66;subst ew;obtain⟨vs,ea,ra⟩:=m1 _ _ hm;have r1':x=.ref a:=r1;subst r1';refine⟨.inl ⟨rfl,vs,.inl (.inl ea)⟩,τ,M1,adk (λ y M2=>∃ ws',M2 a=some (.lst ws')/\ws'.length<sizeLine/\Qd (.d .none) (cn M2 a (.lst (ws'++[y])))),A.go kp1 m1,q1,λ ys H2 wys M2 kp2 r2 m2 q2=>?_⟩;obtain⟨y,ey,ws',hm2,hl,q4⟩:=iM q2;subst ey;obtain⟨v,ev,rv⟩:=cK r2;subst ev;obtain⟨vs2,ea2,ra2⟩:=m2 _ _ hm2;have kp4:Kp H2 (upd H2 a (.lst (vs2++[v]))):=Kp.set ea2 (λ _ z=>nomatch z) (λ _ _ z=>nomatch z);refine⟨a,vs2,v,rfl,rfl,ea2,by rw[<- ra2.length];exact hl,?_⟩;exact k _ _ (.d .none) _ ((kp1.trans kp2).trans kp4) (by simp[aG,aC]) (m2.put (mo:=.lst (ws'++[y])) kp4 ⟨_,ar,(ba.append ra2 (.cons rv .nil)).keep kp4⟩) q4
def i6(K:FG)(H:Hp)(d:PyData)(x:V):Prop:=aC K H d x\/∃ a vs ds,d=.list ds/\x=.ref a/\H a=some (.lst vs)/\bo K H ds vs
inductive wk(M:MH):W->PyData->Prop
 | d {x:PyData}:wk M (.d x) x
 | l {a:Addr} {ds:List PyData} (h:M a=some (.lst (ds.map W.d))):wk M (.m a) (.list ds)
theorem wk.sound{K:FG}{H:Hp}{M:MH}{w:W}{d:PyData}{x:V}(g:wk M w d)(r:aG K H w x)(m:cH K H M):i6 K H d x:=by
 cases g with
 | d=>exact .inl r
 | l h =>
  obtain⟨vs,e,ra⟩:=m _ _ h;exact .inr ⟨_,vs,_,rfl,r,e,ra.data⟩
theorem aja(I:Inv X pins σ H s)(h:i6 X.K H d x):∃ H',Inv X pins σ H' s/\aC X.K H' d x:=by
 rcases h with h | ⟨a,vs,ds,rfl,rfl,e,ra⟩
 ·exact⟨H,I,h⟩
 ·obtain⟨o,I2⟩:=I.freeze e trivial;have kp:Kp H (upd H a (.frz o (.lst vs))):=Kp.set e (λ _ z=>nomatch z) (λ _ _ z=>nomatch z);refine⟨_,I2,?_⟩;simp only[aC];exact⟨a,vs,rfl,.inl ⟨o,ar⟩,ra.keep kp⟩
theorem cC(I:Inv X pins σ H s)(d:PyData)(h:i6 X.K H d x)(r:RelV x u)(hd:d.hasDict=false):∃ as,Reads s.heap u d as:=by obtain⟨H',I',h'⟩:=aja I h;exact dz I' d h' r hd
theorem sk(I:Inv X pins σ H s)(h:i6 X.K H d x)(r:RelV x u)(ok:fy d=true):∃ as,Reads s.heap u d as/\(d.hasDict=true->sysModules ∉ as):=by obtain⟨H',I',h'⟩:=aja I h;exact vW I' h' r ok
theorem d6(hr:cX k X.A):eU X (.builtin "repr") (λ xs H Q=>∃ x d,xs=[x]/\i6 X.K H d x/\fy d=true/\Q (.str d.shown) H):=by
 intro pins s σ H xs us Q I r h;obtain⟨x,d,rfl,rd,ok,q⟩:=h;obtain⟨u,rfl,rx⟩:=vals1 r;obtain⟨as,rr,hsm⟩:=sk I rd rx ok;have ok':=ok;simp only[fy,Bool.and_eq_true,decide_eq_true_eq] at ok';obtain⟨⟨⟨hs,hz⟩,hd⟩,_⟩:=ok';have hu:=hr.units;cases rr with
 | none=>exact PySem.P.repr_of_none ⟨.str _,H,I.tok _,⟨_,rfl⟩,by simpa [PyData.shown] using q⟩
 | bool b=>exact PySem.P.repr_of_bool ⟨.str _,H,I.tok _,⟨_,rfl⟩,by simpa [PyData.shown] using q⟩
 | int i t =>
  refine PySem.P.repr_of_int (by simpa [PyData.showable] using hs) ⟨.str _,H,I.tok _,⟨_,rfl⟩,?_⟩;rw[PyData.shown] at q;exact q
 | str i t =>
  refine PySem.P.repr_of_str ⟨.str _,H,I.tok _,⟨_,rfl⟩,?_⟩ (by simpa [PyData.shown] using hz);rw[PyData.shown] at q;exact q
 | list e1 e2 e3 e4=>exact repr_of_reads' (.list e1 e2 e3 e4) hs hsm hr.gd (by omega) (λ _ _ z=>z) (λ h' u tk hk=>⟨.str _,H,I.kept hk,⟨_,rfl⟩,q⟩) hz
 | tuple e1 e2 e3 e4=>exact repr_of_reads' (.tuple e1 e2 e3 e4) hs hsm hr.gd (by omega) (λ _ _ z=>z) (λ h' u tk hk=>⟨.str _,H,I.kept hk,⟨_,rfl⟩,q⟩) hz
 | dict e1 e2 e3 e4 e5=>exact repr_of_reads' (.dict e1 e2 e3 e4 e5) hs hsm hr.gd (by omega) (λ _ _ z=>z) (λ h' u tk hk=>⟨.str _,H,I.kept hk,⟨_,rfl⟩,q⟩) hz
theorem cu(hr:cX k X.A):OpR X (compareOp .Eq) (λ x y H Q=>∃ d d',i6 X.K H d x/\i6 X.K H d' y/\dR d d'=true/\Q (.bl (PyData.eqv d d')) H):=by
 intro pins s σ H x y v u Q I rx ry h;obtain⟨d,d',h1,h2,o,q⟩:=h;rcases fL o with ⟨a,b,e1,e2⟩ | ⟨o1,o2⟩
 ·subst e1;subst e2;rcases h1 with h1 | ⟨_,_,_,z,_⟩
  ·rcases h2 with h2 | ⟨_,_,_,z,_⟩
   ·exact acm hr pins s σ H x y v u Q I rx ry ⟨_,_,h1,h2,o,q⟩
   ·cases z
  ·cases z
 simp only[pZ,Bool.and_eq_true,Bool.not_eq_true'] at o1 o2;obtain⟨as,r1⟩:=cC I d h1 rx o1.2;obtain⟨bs,r2⟩:=cC I d' h2 ry o2.2;exact eq_dataH r1 r2 o1.1 o2.1 hr.units ⟨.bl _,H,I,rfl,q⟩
theorem fB(hr:cX k X.A):OpR X (compareOp .NotEq) (λ x y H Q=>∃ d d',i6 X.K H d x/\i6 X.K H d' y/\dR d d'=true/\Q (.bl (!PyData.eqv d d')) H):=by
 intro pins s σ H x y v u Q I rx ry h;obtain⟨d,d',h1,h2,o,q⟩:=h;rcases fL o with ⟨a,b,e1,e2⟩ | ⟨o1,o2⟩
 ·subst e1;subst e2;rcases h1 with h1 | ⟨_,_,_,z,_⟩
  ·rcases h2 with h2 | ⟨_,_,_,z,_⟩
   ·exact agK hr pins s σ H x y v u Q I rx ry ⟨_,_,h1,h2,o,q⟩
   ·cases z
  ·cases z
 simp only[pZ,Bool.and_eq_true,Bool.not_eq_true'] at o1 o2;obtain⟨as,r1⟩:=cC I d h1 rx o1.2;obtain⟨bs,r2⟩:=cC I d' h2 ry o2.2;exact ne_dataH r1 r2 o1.1 o2.1 hr.units ⟨.bl _,H,I,rfl,q⟩
section
variable {X:Cx}{K:FG}
def dh(w w':W)(M:MH)(Q:QD):Prop:=∃ d d',wk M w d/\wk M w' d'/\dR d d'=true/\Q (.d (.bool (PyData.eqv d d'))) M
def iD(w w':W)(M:MH)(Q:QD):Prop:=∃ d d',wk M w d/\wk M w' d'/\dR d d'=true/\Q (.d (.bool (!PyData.eqv d d'))) M
theorem bt:OpD K (λ x y H Q=>∃ d d',i6 K H d x/\i6 K H d' y/\dR d d'=true/\Q (.bl (PyData.eqv d d')) H) dh:=by intro x y H w w' M Qd Q r1 r2 m ⟨d,d',g1,g2,o1,q⟩ k;exact⟨d,d',g1.sound r1 m,g2.sound r2 m,o1,k _ H (.d (.bool _)) M (Kp.refl H) (by simp[aG,aC]) m q⟩
theorem du:OpD K (λ x y H Q=>∃ d d',i6 K H d x/\i6 K H d' y/\dR d d'=true/\Q (.bl (!PyData.eqv d d')) H) iD:=by intro x y H w w' M Qd Q r1 r2 m ⟨d,d',g1,g2,o1,q⟩ k;exact⟨d,d',g1.sound r1 m,g2.sound r2 m,o1,k _ H (.d (.bool _)) M (Kp.refl H) (by simp[aG,aC]) m q⟩
def gX(ws:List W)(M:MH)(Q:QD):Prop:=∃ w d,ws=[w]/\wk M w d/\fy d=true/\Q (.d (.str d.shown)) M
theorem gH:fH K (λ xs H Q=>∃ x d,xs=[x]/\i6 K H d x/\fy d=true/\Q (.str d.shown) H) gX:=by intro vs H ws M Qd Q r m ⟨w,d,e,g,ok,q⟩ k;subst e;obtain⟨v,e1,r1⟩:=cK r;exact⟨v,d,e1,g.sound r1 m,ok,k _ H (.d (.str _)) M (Kp.refl H) (by simp[aG,aC]) m q⟩
inductive aej(M:MH):W->List W->Prop
 | l {ds:List PyData}:aej M (.d (.list ds)) (ds.map W.d)
 | t {ds:List PyData}:aej M (.d (.tuple ds)) (ds.map W.d)
 | m {a:Addr} {ws:List W} (h:M a=some (.lst ws)):aej M (.m a) ws
theorem aej.sound(g:aej M w ws)(r:aG K H w x)(m:cH K H M):∃ p ys,x=.ref p/\(SqL K H p ys\/SqT K H p ys)/\ba K H ws ys:=by
 cases g with
 | l =>
  simp only[aG,aC] at r;obtain⟨a,vs,e,hs,ra⟩:=r;exact⟨a,vs,e,.inl hs.sq,ra.ws⟩
 | t =>
  simp only[aG,aC] at r;obtain⟨a,vs,e,hs,ra⟩:=r;exact⟨a,vs,e,.inr hs,ra.ws⟩
 | m h =>
  obtain⟨vs,e,ra⟩:=m _ _ h;exact⟨_,vs,r,.inl (.inl (.inl e)),ra⟩
def nQ(ws:List W)(M:MH)(Q:QD):Prop:=∃ w xs,ws=[w]/\aej M w xs/\∀ p,M p=none->Q (.m p) (cn M p (.lst xs))
theorem pY:fH K (λ xs H Q=>∃ p ys,xs=[.ref p]/\(SqL K H p ys\/SqT K H p ys)/\∀ l,H l=none->Q (.ref l) (upd H l (.lst ys))) nQ:=by intro vs H ws M Qd Q r m ⟨w,xs,e,g,q⟩ k;subst e;obtain⟨v,e1,r1⟩:=cK r;obtain⟨p,ys,ev,hs,rs⟩:=g.sound r1 m;subst ev;refine⟨p,ys,e1,hs,λ l hl=>?_⟩;have kp:Kp H (upd H l (.lst ys)):=Kp.new hl;exact k _ _ (.m l) _ kp rfl (m.put (mo:=.lst xs) kp ⟨ys,ar,rs.keep kp⟩) (q l (m.free hl))
def gp(ws:List W)(M:MH)(Q:QD):Prop:=∃ w ds,ws=[w]/\aej M w (ds.map W.d)/\Q (.d (.tuple ds)) M
theorem gG:fH K (λ xs H Q=>∃ p ys,xs=[.ref p]/\((SqL K H p ys/\∀ l,H l=none->Q (.ref l) (upd H l (.tup ys)))\/(SqT K H p ys/\Q (.ref p) H))) gp:=by
 intro vs H ws M Qd Q r m ⟨w,ds,e,g,q⟩ k;subst e;obtain⟨v,e1,r1⟩:=cK r;obtain⟨p,ys,ev,hs,rs⟩:=g.sound r1 m;subst ev;rcases hs with hs | hs
 ·refine⟨p,ys,e1,.inl ⟨hs,λ l hl=>?_⟩⟩;have kp:Kp H (upd H l (.tup ys)):=Kp.new hl;refine k _ _ (.d (.tuple ds)) M kp ?_ (m.new hl) q;simp only[aG,aC];exact⟨l,ys,rfl,.inl (.inl ar),rs.data.keep kp⟩
 ·refine⟨p,ys,e1,.inr ⟨hs,?_⟩⟩;refine k _ _ (.d (.tuple ds)) M (Kp.refl H) ?_ m q;simp only[aG,aC];exact⟨p,ys,rfl,hs,rs.data⟩
def bG(zs:List Str):List W:=zs.map λ z=>.d (.str z)
inductive yg(M:MH):W->Bool->Prop
 | n:yg M (.d .none) false
 | b {k:Bool}:yg M (.d (.bool k)) k
 | i {k:Int}:yg M (.d (.int k)) (k != 0)
 | s {z:Str} (h:z.length<=sizeLine):yg M (.d (.str z)) ((z.length:Int) != 0)
 | l {ds:List PyData}:yg M (.d (.list ds)) (!ds.isEmpty)
 | t {ds:List PyData}:yg M (.d (.tuple ds)) (!ds.isEmpty)
 | m {a:Addr} {ws:List W} (h:M a=some (.lst ws)):yg M (.m a) (!ws.isEmpty)
 | dk {a:Addr} {kvs:List (Key×W)} (h:M a=some (.dic kvs)):yg M (.m a) (!kvs.isEmpty)
theorem iq{α β:Type}{xs:List α}{ys:List β}(h:xs.length=ys.length):xs.isEmpty=ys.isEmpty:=by
 cases xs<;>cases ys<;>simp at h ⊢
theorem yg.sound{b:Bool}(g:yg M w b)(r:aG K H w x)(m:cH K H M):ahK K x H b:=by
 cases g with
 | n=>simp only[aG,aC] at r;subst r;rfl
 | b=>simp only[aG,aC] at r;subst r;rfl
 | i=>simp only[aG,aC] at r;subst r;rfl
 | s h=>simp only[aG,aC] at r;subst r;exact⟨h,rfl⟩
 | l =>
  simp only[aG,aC] at r;obtain⟨a,vs,e,hs,ra⟩:=r;subst e;exact .inl ⟨vs,hs.sq,by rw[iq ra.length]⟩
 | t =>
  simp only[aG,aC] at r;obtain⟨a,vs,e,hs,ra⟩:=r;subst e;exact .inr (.inl ⟨vs,hs,by rw[iq ra.length]⟩)
 | m h =>
  obtain⟨vs,e,ra⟩:=m _ _ h;have r':x=.ref _:=r;subst r';exact .inl ⟨vs,.inl (.inl e),by rw[iq ra.length]⟩
 | dk h =>
  obtain⟨l,e,pr⟩:=m _ _ h;have r':x=.ref _:=r;subst r';exact .inr (.inr ⟨l,e,by rw[iq (acA pr)]⟩)
def aiL(ta:TD)(τ:DS)(M:MH)(Q:Bool->MH->Prop):Prop:=ta τ M λ w M1=>∃ b,yg M1 w b/\Q b M1
theorem yj(ha:PD X a ta)(he:∀ whole:Sem Value,PySem.isTrue a X.env whole=(do let v <- whole;standAt a.pos;holding [v] (truthy v)):=by intro _;rfl):PTd X a (aiL ta):=
 ae6 (aay ha he) λ σ H Q h=>by obtain⟨τ,M,Qd,A,h,k⟩:=h;exact⟨τ,M,_,A,h,λ v H' w M' kp r m ⟨b,g,q⟩=>⟨b,g.sound r m,k b H' M' kp m q⟩⟩
def ub(ws:List W)(M:MH)(Q:QD):Prop:=∃ i j,ws=[.d (.int i),.d (.int j)]/\Q (.d (.int (if j > i then j else i))) M
theorem rV:fH K (λ xs H Q=>∃ i j,xs=[V.int i,V.int j]/\Q (V.int (if j > i then j else i)) H) ub:=by intro vs H ws M Qd Q r m ⟨i,j,e,q⟩ k;subst e;obtain⟨v,v',e1,r1,r2⟩:=mw r;simp only[aG,aC] at r1 r2;subst r1 r2;exact⟨i,j,e1,k _ H (.d (.int _)) M (Kp.refl H) (by simp[aG,aC]) m q⟩
end
section
variable {X:Cx}{K:FG}
def ahQ(K:FG):R2:=λ x y H Q=>∃ l b xs zs,x=.ref l/\y=.ref b/\SqL K H l xs/\SqL K H b zs/\xs.length+zs.length<=sizeLine/\∀ p,H p=none->Q (.ref p) (upd H p (.lst (xs++zs)))
theorem ado:OpR X (binaryOp .Add) (ahQ X.K):=by
 intro pins s σ H x y v u Q I rx ry h;obtain⟨l,b,xs,zs,rfl,rfl,h1,h2,hz,q⟩:=h;cases rx;cases ry;obtain⟨its,r1,p1,_⟩:=I.list h1;obtain⟨its2,r2,p2,_⟩:=I.list h2;have t1:=p1.isList.typeIs (s:=s);have t2:=p2.isList.typeIs (s:=s);obtain⟨⟨oc,od,odt,osl⟩,n,e1,c1,d1,g1⟩:=p1;obtain⟨⟨oc2,od2,odt2,osl2⟩,n2,e2,c2,d2,g2⟩:=p2;dsimp only at c1 d1 g1 c2 d2 g2;subst c1 d1 g1 c2 d2 g2;have hl1:=r1.length;have hl2:=r2.length;refine wpAny_binaryOp_concat (T:= "list") t1 t2 noFill_list_add seq_list_add ?_;refine call_meets PySem.F.slot_list_add t1 PySem.F.entry_list_add (PySem.F.args_list_add_2 _ _) (list_addW l b its.toArray its2.toArray n n2 none none osl osl2 (by simp only[List.size_toArray];omega)) ⟨e1,e2,?_⟩;have ea:its.toArray++its2.toArray=(its++its2).toArray:=by simp
 rw[ea];exact⟨.ref _,_,I.aj3 (t':=s.toks) (r1.append r2) (by rw[List.length_append];omega),rfl,q _ I.fresh⟩
inductive ae7(M:MH):W->List PyData->Prop
 | d {ds:List PyData}:ae7 M (.d (.list ds)) ds
 | m {a:Addr} {ds:List PyData} (h:M a=some (.lst (ds.map W.d))):ae7 M (.m a) ds
theorem ae7.sound(g:ae7 M w ds)(r:aG K H w x)(m:cH K H M):∃ p ys,x=.ref p/\SqL K H p ys/\bo K H ds ys:=by
 cases g with
 | d =>
  simp only[aG,aC] at r;obtain⟨a,vs,e,hs,ra⟩:=r;exact⟨a,vs,e,hs.sq,ra⟩
 | m h =>
  obtain⟨vs,e,ra⟩:=m _ _ h;exact⟨_,vs,r,.inl (.inl e),ra.data⟩
def aiD(ta tb:TD)(τ:DS)(M:MH)(Q:QD):Prop:=ta τ M λ w M1=>tb τ M1 λ w' M2=>∃ xs ys,ae7 M2 w xs/\ae7 M2 w' ys/\xs.length+ys.length<=sizeLine/\Q (.d (.list (xs++ys))) M2
theorem agX(ha:PD X a ta)(hb:PD X b tb):PD X (.BinOp a .Add b pos) (aiD ta tb):=fx (j6 (afg ado ha hb)) λ σ H Q h=>by obtain⟨τ,M,Qd,A,h,k⟩:=h;refine⟨τ,M,_,A,h,λ x H1 w M1 kp1 r1 m1 q1=>⟨τ,M1,_,A.go kp1 m1,q1,λ y H2 w' M2 kp2 r2 m2 hq67=>?_⟩⟩;obtain⟨xs,ys,g1,g2,hz,q⟩:=hq67;obtain⟨p,vs,e1,s1,ra1⟩:=g1.sound (r1.keep kp2) m2;obtain⟨p',vs',e2,s2,ra2⟩:=g2.sound r2 m2;refine⟨p,p',vs,vs',e1,e2,s1,s2,by rw[ra1.length,ra2.length];exact hz,λ c hc=>?_⟩;exact kQ hc (ra1.append ra2) m2 q (kgo (kgo k kp1) kp2)
end
abbrev ahv:=List W->DS->MH->(DS->MH->Prop)->Prop
def akg(K:FG)(g:ahv):TGs:=λ vs σ H Q=>∃ ws τ M Qd,ba K H ws vs/\Abs K H σ τ M/\g ws τ M Qd/\∀ σ' H' τ' M',Kp H H'->Abs K H' σ' τ' M'->Qd τ' M'->Q σ' H'
abbrev ade(X:Cx)(es:List Expr)(g:ahv):Prop:=PGs X es (akg X.K g)
theorem afR(h:PGs X es g)(k:∀ v σ H Q,g' v σ H Q->g v σ H Q):PGs X es g':=λ pins s σ H v u Q I r q=>h pins s σ H v u Q I r (k v σ H Q q)
def qK(ws:List W)(τ:DS)(M:MH)(Q:DS->MH->Prop):Prop:=ws=[]/\Q τ M
def dU(g:TGd)(gs:ahv)(ws:List W)(τ:DS)(M:MH)(Q:DS->MH->Prop):Prop:=∃ w r,ws=w::r/\g w τ M λ τ' M'=>gs r τ' M' Q
theorem zL(h1:PGd X e g)(h2:ade X es gs)(hs:(assignEach (e::es) X.env).map (·.2)=assign e X.env::(assignEach es X.env).map (·.2):=by rfl):ade X (e::es) (dU g gs):=
 afR (abA h1 h2 hs) λ vs σ H Q hq69=>by
  obtain⟨ws,τ,M,Qd,r,A,⟨w,wr,ew,q⟩,k⟩:=hq69;subst ew;cases r with
  | cons r1 r2 =>
   refine⟨_,_,rfl,w,τ,M,_,r1,A,q,λ σ1 H1 τ1 M1 kp1 A1 q1=>?_⟩;exact⟨wr,τ1,M1,Qd,ba.keep kp1 r2,A1,q1,λ σ2 H2 τ2 M2 kp2 A2 q2=>k σ2 H2 τ2 M2 (kp1.trans kp2) A2 q2⟩
def gT(n:Nat)(gs:ahv)(w:W)(τ:DS)(M:MH)(Q:DS->MH->Prop):Prop:=∃ ds,w=.d (.tuple ds)/\ds.length=n/\gs (ds.map W.d) τ M Q
theorem adw(hc:X.calm=true)(h:ade X es gs)(hn:(assignEach es X.env).length=n:=by rfl)(hst:(assignEach es X.env).findIdx? (·.1)=none:=by rfl):PGd X (.Tuple es k pos) (gT n gs):=
 ah1 (aho hc h hn hst) λ v σ H Q hq70=>by obtain⟨w,τ,M,Qd,r,A,⟨ds,ew,hl,q⟩,kk⟩:=hq70;subst ew;simp only[aG,aC] at r;obtain⟨a,vs,ev,hs,ra⟩:=r;exact⟨a,vs,ev,hs,by rw[ra.length];exact hl,ds.map W.d,τ,M,Qd,ra.ws,A,q,kk⟩
def uY(trs:List (TD×TD))(τ:DS)(M:MH)(Q:QD):Prop:=∀ p,M p=none->uJ trs τ (cn M p (.dic [])) λ ps M2=>M2 p=some (.dic [])/\∃ kvs:List (Key×W),ps=kvs.map (λ q=>(kW q.1,q.2))/\kvs.length<=15/\(kvs.map (·.1)).Nodup /\
 Q (.m p) (cn M2 p (.dic kvs))
theorem mZ{K:FG}{H:Hp}:∀ {kvs:List (Key×W)} {ps:List (V×V)},Paired (λ(p:W×W) (q:V×V)=>aG K H p.1 q.1/\aG K H p.2 q.2) (kvs.map λ q=>(kW q.1,q.2)) ps ->
  ∃ l:List (Key×V),ps=l.map (λ kv=>(kV kv.1,kv.2))/\l.map (·.1)=kvs.map (·.1)/\Paired (λ(p:Key×W) (q:Key×V)=>p.1=q.1/\aG K H p.2 q.2) kvs l
 | [],ps,h=>by cases h;exact⟨[],rfl,rfl,.nil⟩
 | (k,d)::kvs,ps,h=>by
  cases h with
  | cons r t =>
   rename_i q qs
   obtain⟨x,y⟩:=q;obtain⟨l,e1,e2,e3⟩:=mZ t;refine⟨(k,y)::l,?_,by simp[e2],.cons ⟨rfl,r.2⟩ e3⟩;rw[List.map_cons,<- e1,<- qB r.1]
theorem aaW(h:PPs X pos keys values (trs.map λ p=>(up X.K p.1,up X.K p.2)))(hall:keys.all (·.isSome)=true:=by rfl)(hl:keys.length=values.length:=by rfl)(h0:keys≠[]:=by simp)
  (h15:keys.length<=15:=by decide):PD X (.Dict keys values pos) (uY trs):=fx (yJ h hall hl h0 h15) λ σ H Q ⟨τ,M,Qd,A,q,k⟩=>λ p hp=>by
 have kp0:Kp H (upd H p (.dK [])):=Kp.new hp;have m0:cH X.K (upd H p (.dK [])) (cn M p (.dic [])):=A.mem.put (mo:=.dic []) kp0 ⟨[],ar,.nil⟩;have hM:=A.mem.free hp;refine jZ (A.go kp0 m0) (q p hM) λ ps H2 ws M2 kp2 r2 m2 hq71=>?_;obtain⟨eM,kvs,ews,hlen,hnd,qq⟩:=hq71;subst ews;obtain⟨l0,e0,pr0⟩:=m2 p _ eM;have el0:l0=[]:=by cases pr0;rfl
 subst el0;obtain⟨l,e1,e2,e3⟩:=mZ r2;have elen:l.length=kvs.length:=by
  have:=congrArg List.length e2
  simpa using this
 refine⟨e0,l,e1,by omega,?_⟩;have em:fT [] l=l:=by rw[gE (by simpa [e2] using hnd)];rfl
 rw[em];have kp3:Kp H2 (upd H2 p (.dK l)):=Kp.set e0 (λ xs z=>nomatch z) λ _ _ z=>nomatch z;exact k _ _ (.m p) _ ((kp0.trans kp2).trans kp3) rfl (m2.put (mo:=.dic kvs) kp3 ⟨l,ar,Paired.mE e3 λ p q z=>⟨z.1,z.2.keep kp3⟩⟩) qq
section
variable {K:FG}{C:Addr}
end
theorem pcT(hc:eU X (.type T) r)(hd:fH X.K r rd)(hg:Gl X x)(hm:X.mg x=none)(hv:bootBuiltins x=some (.type T))(ha:PAd X (e::es) t)(hn:x ≠ "__name__":= by decide)(hdb:ND x:=by decide)
  (h1:dZ e=false:=by rfl)(h2:(es.all λ e=>!dZ e)=true:=by rfl):PD X (.Call (.Name x p) (e::es) [] pos) (dCB rd t):=wD hc hd hg hm hv ha hn hdb (bH e es X.env h1) (cL pos X.env es h2)
theorem zN:bootBuiltins "max" = some (.builtin "max"):=by decide +kernel
theorem ue(hu:X.A.units+1<cLine)(ho:Jd (PD X o td))(hi:Jd (PD X i ti))(hs:aew i:=by exact λ _ _=>rfl):Jd (PD X (.Subscript o i pos) (aau td ti)):=⟨D.acU (hu:=hu) (ho:=ho.h) (hi:=hi.h) (hs:=hs)⟩
theorem ux(hu:X.A.units+1<cLine)(ho:Jd (PD X o td))(he:Jd (PD X e ti))(m:M1 X o "get" apos e cpos:=by exact⟨rfl,rfl,rfl,rfl⟩):Jd (PD X (.Call (.Attribute o "get" apos) [e] [] cpos) (aah td ti)):=⟨D.adj (hu:=hu) (ho:=ho.h) (he:=he.h) (m:=m)⟩
theorem uh(h:Jd (PD X e td)):Jd (PD X e (abO td)):=⟨D.aex (h:=h.h)⟩
theorem d5(ho:Jd (PD X o td))(he:Jd (PD X e te))(hbase:attributeBase o "append" X.env (eval o X.env)=eval o X.env:=by rfl)(hfew:((backTo cpos (starEach [e] X.env)).all (λ x=>!x.1)&&(backToKw cpos (keywordEach [] X.env)).all (λ x=>x.1.isSome)
   && decide (([e]:List Expr).length+([]:List Keyword).length+(if ([]:List Keyword).isEmpty then 0 else 1)<30))=true:=by rfl)(hline:(apos.endLine==cpos.line)=true:=by rfl)(hs:dZ e=false:=by rfl):Jd (PD X (.Call (.Attribute o "append" apos) [e] [] cpos) (gx td te)):=⟨D.yR (ho:=ho.h) (he:=he.h) (hbase:=hbase) (hfew:=hfew) (hline:=hline) (hs:=hs)⟩
theorem vg(ha:Jd (PD X a ta))(he:∀ whole:Sem Value,PySem.isTrue a X.env whole=(do let v <- whole;standAt a.pos;holding [v] (truthy v)):=by intro _;rfl):Jd (PTd X a (aiL ta)):=⟨D.yj (ha:=ha.h) (he:=he)⟩
theorem adY(ha:Jd (PD X a ta))(hb:Jd (PD X b tb)):Jd (PD X (.BinOp a .Add b pos) (aiD ta tb)):=⟨D.agX (ha:=ha.h) (hb:=hb.h)⟩
theorem eP  : Jd (ade X [] qK):=⟨afR aeJ λ vs σ H Q hq68=>by obtain⟨ws,τ,M,Qd,r,A,⟨e,q⟩,k⟩:=hq68;subst e;cases r;exact⟨rfl,k σ H τ M (Kp.refl H) A q⟩⟩
theorem bp(h1:Jd (PGd X e g))(h2:Jd (ade X es gs))(hs:(assignEach (e::es) X.env).map (·.2)=assign e X.env::(assignEach es X.env).map (·.2):=by rfl):Jd (ade X (e::es) (dU g gs)):=⟨D.zL (h1:=h1.h) (h2:=h2.h) (hs:=hs)⟩
theorem fN(hc:X.calm=true)(h:Jd (ade X es gs))(hn:(assignEach es X.env).length=n:=by rfl)(hst:(assignEach es X.env).findIdx? (·.1)=none:=by rfl):Jd (PGd X (.Tuple es k pos) (gT n gs)):=⟨D.adw (hc:=hc) (h:=h.h) (hn:=hn) (hst:=hst)⟩
theorem qm(h:Jd (PPs X pos keys values (trs.map (pm X.K))))(hall:keys.all (·.isSome)=true:=by rfl)(hl:keys.length=values.length:=by rfl)(h0:keys≠[]:=by simp)(h15:keys.length<=15:=by decide):Jd (PD X (.Dict keys values pos) (uY trs)):=⟨D.aaW (h:=h.h) (hall:=hall) (hl:=hl) (h0:=h0) (h15:=h15)⟩
theorem acv(hc:eU X (.type T) r)(hd:fH X.K r rd)(hg:Gl X x)(hm:X.mg x=none)(hv:bootBuiltins x=some (.type T))(ha:Jd (PAd X (e::es) t))(hn:x ≠ "__name__":= by decide)(hdb:ND x:=by decide)(h1:dZ e=false:=by rfl)(h2:(es.all λ e=>!dZ e)=true:=by rfl):Jd (PD X (.Call (.Name x p) (e::es) [] pos) (dCB rd t)):=⟨D.pcT (hc:=hc) (hd:=hd) (hg:=hg) (hm:=hm) (hv:=hv) (ha:=ha.h) (hn:=hn) (hdb:=hdb) (h1:=h1) (h2:=h2)⟩
@[simp] theorem agU (i j:Int):dR (.int i) (.int j)=true:=rfl
@[simp] theorem af0 (x y:Str):dR (.str x) (.str y)=true:=rfl
@[simp] theorem afa (x y:Bool):dR (.bool x) (.bool y)=true:=rfl
@[simp] theorem aiv (i j:Int):PyData.eqv (.int i) (.int j)=(i==j):=by rw[PyData.eqv]
@[simp] theorem ain (i j:Str):PyData.eqv (.str i) (.str j)=(i==j):=by rw[PyData.eqv]
@[simp] theorem ajp (a:Addr):u3 (.m a)=true:=rfl
@[simp] theorem ahc (ds:List PyData):u3 (.d (.list ds))=true:=rfl
@[simp] theorem afd (ds:List PyData):u3 (.d (.tuple ds))=true:=rfl
@[simp] theorem ahz (n:Nat):ixN (n+1) 0=some 0:=by unfold ixN;simp
theorem acu{α:Type}{xs:List α}{i:Int}(h0:0<=i)(h1:i<xs.length):atI xs i=some (xs[i.toNat]'(by omega)):=by
 unfold atI ixN;rw[if_pos h0,if_pos h1];simp
inductive Bag(M:MH) (p:Addr):Prop
 | mk (a b c:Int) (ns:List Int) (e:M p=some (.lst [.d (.int a),.d (.int b),.d (.int c),.d (.list (ns.map PyData.int))])) (z:0<=a/\0<=b/\b<2147483647/\0<=c/\(∀ n∈ns,0<=n)):Bag M p
def e9:SpD:=λ ws M Q=>∃ ns:List Int,ws=[.d (.list (ns.map PyData.int))]/\ns.length<=1000/\∀ p M',M p=none->(∀ q,q≠p->M' q=M q)->Bag M' p->Q (.m p) M'
inductive pS(ws:List W) (M:MH) (Q:QD):Prop
 | mk (p:Addr) (n:Int) (z0:ws=[.m p,.d (.int n)]) (z1:Bag M p) (z2:0<n) (z3:n<1073741824) (z4:∀ (r:Int) M',0<=r->r<n->Bag M' p->(∀ q,q≠p->M' q=M q)->Q (.d (.int r)) M'):pS ws M Q
def az:SpD:=pS
theorem zX:∀ ws M Q,e9 ws M Q->ws.length=1:=by rintro ws M Q ⟨ns,rfl,_⟩;rfl
theorem wb:∀ ws M Q,az ws M Q->ws.length=2:=by rintro ws M Q ⟨p,n,rfl,_⟩;rfl
theorem rY{n:Nat}{i:Int}(h0:0<=i)(h1:i<n):ixN n i=some i.toNat:=by unfold ixN;rw[if_pos h0,if_pos h1]
theorem abZ(hm:M p=some (.lst ws))(h:atI ws i=some x):ixW M (.m p) i=some x:=by simp only[ixW,hm];exact h
theorem dY{c:Bool}{A B:Prop}(h1:c=true->A)(h2:c=false->B):if c=true then A else B:=by
 cases c with
 | true=>rw[if_pos rfl];exact h1 rfl
 | false=>rw[if_neg Bool.false_ne_true];exact h2 rfl
abbrev w9:List Str:=["_law_script"]
def xb:TSd:=
  bR (vC (af (dC (.d (.int 0))) (af (dC (.d (.int 1234567891))) (af (dC (.d (.int 0))) (af (dLC (dI (dSl (aj 0) (bJ) (dq (dC (.d (.int 63)))))) (gN 0) (pb) (dCB agv (af (aj 0) (aF))) 1 []) (aF))))))
abbrev tS:List Str:=["_law_bag_here", "_law_many", "_law_cell", "_law_value", "_law_first", "_law_second"]
def tK:TSd:=
  aW (dIf (aJ (dOp ajb (dOp dQ (aj 0) (dC (.d (.int 0)))) (dC (.d (.int 0)))))
   (aW (cv (dC (.d (.int 0))) (gN 2)) <|
   aW (dIf (aJ (dOp adO (dOp dQ (aj 0) (dC (.d (.int 2)))) (dCB dJ (af (dOp dQ (aj 0) (dC (.d (.int 3)))) (aF)))))
    (cv (dOp dQ (dOp dQ (aj 0) (dC (.d (.int 3)))) (dOp dQ (aj 0) (dC (.d (.int 2))))) (gN 2))
    (bh)) <|
   aW (aaS (aj 0) (dC (.d (.int 2))) (dC (.d (.int 1))) (λ i j=>i+j)) <|
   aW (dIf (aJ (dOp ahP (aj 2) (dC (.d (.int 1000000000000000000)))))
    (cv (aj 2) (z9 (aj 0) (dC (.d (.int 0)))))
    (bh)) <|
   cv (dOp fE (dOp bA (dOp bA (dOp gy (dOp dQ (aj 0) (dC (.d (.int 1)))) (dC (.d (.int 48271)))) (dOp fE (aj 2) (dC (.d (.int 2147483647))))) (dOp gy (dC (.d (.int 7919))) (dOp dQ (aj 0) (dC (.d (.int 2)))))) (dC (.d (.int 2147483647)))) (z9 (aj 0) (dC (.d (.int 1)))))
   (bh)) <|
  aW (dIf (aJ (dOp aa5 (dOp dQ (aj 0) (dC (.d (.int 0)))) (dC (.d (.int 0)))))
   (aW (cv (dOp fE (dOp dQ (aj 0) (dC (.d (.int 0)))) (aj 1)) (gN 3)) <|
   aW (cv (dOp v8 (dOp dQ (aj 0) (dC (.d (.int 0)))) (aj 1)) (z9 (aj 0) (dC (.d (.int 0))))) <|
   bR (aj 3))
   (bh)) <|
  aW (cv (dOp fE (dOp gy (dOp bA (dOp dQ (aj 0) (dC (.d (.int 1)))) (dC (.d (.int 1)))) (dC (.d (.int 39373)))) (dC (.d (.int 1000000007)))) (gN 4)) <|
  aW (cv (dOp fE (dOp gy (dOp fE (dOp gy (aj 4) (aj 4)) (dC (.d (.int 998244353)))) (dC (.d (.int 30011)))) (dC (.d (.int 998244353)))) (gN 5)) <|
  aW (dIf (aJ (dOp aa5 (aj 1) (dC (.d (.int 1000000)))))
   (bR (dOp fE (dOp bA (dOp gy (aj 5) (dC (.d (.int 1000000007)))) (aj 4)) (aj 1)))
   (bh)) <|
  bR (dOp fE (dOp v8 (aj 5) (dC (.d (.int 7)))) (aj 1))
abbrev aa7(a b c:Int)(ns:List Int):List W:=[.d (.int a),.d (.int b),.d (.int c),.d (.list (ns.map PyData.int))]
theorem iS(hm:M p=some (.lst (aa7 a b c ns)))(ha:0<=a)(hb:0<=b)(hb2:b<2147483647)(hc:0<=c)(hns:∀ n∈ns,0<=n)(hn:0<n)(hn2:n<1073741824)
  (k:∀ (r:Int) M',0<=r->r<n->Bag M' p->(∀ q,q≠p->M' q=M q)->Q (.d (.int r)) M')(hD:D.rt=Q) :
  (aW (dIf (aJ (dOp aa5 (dOp dQ (aj 0) (dC (.d (.int 0)))) (dC (.d (.int 0)))))
   (aW (cv (dOp fE (dOp dQ (aj 0) (dC (.d (.int 0)))) (aj 1)) (gN 3)) <|
   aW (cv (dOp v8 (dOp dQ (aj 0) (dC (.d (.int 0)))) (aj 1)) (z9 (aj 0) (dC (.d (.int 0))))) <|
   bR (aj 3))
   (bh)) <|
  aW (cv (dOp fE (dOp gy (dOp bA (dOp dQ (aj 0) (dC (.d (.int 1)))) (dC (.d (.int 1)))) (dC (.d (.int 39373)))) (dC (.d (.int 1000000007)))) (gN 4)) <|
  aW (cv (dOp fE (dOp gy (dOp fE (dOp gy (aj 4) (aj 4)) (dC (.d (.int 998244353)))) (dC (.d (.int 30011)))) (dC (.d (.int 998244353)))) (gN 5)) <|
  aW (dIf (aJ (dOp aa5 (aj 1) (dC (.d (.int 1000000)))))
   (bR (dOp fE (dOp bA (dOp gy (aj 5) (dC (.d (.int 1000000007)))) (aj 4)) (aj 1)))
   (bh)) <|
  bR (dOp fE (dOp v8 (aj 5) (dC (.d (.int 7)))) (aj 1))) D [some (.m p),some (.d (.int n)),x,none,none,none] M:=by
 subst hD;have i0:ixW M (.m p) 0=some (.d (.int a)):=abZ hm rfl;have i1:ixW M (.m p) 1=some (.d (.int b)):=abZ hm rfl;have same:Bag M p:=⟨a,b,c,ns,hm,ha,hb,hb2,hc,hns⟩;refine⟨_,rfl,_,_,rfl,i0,rfl,_,_,rfl,rfl,_,rfl,?_⟩;refine dY (λ h=>?_) (λ h=>?_)
 ·have h0:0<a:=of_decide_eq_true h;refine⟨_,rfl,_,_,rfl,i0,rfl,_,rfl,_,_,rfl,rfl,hn,?_⟩;refine⟨_,rfl,_,_,rfl,i0,rfl,_,rfl,_,_,rfl,rfl,⟨hn,hn2⟩,?_⟩;refine⟨_,rfl,_,_,_,_,rfl,rfl,hm,rfl,?_⟩;refine⟨_,rfl,?_⟩;refine k _ _ (Int.emod_nonneg _ (by omega)) (Int.emod_lt_of_pos _ hn) ⟨a / n,b,c,ns,aA,Int.ediv_nonneg ha (by omega),hb,hb2,hc,hns⟩ λ q hq=>aR hq
 ·refine⟨_,rfl,_,_,rfl,i1,rfl,.inl ?_⟩;refine⟨_,_,rfl,rfl,_,_,rfl,rfl,.inl ⟨by omega,by omega⟩,_,_,rfl,rfl,(by decide:(0:Int)<1000000007),?_⟩;have f0:0<=(b+1) * 39373 % 1000000007:=Int.emod_nonneg _ (by decide);have f1:(b+1) * 39373 % 1000000007<1000000007:=Int.emod_lt_of_pos _ (by decide);refine⟨_,rfl,_,rfl,_,_,rfl,rfl,.inl ⟨by omega,by omega⟩,_,_,rfl,rfl,(by decide:(0:Int)<998244353),?_⟩;have g0:0<=(b+1) * 39373 % 1000000007 * ((b+1) * 39373 % 1000000007) % 998244353:=Int.emod_nonneg _ (by decide);have g1:(b+1) * 39373 % 1000000007 * ((b+1) * 39373 % 1000000007) % 998244353<998244353:=Int.emod_lt_of_pos _ (by decide);refine⟨_,_,rfl,rfl,.inl ⟨by omega,by omega⟩,_,_,rfl,rfl,(by decide:(0:Int)<998244353),?_⟩;have e0:0<=(b+1) * 39373 % 1000000007 * ((b+1) * 39373 % 1000000007) % 998244353 * 30011 % 998244353:=Int.emod_nonneg _ (by decide);have e1:(b+1) * 39373 % 1000000007 * ((b+1) * 39373 % 1000000007) % 998244353 * 30011 % 998244353<998244353:=Int.emod_lt_of_pos _ (by decide);refine⟨_,rfl,_,_,rfl,rfl,_,rfl,?_⟩;refine dY (λ h=>?_) (λ h=>?_)
  ·refine⟨_,rfl,_,_,rfl,rfl,.inl ⟨by omega,by omega⟩,_,rfl,.inl ⟨_,_,rfl,rfl,_,rfl,_,_,rfl,rfl,hn,?_⟩⟩;exact k _ _ (Int.emod_nonneg _ (by omega)) (Int.emod_lt_of_pos _ hn) same λ q _=>rfl
  ·refine⟨_,rfl,_,_,rfl,rfl,⟨by decide,by decide⟩,_,rfl,_,_,rfl,rfl,hn,?_⟩;exact k _ _ (Int.emod_nonneg _ (by omega)) (Int.emod_lt_of_pos _ hn) same λ q _=>rfl
theorem mB(hm:M p=some (.lst (aa7 a b c ns)))(ha:0<=a)(hb:0<=b)(hb2:b<2147483647)(hc:0<=c)(hcell:0<=cell)
  (k:∀ a' b' c' M',0<=a'->0<=b'->b'<2147483647->0<=c'->M' p=some (.lst (aa7 a' b' c' ns))->(∀ q,q≠p->M' q=M q)->D.nx [some (.m p),some (.d (.int n)),some (.d (.int cell)),none,none,none] M') :
  (aW (aaS (aj 0) (dC (.d (.int 2))) (dC (.d (.int 1))) (λ i j=>i+j)) <|
   aW (dIf (aJ (dOp ahP (aj 2) (dC (.d (.int 1000000000000000000)))))
    (cv (aj 2) (z9 (aj 0) (dC (.d (.int 0)))))
    (bh)) <|
   cv (dOp fE (dOp bA (dOp bA (dOp gy (dOp dQ (aj 0) (dC (.d (.int 1)))) (dC (.d (.int 48271)))) (dOp fE (aj 2) (dC (.d (.int 2147483647))))) (dOp gy (dC (.d (.int 7919))) (dOp dQ (aj 0) (dC (.d (.int 2)))))) (dC (.d (.int 2147483647)))) (z9 (aj 0) (dC (.d (.int 1)))))
   D [some (.m p),some (.d (.int n)),some (.d (.int cell)),none,none,none] M:=by
 refine⟨_,rfl,_,_,_,_,_,rfl,rfl,hm,rfl,rfl,_,rfl,rfl,?_⟩;have m1:cn M p (.lst (aa7 a b (c+1) ns)) p=some (.lst (aa7 a b (c+1) ns)):=aA;have f1:∀ q,q≠p->cn M p (.lst (aa7 a b (c+1) ns)) q=M q:=λ q hq=>aR hq;show(aW _ _) D _ (cn M p (.lst (aa7 a b (c+1) ns)));generalize cn M p (.lst (aa7 a b (c+1) ns))=M1 at m1 f1;have fin:∀ (a':Int) (M2:MH),0<=a'->M2 p=some (.lst (aa7 a' b (c+1) ns))->(∀ q,q≠p->M2 q=M q) ->
   cv (dOp fE (dOp bA (dOp bA (dOp gy (dOp dQ (aj 0) (dC (.d (.int 1)))) (dC (.d (.int 48271)))) (dOp fE (aj 2) (dC (.d (.int 2147483647))))) (dOp gy (dC (.d (.int 7919))) (dOp dQ (aj 0) (dC (.d (.int 2)))))) (dC (.d (.int 2147483647)))) (z9 (aj 0) (dC (.d (.int 1)))) D [some (.m p),some (.d (.int n)),some (.d (.int cell)),none,none,none] M2:=by
  intro a' M2 ha' m2 f2;have i1:ixW M2 (.m p) 1=some (.d (.int b)):=abZ m2 rfl;have i2:ixW M2 (.m p) 2=some (.d (.int (c+1))):=abZ m2 rfl;refine⟨_,rfl,_,_,rfl,i1,rfl,_,_,rfl,rfl,.inl ⟨by omega,by omega⟩,_,rfl,_,_,rfl,rfl,(by decide:(0:Int)<2147483647),.inl ?_⟩;refine⟨_,_,rfl,rfl,_,rfl,_,_,rfl,i2,rfl,_,_,rfl,rfl,.inl ⟨by decide,by decide⟩,.inl ?_⟩;refine⟨_,_,rfl,rfl,_,_,rfl,rfl,(by decide:(0:Int)<2147483647),_,rfl,_,_,_,_,rfl,rfl,m2,rfl,?_⟩;exact k a' _ (c+1) _ ha' (Int.emod_nonneg _ (by decide)) (Int.emod_lt_of_pos _ (by decide)) (by omega) aA λ q hq=>(aR hq).trans (f2 q hq)
 refine⟨_,rfl,_,_,rfl,rfl,_,rfl,?_⟩;refine dY (λ h=>?_) (λ h=>?_)
 ·refine⟨_,rfl,_,rfl,_,_,_,_,rfl,rfl,m1,rfl,?_⟩;exact fin cell _ hcell aA λ q hq=>(aR hq).trans (f1 q hq)
 ·exact fin a M1 ha m1 f1
theorem rK:∀ ws M Q,az ws M Q->tK {nx:=λ _ M'=>Q (.d .none) M',rt:=Q} (aT tS ws) M:=by
 rintro ws M Q ⟨p,n,rfl,⟨a,b,c,ns,hm,ha,hb,hb2,hc,hns⟩,hn,hn2,k⟩;have i0:ixW M (.m p) 0=some (.d (.int a)):=abZ hm rfl;have i2:ixW M (.m p) 2=some (.d (.int c)):=abZ hm rfl;have i3:ixW M (.m p) 3=some (.d (.list (ns.map PyData.int))):=abZ hm rfl;refine⟨_,rfl,_,_,rfl,i0,rfl,_,_,rfl,rfl,rfl,_,rfl,?_⟩;refine dY (λ h=>?_) (λ h=>?_)
 ·refine⟨_,rfl,_,_,rfl,i2,rfl,_,rfl,_,_,rfl,i3,rfl,_,_,rfl,rfl,rfl,_,_,rfl,rfl,_,rfl,?_⟩;refine dY (λ h=>?_) (λ h=>?_)
  ·have hlt:c<((ns.map PyData.int).length:Nat):=of_decide_eq_true h;have hlt':c.toNat<ns.length:=by rw[List.length_map] at hlt;omega
   have ic:ixW M (.d (.list (ns.map PyData.int))) c=some (.d (.int (ns[c.toNat]'hlt'))):=by simp only[ixW];rw[acu hc hlt];simp
   refine⟨_,rfl,_,_,rfl,i3,rfl,_,rfl,_,_,rfl,i2,rfl,_,_,rfl,ic,rfl,?_⟩;refine mB (cell:=ns[c.toNat]'hlt') hm ha hb hb2 hc (hns _ (List.getElem_mem _)) λ a' b' c' M' h1 h2 h3 h4 h5 h6=>?_;exact iS (x:=some (.d (.int (ns[c.toNat]'hlt')))) h5 h1 h2 h3 h4 hns hn hn2 (λ r M'' r0 r1 bg fr=>k r M'' r0 r1 bg λ q hq=>(fr q hq).trans (h6 q hq)) rfl
  ·refine mB (cell:=0) hm ha hb hb2 hc (Int.le_refl 0) λ a' b' c' M' h1 h2 h3 h4 h5 h6=>?_;exact iS (x:=some (.d (.int 0))) h5 h1 h2 h3 h4 hns hn hn2 (λ r M'' r0 r1 bg fr=>k r M'' r0 r1 bg λ q hq=>(fr q hq).trans (h6 q hq)) rfl
 ·exact iS (x:=none) hm ha hb hb2 hc hns hn hn2 k rfl
theorem xY{ws:List W}{i:Nat}(h:ws[i]? =some w):(ws.take (i+1)).filterMap f=(ws.take i).filterMap f++(f w).toList:=by rw[List.take_add_one,h,List.filterMap_append];cases e:f w<;>simp[e]
theorem adI{tt:TTd}{te:TD}{fr:List Nat}{τ:DS}{M:MH}{Q:List PyData->MH->Prop}{ws:List W}(f:W->Option PyData)(hl:ws.length<=sizeLine)
  (step:∀ w∈ws,∀ P':Option PyData->Prop,P' (f w)->tt (some w::fr.map λ j=>(τ[j]?).getD none) M λ b M3=>if b=true then te (some w::fr.map λ j=>(τ[j]?).getD none) M3 λ y M4=>∃ d,y=.d d/\M4=M/\P' (some d) else M3=M/\P' none)
  (q:Q (ws.filterMap f) M):∃ P:Nat->List PyData->DS->MH->Prop,P 0 [] (afb 1 fr τ) M /\
   (∀ i w acc τ M,ws[i]? =some w->P i acc τ M->acc.length<sizeLine/\gN 0 w τ M λ τ2 M2=>tt τ2 M2 λ b M3=>if b=true then te τ2 M3 λ y M4=>∃ d,y=.d d/\P (i+1) (acc++[d]) τ2 M4 else P (i+1) acc τ2 M3) /\
   ∀ acc τ M,P ws.length acc τ M->Q acc M:=by
 let Pk:Nat->List PyData->DS->Prop:=λ i acc τ'=>i<=ws.length/\acc=(ws.take i).filterMap f/\∃ x,τ'=x::fr.map λ j=>(τ[j]?).getD none
 refine⟨λ i acc τ' M'=>M'=M/\Pk i acc τ',⟨rfl,Nat.zero_le _,rfl,none,rfl⟩,λ i w acc τ' M' hw hp=>?_,λ acc τ' M' hp=>?_⟩
 ·obtain⟨rfl,hi,rfl,x,rfl⟩:=hp;have hlt:i<ws.length:=(List.getElem?_eq_some_iff.mp hw).1;refine⟨?_,step w (List.mem_of_getElem? hw) (λ o=>match o with
   | some d=>Pk (i+1) ((ws.take i).filterMap f++[d]) (some w::fr.map λ j=>(τ[j]?).getD none)
   | none=>Pk (i+1) ((ws.take i).filterMap f) (some w::fr.map λ j=>(τ[j]?).getD none)) ?_⟩
  ·have h1:=List.length_filterMap_le f (ws.take i);rw[List.length_take] at h1;omega
  ·cases e:f w with
   | some d=>exact⟨hlt,by rw[xY hw,e];rfl,_,rfl⟩
   | none=>exact⟨hlt,by rw[xY hw,e];simp,_,rfl⟩
 ·obtain⟨rfl,hi,rfl,x,rfl⟩:=hp;rw[List.take_of_length_le (Nat.le_refl _)];exact q
theorem ajr{tt:TTd}{te:TD}{fr:List Nat}{τ:DS}{M:MH}{Q:List PyData->MH->Prop}{ws:List W}(J:MH->Prop)(G:PyData->Prop)(hl:ws.length<=sizeLine)(j0:J M)
  (step:∀ w∈ws,∀ M',J M'->∀ P':Option PyData->MH->Prop,(∀ d M'',G d->J M''->P' (some d) M'')->(∀ M'',J M''->P' none M'') ->
   tt (some w::fr.map λ j=>(τ[j]?).getD none) M' λ b M3=>if b=true then te (some w::fr.map λ j=>(τ[j]?).getD none) M3 λ y M4=>∃ d,y=.d d/\P' (some d) M4 else P' none M3)
  (q:∀ acc M',J M'->(∀ d∈acc,G d)->acc.length<=ws.length->Q acc M'):∃ P:Nat->List PyData->DS->MH->Prop,P 0 [] (afb 1 fr τ) M /\
   (∀ i w acc τ M,ws[i]? =some w->P i acc τ M->acc.length<sizeLine/\gN 0 w τ M λ τ2 M2=>tt τ2 M2 λ b M3=>if b=true then te τ2 M3 λ y M4=>∃ d,y=.d d/\P (i+1) (acc++[d]) τ2 M4 else P (i+1) acc τ2 M3) /\
   ∀ acc τ M,P ws.length acc τ M->Q acc M:=by
 let Pk:Nat->List PyData->DS->MH->Prop:=λ i acc τ' M'=>acc.length<=i/\(∀ d∈acc,G d)/\J M'/\∃ x,τ'=x::fr.map λ j=>(τ[j]?).getD none
 refine⟨Pk,⟨Nat.le_refl _,λ d h=>(nomatch h),j0,none,rfl⟩,λ i w acc τ' M' hw hp=>?_,λ acc τ' M' hp=>?_⟩
 ·obtain⟨hi,hg,hj,x,rfl⟩:=hp;have hlt:i<ws.length:=(List.getElem?_eq_some_iff.mp hw).1;refine⟨by omega,step w (List.mem_of_getElem? hw) M' hj (λ o M2=>match o with
   | some d=>Pk (i+1) (acc++[d]) (some w::fr.map λ j=>(τ[j]?).getD none) M2
   | none=>Pk (i+1) acc (some w::fr.map λ j=>(τ[j]?).getD none) M2) (λ d M2 gd j2=>?_) λ M2 j2=>?_⟩
  ·refine⟨by rw[List.length_append,List.length_singleton];omega,λ d' hd'=>?_,j2,_,rfl⟩;rcases List.mem_append.mp hd' with z | z
   ·exact hg d' z
   ·rw[List.mem_singleton.mp z];exact gd
  ·exact⟨by omega,hg,j2,_,rfl⟩
 ·obtain⟨hi,hg,hj,x,rfl⟩:=hp;exact q acc M' hj hg hi
theorem ag5{α:Type}(g:α->W)(f:W->Option PyData)(h:α->PyData)(e:∀ a,f (g a)=some (h a))(l:List α):(l.map g).filterMap f=l.map h:=by
 induction l with
 | nil=>rfl
 | cons a l ih=>rw[List.map_cons,List.filterMap_cons,e,ih];rfl
theorem u7:∀ ws M Q,e9 ws M Q->xb {nx:=λ _ M'=>Q (.d .none) M',rt:=Q} (aT w9 ws) M:=by
 rintro ws M Q ⟨ns,rfl,hl,k⟩;refine⟨_,rfl,_,rfl,_,rfl,rfl,_,rfl,?_⟩;have ec:cutD (ns.map PyData.int) none (some 63)=(cutD ns none (some 63)).map PyData.int:=by simp only[cutD,List.length_map,List.map_take,List.map_drop]
 have hlen:(cutD ns none (some 63)).length<=ns.length:=by simp only[cutD,List.length_take,List.length_drop];omega
 have h1000:(1000:Nat)<=sizeLine:=by rw[sizeLine_eq];decide
 dsimp only;refine adI (λ w=>match w with
  | .d (.int n)=>some (.int (if n<0 then -n else n))
  | _=>none) ?hl (λ w hw P' hp=>?_) ?_
 case hl=>rw[List.length_map,ec,List.length_map];omega
 ·rw[ec,List.map_map] at hw;obtain⟨n,_,rfl⟩:=List.mem_map.mp hw;exact⟨_,rfl,_,rfl,_,rfl,rfl,hp⟩
 ·have e2:(List.map W.d (cutD (ns.map PyData.int) none (some 63))).filterMap (λ w=>match w with
    | .d (.int n)=>some (PyData.int (if n<0 then -n else n))
    | _=>none)=((cutD ns none (some 63)).map λ n=>if n<0 then -n else n).map PyData.int:=by
   rw[ec,List.map_map,ag5 (W.d ∘ PyData.int) _ (λ n=>PyData.int (if n<0 then -n else n)) (λ n=>rfl),List.map_map];rfl
  rw[e2];refine⟨by simp[sizeLine_eq],λ p hp=>k p _ hp (λ q hq=>aR hq) ⟨0,1234567891,0,_,aA,Int.le_refl 0,by decide,by decide,Int.le_refl 0,λ n hn=>?_⟩⟩;obtain⟨m,_,rfl⟩:=List.mem_map.mp hn
  split<;>omega
theorem yN{K:FG}{H:Hp}{a:Addr}{ns:List Int}{sp:SpD}(hl:ns.length<=63)(hO:L2.ahq H)(hS:L2.SqL K H a (ns.map V.int))(h:∀ ns:List Int,ns.length<=63->sp [.d (.list (ns.map PyData.int))] (λ _=>none) (λ w _=>w=.d (.bool true))) :
  eX K sp [.ref a] H (λ v _=>v=.bl true) λ _ _ _=>False:=by
 refine⟨[.d (.list (ns.map PyData.int))],λ _=>none,_,.cons ?_ .nil,λ a o z=>(nomatch z),h ns hl,λ v H' w M' kp r m q=>?_⟩
 ·simp only[aG,aC];refine⟨a,_,rfl,?_,bo.ints ns⟩;rcases hS with (h | h) | h
  ·rcases hO a with z | ⟨ob,xs,z⟩
   ·rw[h] at z;cases z
   ·rw[h] at z;cases z
  ·exact .inl h
  ·exact .inr h
 ·subst q;simp only[aG,aC] at r;exact r
def dW(z:Str):Bool:=z.cps.all (·<128)
mutual
def big:PyData->Nat
 | .none=>4
 | .bool _=>5
 | .int _=>2000
 | .str z=>10 * z.length+2
 | .list ds=>aby ds+2
 | .tuple ds=>aby ds+3
 | .dict kvs=>agR kvs+2
def aby:List PyData->Nat
 | []=>0
 | d::ds=>big d+2+aby ds
def agR:List (PyData×PyData)->Nat
 | []=>0
 | (k,d)::ds=>big k+2+big d+2+agR ds
end
mutual
def fW:PyData->Bool
 | .none=>true
 | .bool _=>true
 | .int i=>decide (i.natAbs.log2<1920)
 | .str z=>dW z
 | .list ds=>mh ds
 | .tuple ds=>mh ds
 | .dict kvs=>vE kvs
def mh:List PyData->Bool
 | []=>true
 | d::ds=>fW d&&mh ds
def vE:List (PyData×PyData)->Bool
 | []=>true
 | (k,d)::ds=>fW k&&fW d&&vE ds
end
theorem kM:∀ ts:List Str,(listText ts).length<=piled ts+2
 | []=>by decide +kernel
 | t::r=>by
  have h:=textFrom_length_pos r 1 (("[" : Str)++(if (0:Nat) > 0 then ", " else "" : String)++t) (Nat.succ_pos 0);have e:((("[" : Str)++(if (0:Nat) > 0 then ", " else "" : String)++t)).length=1+t.length:=by rw[strLen_append,strLen_append];rfl
  have hX:(listText (t::r)).length=(textFrom 0 "[" (t::r)).length+1:=by show(textFrom 0 "[" (t::r) ++ "]").length=_;rw[strLen_append];rfl
  have h2:(textFrom 0 "[" (t::r)).length=(1+t.length)+piled r:=by rw[<- e];exact h
  have h3:piled (t::r)=t.length+2+piled r:=by simp[piled]
  omega
theorem join_le(ts:List Str):(Str.join ", " ts).length<=piled ts:=by
 cases ts with
 | nil=>decide +kernel
 | cons t r=>have:=join_length_add (t::r) (by simp);omega
theorem i9(ts:List Str):(tupleText ts).length<=piled ts+3:=by
 unfold tupleText;rw[strLen_append,strLen_append];have e1:((("(" : String):Str)).length=1:=rfl;have e3:(((if ts.length==1 then ",)" else ")" : String):Str)).length<=2:=by split<;>decide
 have:=join_le ts;omega
theorem si(ts:List Str):(dictText ts).length<=piled ts+2:=by
 unfold dictText;rw[strLen_append,strLen_append];have e1:((("{" : String):Str)).length=1:=rfl;have e2:((("}" : String):Str)).length=1:=rfl;have:=join_le ts;omega
theorem ac5{i:Int}(h:i.natAbs.log2<1920):(Str.ofString (toString i)).length<=2000:=by have e:=int_text_length_le (k:=1920) (by decide) h;rw[PySem.ofString_length];omega
theorem repr_len(h:dW z=true):(reprText z).length<=10 * z.length+2:=StrLaws.reprText_len z λ c hc=>by
 have:=Array.all_eq_true_iff_forall_mem.mp h c (by simpa using hc);have h2:c<128:=by simpa using this
 omega
mutual
theorem shown_le:∀ d:PyData,fW d=true->d.shown.length<=big d
 | .none,_=>by rw[PyData.shown];decide +kernel
 | .bool b,_=>by rw[PyData.shown];cases b<;>decide +kernel
 | .int i,h=>by rw[PyData.shown];exact ac5 (by simpa [fW] using h)
 | .str z,h=>by rw[PyData.shown,big];exact repr_len (by simpa [fW] using h)
 | .list ds,h=>by have h1:=kX ds (by simpa [fW] using h);have h2:=kM (PyData.shownAll ds);rw[PyData.shown,big];omega
 | .tuple ds,h=>by have h1:=kX ds (by simpa [fW] using h);have h2:=i9 (PyData.shownAll ds);rw[PyData.shown,big];omega
 | .dict ds,h=>by have h1:=pI ds (by simpa [fW] using h);have h2:=si (PyData.shownKv ds);rw[PyData.shown,big];omega
theorem kX:∀ ds:List PyData,mh ds=true->piled (PyData.shownAll ds)<=aby ds
 | [],_=>by simp[PyData.shownAll,piled,aby]
 | d::ds,h=>by simp only[mh,Bool.and_eq_true] at h;have h1:=shown_le d h.1;have h2:=kX ds h.2;simp only[PyData.shownAll,piled_cons,aby];omega
theorem pI:∀ ds:List (PyData×PyData),vE ds=true->piled (PyData.shownKv ds)<=agR ds
 | [],_=>by simp[PyData.shownKv,piled,agR]
 | (k,d)::ds,h=>by simp only[vE,Bool.and_eq_true] at h;have h1:=shown_le k h.1.1;have h3:=shown_le d h.1.2;have h2:=pI ds h.2;have e:((((": " : String):Str))).length=2:=rfl;simp only[PyData.shownKv,piled_cons,agR,strLen_append,e];omega
end
mutual
theorem gw:∀ d:PyData,fW d=true->d.showable=true
 | .none,_=>by simp[PyData.showable]
 | .bool b,_=>by simp[PyData.showable]
 | .int i,h=>by simpa [PyData.showable,fW] using h
 | .str z,h=>by simp[PyData.showable]
 | .list ds,h=>by simpa [PyData.showable] using iW ds (by simpa [fW] using h)
 | .tuple ds,h=>by simpa [PyData.showable] using iW ds (by simpa [fW] using h)
 | .dict ds,h=>by simpa [PyData.showable] using mS ds (by simpa [fW] using h)
theorem iW:∀ ds:List PyData,mh ds=true->PyData.showableAll ds=true
 | [],_=>by simp[PyData.showableAll]
 | d::ds,h=>by simp only[mh,Bool.and_eq_true] at h;simp[PyData.showableAll,gw d h.1,iW ds h.2]
theorem mS:∀ ds:List (PyData×PyData),vE ds=true->PyData.showableKv ds=true
 | [],_=>by simp[PyData.showableKv]
 | (k,d)::ds,h=>by simp only[vE,Bool.and_eq_true] at h;simp[PyData.showableKv,gw k h.1.1,gw d h.1.2,mS ds h.2]
end
theorem s16:(1000000:Nat)<=sizeLine:=by rw[sizeLine_eq];decide
theorem ad9(h:fW d=true)(hb:big d<=1000000)(hd:d.depth<=60)(hk:d.hasDict=false):fy d=true:=by have h1:=gw d h;have h2:=shown_le d h;have h3:=s16;simp only[fy,h1,Bool.true_and,Bool.and_eq_true,decide_eq_true_eq,Bool.or_eq_true,Bool.not_eq_true'];exact⟨⟨by omega,hd⟩,.inl hk⟩
end D
namespace D
open L2
def Asc(z:Str):Prop:=∀ c∈z.cps.toList,c<128
theorem str_len(z:Str):z.cps.toList.length=z.length:=by simp[Str.length]
theorem ee(hx:Asc x)(hy:Asc y):Asc (x++y):=by
 intro c hc;have e:(x++y).cps.toList=x.cps.toList++y.cps.toList:=by show(x.cps++y.cps).toList=_;simp
 rw[e] at hc;rcases List.mem_append.mp hc with h | h
 ·exact hx c h
 ·exact hy c h
theorem kI(h:Asc z)(lo hi:Option Int):Asc (Txt.slice z lo hi):=by
 unfold Txt.slice
 split
 ·exact h
 ·intro c hc;have hc':c∈(Builtin.Str.strSliceIndices lo hi 1 z.length).filterMap (z.cps[·]?):=by simpa using hc
  obtain⟨i,_,e⟩:=List.mem_filterMap.mp hc';exact h c (by simpa using Array.mem_of_getElem? e)
theorem pK(g:Array Nat)(hg:∀ c∈g.toList,c<128):∀ (l:List Str) (acc:Array Nat),(∀ c∈acc.toList,c<128)->(∀ p∈l,Asc p) ->
  (∀ c∈(l.foldl (λ acc p=>acc++g++p.cps) acc).toList,c<128)/\(l.foldl (λ acc p=>acc++g++p.cps) acc).size=acc.size+(l.map λ p=>g.size+p.length).sum
 | [],acc,ha,_=>⟨ha,by simp⟩
 | p::l,acc,ha,hl=>by
  have h:=pK g hg l (acc++g++p.cps) (λ c hc=>by
   simp only[Array.toList_append,List.mem_append] at hc;rcases hc with (h | h) | h
   ·exact ha c h
   ·exact hg c h
   ·exact hl p List.mem_cons_self c h) λ q hq=>hl q (List.mem_cons_of_mem _ hq)
  refine⟨h.1,?_⟩;rw[List.foldl_cons,h.2];simp only[Array.size_append,List.map_cons,List.sum_cons,Str.length];omega
theorem aaY(hs:Asc sep)(hy:∀ y∈ys,Asc y):Asc (Txt.join sep ys)/\(Txt.join sep ys).length<=(ys.map λ p=>sep.length+p.length).sum:=by
 cases ys with
 | nil=>exact⟨λ c hc=>by simp[Txt.join,Builtin.Str.glued,Str.empty] at hc,by simp[Txt.join,Builtin.Str.glued,Str.empty,Str.length]⟩
 | cons y ys =>
  have h:=pK sep.cps hs ys y.cps (hy y List.mem_cons_self) λ p hp=>hy p (List.mem_cons_of_mem _ hp);refine⟨h.1,?_⟩;show(ys.foldl (λ acc p=>acc++sep.cps++p.cps) y.cps).size<=_;rw[h.2];simp only[List.map_cons,List.sum_cons,Str.length];omega
theorem ajq{l:List Str}{n:Nat}(h:∀ y∈l,y.length<=n)(k:Nat):(l.map λ p=>k+p.length).sum<=l.length * (k+n):=by
 induction l with
 | nil=>simp
 | cons y l ih =>
  have h1:=h y List.mem_cons_self;have h2:=ih λ z hz=>h z (List.mem_cons_of_mem _ hz);simp only[List.map_cons,List.sum_cons,List.length_cons,Nat.add_mul,Nat.one_mul];omega
def Tx(n:Nat)(d:PyData):Prop:=∃ z:Str,d=.str z/\z.length<=n/\Asc z
theorem ac7:∀ {ds:List PyData},(∀ d∈ds,Tx n d)->∃ ys:List Str,ds=ys.map PyData.str/\∀ y∈ys,y.length<=n/\Asc y
 | [],_=>⟨[],rfl,λ y h=>(nomatch h)⟩
 | d::ds,h=>by
  obtain⟨z,e,h1,h2⟩:=h d List.mem_cons_self;obtain⟨ys,e2,h3⟩:=ac7 λ d' hd'=>h d' (List.mem_cons_of_mem _ hd');refine⟨z::ys,by rw[e,e2];rfl,λ y hy=>?_⟩;rcases List.mem_cons.mp hy with rfl | hy
  ·exact⟨h1,h2⟩
  ·exact h3 y hy
theorem dm(h:z.cps.all (·<128)=true):Asc z:=by
 intro c hc;have:=Array.all_eq_true_iff_forall_mem.mp h c (by simpa using hc)
 simpa using this
theorem acM(h:Asc z)(hc:c∈z.cps.toList):Asc ⟨#[c]⟩:=by
 intro d hd;have:d=c:=by simpa using hd
 rw[this];exact h c hc
theorem pd(h0:0<=r)(h1:r<z.length):∃ c,ixW M (.d (.str z)) r=some (.d (.str ⟨#[c]⟩))/\c∈z.cps.toList:=by
 have hl:r<(z.cps.toList.length:Nat):=by rw[str_len];exact h1
 refine⟨z.cps.toList[r.toNat]'(by omega),?_,List.getElem_mem _⟩;simp only[ixW];rw[acu h0 hl];rfl
abbrev uS:Str:= "abcdefghijklmnopqrstuvwxyz"
theorem agV:uS.length=26:=by decide +kernel
theorem tu(h:Asc z):dW z=true:=by
 unfold dW;rw[Array.all_eq_true_iff_forall_mem];intro c hc;exact decide_eq_true (h c (by simpa using hc))
theorem log2_small(h:n<2 ^ 100):n.log2<1920:=by
 by_cases h0:n=0
 ·subst h0;decide
 ·exact Nat.lt_of_lt_of_le ((Nat.log2_lt h0).mpr h) (by decide)
theorem few(h:n<=1000):n<=sizeLine:=by have:=s16;omega
theorem Inv.swap(I:Inv X pins σ H s)(h:H a=some u)(n1:∀ xs,u ≠ .tup xs)(n2:∀ x,u ≠ .own x)(b1:∀ xs,X.H₀ a≠some (.tup xs))(b2:∀ o v,X.H₀ a≠some (.frz o v))(b3:∀ ps,X.H₀ a≠some (.tbl ps))
  (new:cF X.prog X.w (upd H a u') s.heap a u'):Inv X pins σ (upd H a u') s:=by
 have nn:∀ b,H b=none->b≠a:=λ b e z=>by rw[z,h] at e;cases e
 refine⟨I.ok,I.os,I.bare,⟨I.base.keep,I.base.slot,λ b ob q n x=>?_,I.base.there,λ b xs q=>?_,λ b ob v q=>?_,λ b ps q=>?_⟩,I.loc,I.cell,?_,λ x c q=>?_,λ p hp=>?_,λ b v q=>?_,I.len⟩
 ·have:=I.base.free b ob q n x;rw[aq (nn b this)];exact this
 ·rw[aq (λ z:b=a=>b1 xs (by rw[<- z];exact q))];exact I.base.tups b xs q
 ·rw[aq (λ z:b=a=>b2 ob v (by rw[<- z];exact q))];exact I.base.frzs b ob v q
 ·rw[aq (λ z:b=a=>b3 ps (by rw[<- z];exact q))];exact I.base.tbls b ps q
 ·rw[aq (nn _ I.free)];exact I.free
 ·have:=I.freeC x c q;rw[aq (nn c this)];exact this
 ·obtain⟨p1,p2,p3⟩:=I.pin p hp;exact⟨p1,by rw[aq (nn _ p2)];exact p2,p3⟩
 ·by_cases hb:b=a
  ·subst hb;rw[ar] at q;cases q;exact new
  ·rw[aq hb] at q;refine(I.hok b v q).sx (λ _ _ _ q=>q) (λ c r=>?_) λ c xs r=>?_
   ·rw[aq (λ z=>by rw[z,h] at r;exact n2 _ (Option.some.inj r))];exact r
   ·rw[aq (λ z=>by rw[z,h] at r;exact n1 _ (Option.some.inj r))];exact r
section
variable {K:FG}{H:Hp}{a:Addr}{o:Obj}{l:List (Key×V)}
end
theorem Inv.xZ{D:Addr}{ys:List V}{us:List Value}{n:Nat}(I:Inv X pins σ H s)(e:s.heap.get? D=some {cls:=.type "tuple",data:=.seq us.toArray n})(hn:H D=none)(hv:Vals ys us)(hz:ys.length<=sizeLine)
  (h0:D∈X.ex\/X.s₀.heap.objs.size<=D)(hL:D≠X.env.locals)(hc:∀ x c,X.env.cells.lookup x=some c->c≠D)(hp:∀ p∈X.pn++pins,p.1≠D):Inv X pins σ (upd H D (.tup ys)) s:=by
 have ne:∀ b u,H b=some u->b≠D:=λ b u q=>a6 q hn;refine I.step (h':=s.heap) (g':=s.gens) (d':=s.drawn) (t':=s.toks) (ch:=[D]) (λ b hb=>?_) (λ b o _ _ _ q _=>q) (λ b o _ _ _ q _=>⟨o.slots,q⟩) (λ b o hb q n=>?_) (λ b o _ q=>⟨o,q⟩)
  (λ b xs q=>by rw[aq (ne b _ q)];exact q) (λ b o u q=>by rw[aq (ne b _ q)];exact q) (λ b ps q=>⟨#[],by rw[aq (ne b _ q),q];simp⟩) (λ m hm=>hm) (λ b u q=>?_) I.bare
 ·have e:b=D:=by simpa using hb
  subst e;exact⟨h0,hL,hc,hp⟩
 ·rw[aq (λ z=>hb (by simp[z]))];exact n
 ·by_cases hb:b=D
  ·subst hb;rw[ar] at q;cases q;exact⟨hz,us,hv,⟨_,e,rfl,rfl,n,rfl⟩⟩
  ·rw[aq hb] at q;exact(I.hok b u q).sx (λ _ _ _ q=>q) (λ c r=>by rw[aq (ne c _ r)];exact r) λ c xs r=>by rw[aq (ne c _ r)];exact r
section
variable {X:Cx}{K:FG}{tg o:Expr}{apos cpos:Pos}{td:TD}
def fS(kds:List (Key×PyData)):List (Key×W):=kds.map λ p=>(p.1,.d p.2)
end
theorem qx:∀ {zs:List Str} {its:List Value},StrsAre its zs->Vals (zs.map V.str) its
 | _,_,.nil=>.nil
 | _,_,.cons y t h=>.cons ⟨t,rfl⟩ (qx h)
theorem zD:bootBuiltins "sorted" = some (.builtin "sorted"):=by decide +kernel
section
variable {X:Cx}{K:FG}
theorem pf{H:Hp}:∀ (zs:List Str),ba K H (bG zs) (zs.map V.str)
 | []=>.nil
 | z::zs=>.cons (by simp[aG,aC]) (pf zs)
end
section
variable {X:Cx}{K:FG}
theorem bx:eU X (.builtin "isinstance") (λ xs H Q=>∃ x d T,xs=[x,.ty T]/\i6 X.K H d x/\Ty6 T/\Q (.bl (gF d T)) H):=by
 intro pins s σ H xs us Q I r h;obtain⟨x,d,T,rfl,rd,h6,q⟩:=h;rcases rd with rd | ⟨a,vs,ds,rfl,rfl,ha,ra⟩
 ·exact zf pins s σ H _ us Q I r ⟨x,d,T,rfl,rd,h6,q⟩
 obtain⟨u,w',rfl,rx,ry⟩:=vals2 r;cases (show w'=Value.type T from ry);have e:=x9 (K:=X.K) (.list ds) h6;have fin:∀ tk,EP X pins σ Q (.bool (gF (.list ds) T)) {s with toks:=tk}:=λ tk=>⟨.bl _,H,I.tok _,rfl,q⟩;generalize gF (.list ds) T=b at e fin;cases (show u=Value.ref a from rx);obtain⟨its,rv,⟨o,n,e1,e2,e3,e4⟩,hz⟩:=I.list (.inl (.inl ha));exact W.kia_one W.kitx_list I.kIn ⟨_,e1,e2⟩ e (λ z=>nomatch z) fin
def cS(ws:List W)(M:MH)(Q:QD):Prop:=∃ w d T,ws=[w,.t T]/\wk M w d/\Ty6 T/\Q (.d (.bool (gF d T))) M
theorem cI:fH K (λ xs H Q=>∃ x d T,xs=[x,.ty T]/\i6 K H d x/\Ty6 T/\Q (.bl (gF d T)) H) cS:=by intro vs H ws M Qd Q r m ⟨w,d,T,e,g,h6,q⟩ k;subst e;obtain⟨v,v',e1,r1,r2⟩:=mw r;simp only[aG] at r2;subst r2;exact⟨v,d,T,e1,g.sound r1 m,h6,k _ H (.d (.bool _)) M (Kp.refl H) (by simp[aG,aC]) m q⟩
end
end D
namespace S
open PySem PySem.W PyProof.Rows
def go{α:Type}(lt:Nat->Nat->Bool):KasT α->α
 | .ret a=>a
 | .ask i j k=>go lt (k (lt i j))
structure akn(lt:Nat->Nat->Bool):Prop where
 asym:∀ a b,lt a b=true->lt b a=false
 tr:∀ a b c,lt b a=false->lt c b=false->lt c a=false
def B(lt:Nat->Nat->Bool)(a b:Nat):Prop:=lt a b=true\/(lt a b=false/\lt b a=false/\a<b)
abbrev g(p:Array Nat)(i:Nat):Nat:=p.getD i 0
structure Un(p:Array Nat)(N n:Nat):Prop where
 size:p.size=N
 lo:∀ i,i<n->g p i<n
 hi:∀ i,n<=i->i<N->g p i=i
def Up(lt:Nat->Nat->Bool)(p:Array Nat)(n:Nat):Prop:=∀ i j,i<j->j<n->B lt (g p i) (g p j)
def Dn(lt:Nat->Nat->Bool)(p:Array Nat)(n:Nat):Prop:=∀ i j,i<j->j<n->B lt (g p j) (g p i)
structure akh(lt:Nat->Nat->Bool)(p:Array Nat)(n q:Nat):Prop where
 q1:q+1<=n
 dn:∀ i j,i<j->j<n-1-q->B lt (g p j) (g p i)
 cr:∀ i j,i<n-1-q->n-1-q<=j->j<n->lt (g p j) (g p i)=true
 bl:∀ i j,n-1-q<=i->i<j->j<n->B lt (g p i) (g p j)/\lt (g p i) (g p j)=false
def Cnt(lt:Nat->Nat->Bool)(N:Nat)(r:Nat×Array Nat):Prop:=1<=r.1/\r.1<=N/\Un r.2 N r.1/\r.2.toList.Perm (List.range N)/\Up lt r.2 r.1
def aj5(N:Nat)(R:α->Prop):KasT α->Prop
 | .ret a=>R a
 | .ask i j k=>i<N/\j<N/\∀ b,aj5 N R (k b)
def Low(N:Nat)(p:Array Nat):Prop:=∀ i,g p i<N
def Shape:List Bool->List PyData->Prop
 | [],[]=>True
 | true::bs,d::ds=>(∃ x,d=.str x)/\Shape bs ds
 | false::bs,d::ds=>(∃ i,d=.int i)/\Shape bs ds
 | _,_=>False
def rowAt(rows:List (List PyData))(i:Nat):List PyData:=rows.getD i (rows.headD [])
def akb:List PyData->List Value->Prop:=Paired λ d u=>(∃ i t,d=.int i/\u=.int i t)\/∃ x t,d=.str x/\u=.str x t
end S
namespace D
open L2 S
section
variable {K:FG}
def ajv(h:Heap)(sh:List Bool)(rows:List (List PyData))(its:List Value):Prop:=Paired (λ row u=>Shape sh row/\∃ a o us n,u=Value.ref a/\h.get? a=some o/\o.cls=.type "tuple" /\ o.data=.seq us n/\akb row us.toList) rows its
end
section
variable {X:Cx}{K:FG}
end
theorem afH(x:cF P w H h a o):∃ ob,h.get? a=some ob:=by
 induction o with
 | lst xs=>obtain⟨_,_,_,_,e⟩:=x;exact⟨_,e⟩
 | tup xs=>obtain⟨_,_,_,ob,e,_⟩:=x;exact⟨_,e⟩
 | dK kvs=>obtain⟨_,_,_,_,o,_,_,e,_⟩:=x;exact⟨_,e⟩
 | dT kvs=>obtain⟨_,_,_,_,o,_,_,e,_⟩:=x;exact⟨_,e⟩
 | set S n=>obtain⟨o,_,_,_,e,_⟩:=x;exact⟨_,e⟩
 | ins C dx fs=>obtain⟨_,_,_,e,_⟩:=x;exact⟨_,e⟩
 | own y=>obtain⟨_,e⟩:=x;exact⟨_,e⟩
 | xd fs=>obtain⟨_,⟨_,_,_,e,_⟩,_⟩:=x;exact⟨_,e⟩
 | rng lo hi=>obtain⟨_,_,_,e⟩:=x;exact⟨_,e⟩
 | frz ob u ih=>obtain⟨e,_⟩:=x;exact⟨_,e⟩
 | tbl ps=>exact⟨_,show h.get? a=some _ from x⟩
 | met f y=>exact⟨_,show h.get? a=some _ from x⟩
 | ext φ=>obtain⟨_,⟨_,e⟩,_⟩:=x;exact⟨_,e⟩
theorem sE(x:HOk P w H h)(e:h.get? a=none):H a=none:=by
 cases q:H a with
 | none=>rfl
 | some u =>
  obtain⟨ob,z⟩:=afH (x a u q);rw[e] at z;cases z
theorem Inv.agM(I:Inv X pins σ H s)(k:∀ b u,s.heap.get? b=some u->h'.get? b=some u)(hp:s.heap.get? a=none)(new:cF X.prog X.w (upd H a o) h' a o) :
  Inv X pins σ (upd H a o) {s with heap:=h',toks:=t'}:=by
 have hn:=sE I.hok hp;have ne:∀ b u,s.heap.get? b=some u->b≠a:=λ b u e z=>by rw[z,hp] at e;cases e
 refine I.un ⟨λ b ob e _ _ _=>k b ob e,λ b ob e _ _ _=>⟨ob.slots,k b ob e⟩,λ b ob e n _=>by rw[aq (ne b ob e)];exact n,λ b ob e _=>⟨ob,k b ob e⟩,λ b xs e=>by rw[aq (a6 e hn)];exact e,λ b ob u e=>by rw[aq (a6 e hn)];exact e,λ b ps e=>⟨#[],by rw[aq (a6 e hn),e];simp⟩⟩ λ b u e=>?_
 by_cases hb:b=a
 ·subst hb;rw[ar] at e;cases e;exact new
 ·rw[aq hb] at e;exact(I.hok b u e).sx (λ c v _ q=>k c v q) (λ c q=>by rw[aq (a6 q hn)];exact q) λ c xs q=>by rw[aq (a6 q hn)];exact q
section
variable {X:Cx}{K:FG}
theorem qr:∀ {zs:List Str} {vs:List (Key×Value)} {us:List Value},vs.map (·.1)=zs.map Sum.inr->us.length=vs.length->(∀ (j:Nat) v,us[j]? =some v->∃ k x,vs[j]? =some (k,x)/\(bb P w).is k v=true)->StrsAre us zs
 | [],vs,us,h,hl,hp=>by
  have e:vs=[]:=by simpa using h
  subst e;have e:us=[]:=by simpa using hl
  subst e;exact .nil
 | z::zs,vs,us,h,hl,hp=>by
  match vs,us,h,hl,hp with
  | (k,x)::vs,u::us,h,hl,hp =>
   simp only[List.map_cons,List.cons.injEq] at h;obtain⟨k',x',e,hk⟩:=hp 0 u rfl;simp at e;obtain⟨e1,e2⟩:=e;subst e1 e2;rw[h.1,vX] at hk;obtain⟨t,e⟩:∃ t,u=.str z t:=by
    rcases bK hk with ⟨i,t,e,_⟩ | ⟨y,t,e,e'⟩
    ·cases e
    ·cases e;exact⟨t,e'⟩
   subst e;exact .cons z t (qr h.2 (by simpa using hl) λ j v hj=>by simpa using hp (j+1) v (by simpa using hj))
  | [],_,h,_,_=>simp at h
  | _::_,[],_,hl,_=>simp at hl
theorem qy(hc:X.calm=true):eU X (.builtin "sorted") (λ xs H Q=>∃ a kvs zs,xs=[.ref a]/\Rd H a (.dK kvs)/\kvs.map (·.1)=zs.map Sum.inr/\zs.length<64/\∀ zs',zs'.Perm zs->sortedS zs'=true->∀ l,H l=none->Q (.ref l) (upd H l (.lst (zs'.map V.str)))):=by
 intro pins s σ H xs us Q I r h;obtain⟨a,kvs,zs,rfl,hq,hk,hz,q⟩:=h;obtain⟨u,rfl,rx⟩:=vals1 r;cases rx;obtain⟨hsz,hsys,vs,rel,o,es,ep,hd⟩:=hq.ok I.hok;have hvs:vs.map (·.1)=zs.map Sum.inr:=by
  rw[<- hk];clear hk hd hq hsz
  induction rel with
  | nil=>rfl
  | cons r t ih=>simp only[List.map_cons,ih,r.1]
 have hln:vs.length=zs.length:=by simpa using congrArg List.length hvs
 refine Calls.call_function_entry kind_sorted plain_sorted entry_sorted (args_sorted1 _) ?_;unfold Builtin.«sorted»;have at1:∀ (h':Heap) (l:List Value),(h'.push (seqObj "list" l.toArray 0)).get? h'.objs.size=some (seqObj "list" l.toArray 0):=λ h' l=>Heap.get?_push_size _ rfl;refine wpAny_bind (m:=checkCount "sorted" 1 1 _) (wpAny_pure (wpAny_bind (W.kdu_collect (A:=X.A.in1) (W.kdl_dict (knd:=bb X.prog X.w) (kvs:=vs) (ep:=ep) hsys) (I.ok.hd hc) ⟨o,es,hd⟩ (by rw[sizeLine_eq];omega) λ h' tk acc old hacc=>?_)));have hla:acc.toList.length=vs.length:=by rw[Array.length_toList];exact hacc.1
 have hS:StrsAre acc.toList zs:=qr hvs hla λ j v hj=>hacc.2 j v (by rw[<- Array.getElem?_toList];exact hj);refine wpAny_bind (wpAny_newList ?_ (by rw[hla,sizeLine_eq];omega));refine wpAny_bind (wpAny_holding (wpAny_call_entry slot_list_sort ⟨_,at1 h' acc.toList,rfl⟩ entry_list_sort (list_sort_treeK strKind_oneLt (s:={s with heap:=h'.push (seqObj "list" acc.toList.toArray 0),toks:=tk}) (at1 h' acc.toList) hS.keysOf (λ v₁ v₂ rest e=>keyKind_strs (by rw[<- e];exact hS)) (by omega) λ st' hp hs=>⟨_,rfl,wpAny_pure ⟨_,rfl,?_⟩⟩) (args_list_sort _)));obtain⟨zs',h1,h2,h3⟩:=sorted_out_str hS hp hs;obtain⟨n,e⟩:=sortedHeap_at (h:=h'.push (seqObj "list" acc.toList.toArray 0)) (vs:=acc.toList) (out:=(arrOf st').map (·.2)) (at1 h' acc.toList);have hge:s.heap.get? h'.objs.size=none:=by
  cases q1:s.heap.get? h'.objs.size with
  | none=>rfl
  | some ob =>
   have:=Heap.lt_size (old _ _ q1);exact absurd this (Nat.lt_irrefl _)
 have keep:∀ b ob,s.heap.get? b=some ob->(sortedHeap (h'.push (seqObj "list" acc.toList.toArray 0)) h'.objs.size acc.toList ((arrOf st').map (·.2))).get? b=some ob:=λ b ob eb=>by have l1:b<h'.objs.size:=Heap.lt_size (old b ob eb);rw[sortedHeap_old (Nat.ne_of_lt l1) (by rw[size_push'];exact Nat.lt_succ_of_lt l1),Heap.get?_push_of_some _ (old b ob eb)]
 have I':Inv X pins σ (upd H h'.objs.size (.lst (zs'.map V.str))) {s with heap:=sortedHeap (h'.push (seqObj "list" acc.toList.toArray 0)) h'.objs.size acc.toList ((arrOf st').map (·.2)),toks:=tk}:=by refine Inv.agM I keep hge ⟨?_,((arrOf st').map (·.2)).toList,n,qx h1,by rw[Array.toArray_toList];exact e⟩;rw[List.length_map,h2.length_eq];have:=s16;omega
 exact⟨.ref _,_,I',rfl,q zs' h2 h3 _ (sE I.hok hge)⟩
def xA(ws:List W)(M:MH)(Q:QD):Prop:=∃ a kvs,∃ zs:List Str,ws=[.m a]/\M a=some (.dic kvs)/\kvs.map (·.1)=zs.map Sum.inr/\zs.length<64/\∀ zs',zs'.Perm zs->sortedS zs'=true->∀ p,M p=none->Q (.m p) (cn M p (.lst (bG zs')))
theorem abR:fH K (λ xs H Q=>∃ a kvs zs,xs=[.ref a]/\Rd H a (.dK kvs)/\kvs.map (·.1)=zs.map Sum.inr/\zs.length<64/\∀ zs',zs'.Perm zs->sortedS zs'=true->∀ l,H l=none->Q (.ref l) (upd H l (.lst (zs'.map V.str)))) xA:=by
 intro vs H ws M Qd Q r m ⟨a,kvs,zs,e,g,hk,hz,q⟩ k;subst e;obtain⟨v,e1,r1⟩:=cK r;have ev:v=.ref a:=r1;subst ev;have go:∀ l:List (Key×V),Rd H a (.dK l)->Paired (λ(p:Key×W) (q:Key×V)=>p.1=q.1/\aG K H p.2 q.2) kvs l->∃ a' kvs' zs',[V.ref a]=[.ref a']/\Rd H a' (.dK kvs')/\kvs'.map (·.1)=zs'.map Sum.inr/\zs'.length<64/\∀ zs'',zs''.Perm zs'->sortedS zs''=true->∀ l,H l=none->Q (.ref l) (upd H l (.lst (zs''.map V.str))):=by
  intro l hr pr;refine⟨a,l,zs,rfl,hr,?_,hz,λ zs' h1 h2 p hp=>?_⟩
  ·rw[<- hk];clear hk hr g q
   induction pr with
   | nil=>rfl
   | cons r t ih=>simp only[List.map_cons,ih,r.1]
  ·have kp:Kp H (upd H p (.lst (zs'.map V.str))):=Kp.new hp;exact k _ _ (.m p) _ kp rfl (m.put (mo:=.lst (bG zs')) kp ⟨_,ar,pf zs'⟩) (q zs' h1 h2 p (m.free hp))
 subst e1;obtain⟨l,hl,pr⟩:=m _ _ g;exact go l (.inl hl) pr
def isNone:W->Bool
 | .d .none=>true
 | _=>false
theorem vH(r:aG K H w v):decide (v=.non)=isNone w:=by
 cases w with
 | m a=>cases (show v=.ref a from r);rfl
 | t n=>cases (show v=.ty n from r);rfl
 | d x =>
  cases x<;>simp only[aG,aC] at r
  ·subst r;rfl
  ·subst r;rfl
  ·subst r;rfl
  ·subst r;rfl
  all_goals first
   | (obtain⟨a,vs,e,_⟩:=r;subst e;rfl)
   | (obtain⟨a,o,l,e,_⟩:=r;subst e;rfl)
def ye(neg:Bool)(w:W)(w':W)(M:MH)(Q:QD):Prop:=w'=.d .none/\Q (.d (.bool (xor neg (isNone w)))) M
theorem nF:OpD K (λ x y H Q=>y=.non/\Q (.bl (decide (x=.non))) H) (ye false):=by intro x y H w w' M Qd Q r1 r2 m ⟨e,q⟩ k;subst e;simp only[aG,aC] at r2;refine⟨r2,k _ _ (.d (.bool (isNone w))) M (Kp.refl _) ?_ m (by simpa using q)⟩;rw[vH r1];simp[aG,aC]
end
theorem Inv.ac2(I:Inv X pins σ H s)(k:∀ b o,b≠it->b≠e->s.heap.get? b=some o->h'.get? b=some o)(f:vT X pins H it)(g:vT X pins H e):Inv X pins σ H {s with heap:=h',toks:=t'}:=by
 obtain⟨f0,f1,f2,f3,f4,f5⟩:=f;obtain⟨g0,g1,g2,g3,g4,g5⟩:=g;have nit:∀ b u,H b=some u->b≠it:=λ b u q z=>by rw[z,f0] at q;cases q
 have ne:∀ b u,H b=some u->b≠e:=λ b u q z=>by rw[z,g0] at q;cases q
 refine I.step (g':=s.gens) (d':=s.drawn) (ch:=[it,e]) (λ b hb=>?_) (λ b o _ _ hc q _=>k b o (λ z=>hc (by simp[z])) (λ z=>hc (by simp[z])) q) (λ b o _ _ hc q _=>⟨o.slots,k b o (λ z=>hc (by simp[z])) (λ z=>hc (by simp[z])) q⟩) (λ _ _ _ _ n=>n)
  (λ b o hc q=>⟨o,k b o (λ z=>hc (by simp[z])) (λ z=>hc (by simp[z])) q⟩) (λ _ _ q=>q) (λ _ _ _ q=>q) (λ b ps q=>⟨#[],by rw[q];simp⟩) (λ m hm=>?_) (λ b u q=>?_) I.bare
 ·have z:b=it\/b=e:=by simpa using hb
  rcases z with rfl | rfl
  ·exact⟨f3,f1,f4,f5⟩
  ·exact⟨g3,g1,g4,g5⟩
 ·obtain⟨o,es,ep,ho,r⟩:=hm;exact⟨o,es,ep,k _ o (Ne.symm f1) (Ne.symm g1) ho,r⟩
 ·refine(I.hok b u q).sx (λ c v hc z=>k c v ?_ ?_ z) (λ _ z=>z) λ _ _ z=>z
  ·rcases hc with z | z
   ·rw[z];exact nit b u q
   ·exact nit c _ z
  ·rcases hc with z | z
   ·rw[z];exact ne b u q
   ·exact ne c _ z
theorem pB:bootBuiltins "enumerate" = some (.type "enumerate"):=by decide +kernel
def qe(ds:List PyData):List W:=(List.range ds.length).map λ i=>.d (.tuple [.int (i:Nat),ds.getD i .none])
theorem agE:bootBuiltins "min" = some (.builtin "min"):=by decide +kernel
section
variable {X:Cx}{K:FG}
def ab3(ws:List W)(M:MH)(Q:QD):Prop:=∃ i j,ws=[.d (.int i),.d (.int j)]/\Q (.d (.int (if j<i then j else i))) M
theorem adb:fH K (λ xs H Q=>∃ i j,xs=[V.int i,V.int j]/\Q (V.int (if j<i then j else i)) H) ab3:=by intro vs H ws M Qd Q r m ⟨i,j,e,q⟩ k;subst e;obtain⟨v,v',e1,r1,r2⟩:=mw r;simp only[aG,aC] at r1 r2;subst r1 r2;exact⟨i,j,e1,k _ H (.d (.int _)) M (Kp.refl H) (by simp[aG,aC]) m q⟩
end
end D
namespace Rc
open L2 D
section
variable {α:Type}(nm:α->Str)
def rk(g:α->PyData)(L:List α):List (Key×PyData):=L.map λ a=>(.inr (nm a),g a)
def fd(L:List α)(n:Str):Option α:=L.find? λ a=>decide (nm a=n)
def pt(L:List α)(z:α):List α:=match fd nm L (nm z) with
 | none=>L++[z]
 | some _=>L.map λ y=>if nm y=nm z then z else y
variable {nm}
end
mutual
def okD:Nat->PyData->Bool
 | _,.none=>true
 | _,.bool _=>true
 | _,.int i=>decide (i.natAbs<2 ^ 100)
 | _,.str z=>dW z
 | k+1,.list ds=>okA k ds
 | k+1,.tuple ds=>okA k ds
 | _,_=>false
def okA:Nat->List PyData->Bool
 | _,[]=>true
 | k,d::ds=>okD k d&&okA k ds
end
theorem xN:∀ {ds:List PyData},(∀ d∈ds,okD k d=true)->okA k ds=true
 | [],_=>by simp[okA]
 | d::ds,h=>by simp only[okA,Bool.and_eq_true];exact⟨h d (by simp),xN λ x hx=>h x (by simp[hx])⟩
theorem cy(h:dW z=true):Asc z:=dm h
theorem wW(h:Asc z):PyData.strOk z=true:=by
 unfold PyData.strOk;rw[Array.all_eq_true_iff_forall_mem];intro c hc;exact decide_eq_true (by have:=h c (by simpa using hc);omega)
theorem acL(h:dW z=true):PyData.strOk z=true:=wW (cy h)
mutual
theorem rM:∀ (k:Nat) (d:PyData),okD k d=true->fW d=true
 | _,.none,_=>rfl
 | _,.bool _,_=>rfl
 | _,.int i,h=>by
  cases ‹Nat› <;> simp only[okD,decide_eq_true_eq] at h<;>exact decide_eq_true (log2_small h)
 | _,.str z,h=>by
  cases ‹Nat› <;> simp only[okD] at h<;>exact h
 | k+1,.list ds,h=>by simp only[okD] at h;simp only[fW];exact nK k ds h
 | k+1,.tuple ds,h=>by simp only[okD] at h;simp only[fW];exact nK k ds h
 | 0,.list ds,h=>by simp[okD] at h
 | 0,.tuple ds,h=>by simp[okD] at h
 | k,.dict kvs,h=>by cases k<;>simp[okD] at h
theorem nK:∀ (k:Nat) (ds:List PyData),okA k ds=true->mh ds=true
 | _,[],_=>by simp[mh]
 | k,d::ds,h=>by simp only[okA,Bool.and_eq_true] at h;simp only[mh,rM k d h.1,nK k ds h.2,Bool.and_self]
end
mutual
theorem xg:∀ (k:Nat) (d:PyData),okD k d=true->PyData.canLay0 d=true
 | _,.none,_=>by simp[PyData.canLay0]
 | _,.bool _,_=>by simp[PyData.canLay0]
 | _,.int i,h=>by simp[PyData.canLay0]
 | _,.str z,h=>by
  cases ‹Nat› <;> simp only[okD] at h<;>simp[PyData.canLay0,acL h]
 | k+1,.list ds,h=>by simp only[okD] at h;simp only[PyData.canLay0];exact tf k ds h
 | k+1,.tuple ds,h=>by simp only[okD] at h;simp only[PyData.canLay0];exact tf k ds h
 | 0,.list ds,h=>by simp[okD] at h
 | 0,.tuple ds,h=>by simp[okD] at h
 | k,.dict kvs,h=>by cases k<;>simp[okD] at h
theorem tf:∀ (k:Nat) (ds:List PyData),okA k ds=true->PyData.canLayAll0 ds=true
 | _,[],_=>by simp[PyData.canLayAll0]
 | k,d::ds,h=>by simp only[okA,Bool.and_eq_true] at h;simp only[PyData.canLayAll0,xg k d h.1,tf k ds h.2,Bool.and_self]
end
mutual
theorem jJ:∀ (k:Nat) (d:PyData),okD k d=true->PyData.depth d<=k+1
 | _,.none,_=>by simp[PyData.depth]
 | _,.bool _,_=>by simp[PyData.depth]
 | _,.int i,h=>by simp[PyData.depth]
 | _,.str z,h=>by simp[PyData.depth]
 | k+1,.list ds,h=>by simp only[okD] at h;have:=lA k ds h;simp only[PyData.depth];omega
 | k+1,.tuple ds,h=>by simp only[okD] at h;have:=lA k ds h;simp only[PyData.depth];omega
 | 0,.list ds,h=>by simp[okD] at h
 | 0,.tuple ds,h=>by simp[okD] at h
 | k,.dict kvs,h=>by cases k<;>simp[okD] at h
theorem lA:∀ (k:Nat) (ds:List PyData),okA k ds=true->PyData.depthAll ds<=k+1
 | _,[],_=>by simp[PyData.depthAll]
 | k,d::ds,h=>by simp only[okA,Bool.and_eq_true] at h;have h1:=jJ k d h.1;have h2:=lA k ds h.2;simp only[PyData.depthAll];omega
end
mutual
theorem uZ:∀ (k:Nat) (d:PyData),okD k d=true->PyData.hasDict d=false
 | _,.none,_=>by simp[PyData.hasDict]
 | _,.bool _,_=>by simp[PyData.hasDict]
 | _,.int i,h=>by simp[PyData.hasDict]
 | _,.str z,h=>by simp[PyData.hasDict]
 | k+1,.list ds,h=>by simp only[okD] at h;simp only[PyData.hasDict];exact rP k ds h
 | k+1,.tuple ds,h=>by simp only[okD] at h;simp only[PyData.hasDict];exact rP k ds h
 | 0,.list ds,h=>by simp[okD] at h
 | 0,.tuple ds,h=>by simp[okD] at h
 | k,.dict kvs,h=>by cases k<;>simp[okD] at h
theorem rP:∀ (k:Nat) (ds:List PyData),okA k ds=true->PyData.hasDictAll ds=false
 | _,[],_=>by simp[PyData.hasDictAll]
 | k,d::ds,h=>by simp only[okA,Bool.and_eq_true] at h;simp only[PyData.hasDictAll,uZ k d h.1,rP k ds h.2,Bool.or_self]
end
theorem gk(hk:k<=50)(h:okD k d=true):pZ d=true:=by have h1:=xg k d h;have h2:=jJ k d h;have h3:=uZ k d h;simp only[pZ,SeqAt.shaped,h1,h3,Bool.true_and,Bool.not_false,Bool.and_true];exact decide_eq_true (by omega)
theorem nr(h:okD k d=true):PyData.eqv d d=true:=SeqAt.eqv_refl _ (xg k d h)
theorem xr(hk:k<=50)(h:okD k d=true)(hb:big d<=1000000):fy d=true:=
 ad9 (rM k d h) hb (by have:=jJ k d h;omega) (uZ k d h)
theorem yL:∀ {ds:List PyData},(∀ d∈ds,big d<=c)->aby ds<=ds.length * (c+2)
 | [],_=>by simp[aby]
 | d::ds,h=>by have h1:=h d (by simp);have h2:=yL (ds:=ds) λ x hx=>h x (by simp[hx]);simp only[aby,List.length_cons];rw[Nat.add_mul];omega
theorem bq(x y:Str):PyData.eqv (.str x) (.str y)=decide (x=y):=by
 rw[<- rX]
 by_cases e:x=y
 ·subst e;simp
 ·simp[e]
theorem cN(x y:Int):PyData.eqv (.int x) (.int y)=decide (x=y):=by
 rw[PyData.eqv]
 by_cases e:x=y
 ·subst e;simp
 ·simp[e]
theorem iC{M:MH}{a b:Addr}{o:MO}(ha:M a=some o)(hb:M b=none):a≠b:=λ e=>by rw[e,hb] at ha;cases ha
theorem zB{M:MH}{a b:Addr}{o u:MO}(h:M a=some o)(hb:M b=none):cn M b u a=some o:=by rw[aR (iC h hb)];exact h
theorem aa2(h:M d=some y):cn (cn M d x) d y=M:=by
 rw[gn];funext q
 by_cases e:q=d
 ·rw[e,aA,h]
 ·rw[aR e]
end Rc
namespace Stc
open L2 D Rc
abbrev oI:List Str:=["_law_bag_here", "_law_letters"]
def n9(az:SpD):TSd:=
  aW (cv (dC (.d (.str "abcdefghijklmnopqrstuvwxyz"))) (gN 1)) <|
  bR (dMS ie (dC (.d (.str ""))) (af (dLC (sY (af (dOp bA (dC (.d (.int 1))) (aU az (af (aj 0) (af (dC (.d (.int 8))) (aF))))) (aF))) (gN 0) (pb) (dOp dQ (aj 1) (aU az (af (aj 2) (af (dC (.d (.int 26))) (aF))))) 1 [1,0]) aF))
def de:SpD:=λ ws M Q=>∃ p:Addr,ws=[.m p]/\Bag M p/\∀ (z:Str) M',(z.length<=8/\Asc z)->Bag M' p->(∀ q,q≠p->M' q=M q)->Q (.d (.str z)) M'
theorem yD(h0:0<=r)(h1:r<ds.length):∃ d,ixW M (.d (.list ds)) r=some (.d d)/\d∈ds:=by
 have hn:r.toNat<ds.length:=by omega
 refine⟨ds[r.toNat],?_,List.getElem_mem hn⟩;simp only[ixW,atI,rY h0 h1,Option.bind_some,List.getElem?_eq_getElem hn,Option.map_some]
theorem kS{zs:List Str}{r:Int}(h0:0<=r)(h1:r<zs.length):∃ z,ixW M (.d (.list (zs.map PyData.str))) r=some (.d (.str z))/\z∈zs:=by obtain⟨d,e,hd⟩:=yD (M:=M) (ds:=zs.map PyData.str) h0 (by simpa using h1);obtain⟨i,hi,rfl⟩:=List.mem_map.mp hd;exact⟨i,e,hi⟩
theorem ach(h:Bag M p):∃ o,M p=some o:=by obtain⟨a,b,c,ns,e,_⟩:=h;exact⟨_,e⟩
theorem ff(h:Bag M p)(e:M' p=M p):Bag M' p:=by obtain⟨a,b,c,ns,h1,h2⟩:=h;exact⟨a,b,c,ns,e.trans h1,h2⟩
end Stc
namespace D
open L2
section
variable {K:FG}
variable {X:Cx}{sc:Scope}{own:List Str}{fr:List Nat}{di:TId}{g:TGd}{tt:TTd}{te:TD}{tg iter elt:Expr}{ifs:List Expr}{pos:Pos}
end
section
variable {X:Cx}{K:FG}
end
structure ake(K:FG)(x qual:Str)(st:Stmt)(f:Addr)(fd:FuncData):Prop where
 ex:∃ (oc:Value) (od:Option Addr) (dV kV doc pm:Value) (an:Option Addr) (cdv ct:Value) (osl:Array (Option Value)),
  fd=W.fnOf x qual (bS st) (bj st) (ao st) dV kV doc pm an cdv ct/\K.lookup f=some ⟨oc,od,.func fd,osl⟩/\W.codeIn K cdv qual=true
 kp:W.keepIn K (.ref f)=true
section
variable {P:Program}{w:World}{K:FG}{mg:Str->Option Value}{base h:Heap}
end
theorem Inv.nL{t':Nat}{ch:List Addr}(I:Inv X pins σ H s)(k:∀ b o,b ∉ ch->s.heap.get? b=some o->h'.get? b=some o)(f:∀ b∈ch,vT X pins H b):Inv X pins σ H {s with heap:=h',toks:=t'}:=by
 have nin:∀ b u,H b=some u->b ∉ ch:=λ b u q z=>by rw[(f b z).1] at q;cases q
 refine I.step (g':=s.gens) (d':=s.drawn) (ch:=ch) (λ b hb=>?_) (λ b o _ _ hc q _=>k b o hc q) (λ b o _ _ hc q _=>⟨o.slots,k b o hc q⟩) (λ _ _ _ _ n=>n)
  (λ b o hc q=>⟨o,k b o hc q⟩) (λ _ _ q=>q) (λ _ _ _ q=>q) (λ b ps q=>⟨#[],by rw[q];simp⟩) (λ m hm=>?_) (λ b u q=>?_) I.bare
 ·obtain⟨f0,f1,f2,f3,f4,f5⟩:=f b hb;exact⟨f3,f1,f4,f5⟩
 ·obtain⟨o,es,ep,ho,r⟩:=hm;exact⟨o,es,ep,k _ o (λ z=>(f _ z).2.1 rfl) ho,r⟩
 ·refine(I.hok b u q).sx (λ c v hc z=>k c v ?_ z) (λ _ z=>z) λ _ _ z=>z;rcases hc with z | z
  ·rw[z];exact nin b u q
  ·exact nin c _ z
theorem abY:bootBuiltins "zip" = some (.type "zip"):=by decide +kernel
def rB(ds es:List PyData):List W:=(List.range (min ds.length es.length)).map λ i=>.d (.tuple [ds.getD i .none,es.getD i .none])
def acn(c:TTd)(tb:TSd)(D:Ed)(τ:DS)(M:MH):Prop:=∃ P:Nat->DS->MH->Prop,(∃ m,P m τ M)/\∀ m τ M,P m τ M ->
 c τ M λ b M1=>if b=true then tb {D with nx:=λ τ' M'=>∃ m',m'<m/\P m' τ' M',ct:=λ τ' M'=>∃ m',m'<m/\P m' τ' M',bk:=D.nx} τ M1 else D.nx τ M1
end D
open L2 D
theorem vz(hp:PassesOwn (model X.prog X.w) X.A X.env X.xe)(hc:Jd (PTd X c tc))(hb:Jd (lO X body tb)):Jd (PSd X (.While c body [] pos) (acn tc tb)):=⟨have hc:=hc.h;have hb:=hb.h;
 aaa (aac hp hc hb) λ D σ H hq72=>by
  obtain⟨τ,M,Dd,A,⟨P,⟨m0,p0⟩,step⟩,k1,k2,k3,k4⟩:=hq72;refine⟨λ m σ' H'=>Kp H H'/\∃ τ' M',Abs X.K H' σ' τ' M'/\P m τ' M',⟨m0,Kp.refl _,τ,M,A,p0⟩,?_⟩;rintro m σ1 H1 ⟨kp,τ1,M1,A1,p1⟩;refine⟨τ1,M1,_,A1,step m τ1 M1 p1,λ b H2 M2 kp2 m2 q=>?_⟩;have kq:=kp.trans kp2;cases b with
  | false =>
   rw[if_neg Bool.false_ne_true] at q;exact dB (k1 _ H2 _ M2 kq (A1.go kp2 m2) q)
  | true =>
   rw[if_pos rfl] at q;refine fV ⟨λ σ' H'=>Kp H2 H'/\∃ m',m'<m/\∃ τ' M',Abs X.K H' σ' τ' M'/\P m' τ' M',λ σ' H' ⟨kp3,m',hm,τ',M',A',p'⟩=>⟨m',hm,kq.trans kp3,τ',M',A',p'⟩,?_⟩;exact⟨τ1,M2,_,A1.go kp2 m2,q,λ σ3 H3 τ3 M3 kp3 A3 ⟨m',hm,p'⟩=>⟨kp3,m',hm,τ3,M3,A3,p'⟩,λ v H3 w M3 kp3=>k2 v H3 w M3 (kq.trans kp3),λ σ3 H3 τ3 M3 kp3=>k1 σ3 H3 τ3 M3 (kq.trans kp3),λ σ3 H3 τ3 M3 kp3 A3 ⟨m',hm,p'⟩=>⟨kp3,m',hm,τ3,M3,A3,p'⟩⟩⟩
namespace Stc
open L2 D Rc
abbrev j9:List Str:=["thing"]
def kY:TSd:=
  aW (dIf (dOr (lN (aJ (dCB cS (af (aj 0) (af (dC (.t "str")) (aF)))))) (lN (aJ (fq o9 o9 (dC (.d (.int 1))) (dCB dJ (af (aj 0) (aF))) (dC (.d (.int 8)))))))
   (bR (dC (.d (.bool false))))
   (bh)) <|
  bR (dCB vV (af (dLC (dI (aj 0)) (gN 0) (pb) (fq o9 o9 (dC (.d (.str "a"))) (aj 0) (dC (.d (.str "z")))) 1 []) (aF)))
abbrev iN:List Str:=["thing"]
def iP:TSd:=
  bR (jo (dCB cS (af (aj 0) (af (dC (.t "int")) (aF)))) (xk (dCB cS (af (aj 0) (af (dC (.t "bool")) (aF))))))
abbrev gO:List Str:=["thing", "low", "high"]
def gU(bI:SpD):TSd:=
  bR (jo (aU bI (af (aj 0) (aF))) (fq o9 o9 (aj 1) (aj 0) (aj 2)))
def Ext(M M':MH):Prop:=∀ q o,M q=some o->M' q=some o
theorem Ext.refl(M:MH):Ext M M:=λ _ _ h=>h
theorem Ext.trans(h:Ext A B)(k:Ext B C):Ext A C:=λ q o e=>k q o (h q o e)
theorem Ext.new(h:M p=none):Ext M (cn M p o):=λ q u e=>zB e h
theorem Ext.del(h:Ext M M')(hp:M p=none):Ext M (wU M' p):=λ q u e=>by have hq:q≠p:=iC e hp;simp only[wU,if_neg hq];exact h q u e
theorem Ext.bag(h:Ext M M')(hb:Bag M p):Bag M' p:=by obtain⟨a,b,c,ns,e,z⟩:=hb;exact⟨a,b,c,ns,h _ _ e,z⟩
theorem gv{α:Type}{gt:TGd}{te:TD}{Q:List PyData->DS->MH->Prop}{τ0:DS}{M:MH}(L:List α)(g:α->W)(f:α->PyData)(S:DS->Prop)(hL:L.length<=1000)(h0:S τ0)
  (step:∀ a∈L,∀ τ,S τ->∀ R:PyData->DS->MH->Prop,(∀ τ2,S τ2->R (f a) τ2 M)->gt (g a) τ M λ τ2 M2=>te τ2 M2 λ y M4=>∃ d,y=.d d/\R d τ2 M4)
  (q:∀ τ,Q (L.map f) τ M) :
  ∃ P:Nat->List PyData->DS->MH->Prop,P 0 [] τ0 M /\
   (∀ i w acc τ M,(L.map g)[i]? =some w->P i acc τ M->acc.length<sizeLine/\gt w τ M λ τ2 M2=>pb τ2 M2 λ b M3=>if b=true then te τ2 M3 λ y M4=>∃ d,y=.d d/\P (i+1) (acc++[d]) τ2 M4 else P (i+1) acc τ2 M3) /\
   ∀ acc τ M,P (L.map g).length acc τ M->Q acc τ M:=by
 refine⟨λ i acc τ M'=>M'=M/\acc=(L.take i).map f/\S τ,⟨rfl,rfl,h0⟩,?_,?_⟩
 ·rintro i w acc τ M' hw ⟨rfl,rfl,hs⟩;rw[List.getElem?_map] at hw;cases e:L[i]? with
  | none=>rw[e] at hw;cases hw
  | some a =>
   rw[e] at hw;cases hw;have hi:=(List.getElem?_eq_some_iff.mp e).1;refine⟨by rw[List.length_map,List.length_take];have:=s16;omega,?_⟩;refine step a (List.mem_of_getElem? e) τ hs (λ d τ2 M4=>M4=M'/\(L.take i).map f++[d]=(L.take (i+1)).map f/\S τ2) λ τ2 h2=>⟨rfl,?_,h2⟩;rw[List.take_succ,e];simp
 ·rintro acc τ M' ⟨rfl,rfl,hs⟩;rw[List.length_map,List.take_length];exact q τ
abbrev Dm:=List (Str×Int)
def gI(r:Str×Int):PyData:=.int r.2
def Dc(M:MH)(a:Addr)(D:Dm):Prop:=M a=some (.dic (fS (rk Prod.fst gI D)))
def val(D:Dm)(k:Str):Int:=((fd Prod.fst D k).map (·.2)).getD 0
def more(D:Dm)(k:Str)(n:Int):Dm:=pt Prod.fst D (k,val D k+n)
def vals(D:Dm):List Int:=D.map λ r=>r.2
def dsc(ns:List Int):List Int:=ns.mergeSort λ a b=>decide (a >= b)
def room(rs:List Int)(i:Int):Int:=(rs.map λ m=>if i<m then i else m).sum
def ajH(rs:List Int)(ns:List Int):Bool:=(List.range ns.length).all λ i=>decide ((ns.take (i+1)).sum<=room rs ((i:Int)+1))
def ajP(rs:List Int)(D:Dm):Bool:=ajH rs (dsc (vals D))
def OkR(rs:List Int):Prop:=rs.length<=8/\∀ m∈rs,0<=m/\m<=6
def gr(rs:List Int)(D:Dm)(k:Str):Nat->Int
 | 0=>0
 | n+1=>if ajP rs (more D k ((n:Int)+1))=true then (n:Int)+1 else gr rs D k n
theorem sealed(hl:M l=none):Ext M (wU (cn M l o) l):=(Ext.new hl).del hl
abbrev Bs:=List (Str×Int)
abbrev As:=List (Str×Str×Int)
def rooms(B:Bs):List Int:=B.map (·.2)
theorem gM{α β:Type}{L:List α}{f:α->β}{i:Nat}{w:β}(h:(L.map f)[i]? =some w):∃ a,L[i]? =some a/\w=f a:=by
 rw[List.getElem?_map] at h;cases e:L[i]? with
 | none=>rw[e] at h;cases h
 | some a=>rw[e] at h;cases h;exact⟨a,rfl,rfl⟩
theorem zr{lo:Int}{n i:Nat}{w:W}(h:(jQ lo n)[i]? =some w):i<n/\w=.d (.int (lo+(i:Int))):=by
 unfold jQ at h;obtain⟨j,hj,rfl⟩:=gM h;obtain⟨h1,h2⟩:=List.getElem?_eq_some_iff.mp hj;simp at h1 h2;subst h2;exact⟨h1,rfl⟩
def stp(rs:List Int)(s:Dm×As)(r:Str×Str×Int):Dm×As:=
 (more s.1 r.2.1 (gr rs s.1 r.2.1 r.2.2.toNat),s.2++[(r.1,r.2.1,gr rs s.1 r.2.1 r.2.2.toNat)])
def run(rs:List Int)(A:As):Dm×As:=A.foldl (stp rs) ([],[])
def OkC(A:As):Prop:=A.length<=8/\∀ r∈A,0<=r.2.2/\r.2.2<=6
def dX(c:Nat):Bool:=decide (97<=c)&&decide (c<=122)
def wd(z:Str):Bool:=decide (1<=z.length)&&decide (z.length<=8)&&z.cps.toList.all dX
theorem ji(h:wd z=true):1<=z.length/\z.length<=8:=by simp[wd] at h;exact h.1
theorem zp(h:wd z=true):∀ c∈z.cps.toList,dX c=true:=by simp only[wd,Bool.and_eq_true,List.all_eq_true] at h;exact h.2
theorem lL(h:wd z=true):dW z=true:=by have:=zp h;unfold dW;rw[<- Array.all_toList,List.all_eq_true];intro c hc;have:=this c hc;simp[dX] at this;simp;omega
theorem eJ{c:Bool}{A B:Prop}(e:c=true)(h:A):if c=true then A else B:=by rw[e];exact fV h
theorem eI{c:Bool}{A B:Prop}(e:c=false)(h:B):if c=true then A else B:=by rw[e];exact dB h
theorem lt1(a b:Nat):decide ([a] < [b])=decide (a<b):=by
 by_cases h:a<b
 ·rw[decide_eq_true h];exact decide_eq_true (List.cons_lt_cons_iff.mpr (.inl h))
 ·rw[decide_eq_false h];refine decide_eq_false λ z=>?_;rcases List.cons_lt_cons_iff.mp z with q | ⟨_,q⟩
  ·exact h q
  ·exact absurd q (by simp)
theorem lb(z:Str):gF (.str z) "str" = true:=by simp[gF,tyD]
theorem agB(ds:List PyData):gF (.tuple ds) "tuple" = true:=by simp[gF,tyD]
def bI:SpD:=λ ws M Q=>∃ i:Int,ws=[.d (.int i)]/\Q (.d (.bool true)) M
def bP:SpD:=λ ws M Q=>∃ i lo hi:Int,ws=[.d (.int i),.d (.int lo),.d (.int hi)]/\lo<=i/\i<=hi/\Q (.d (.bool true)) M
def cG:SpD:=λ ws M Q=>∃ z:Str,ws=[.d (.str z)]/\wd z=true/\Q (.d (.bool true)) M
def ahD(r:Str×Int):Prop:=wd r.1=true/\0<=r.2/\r.2<=6
def lsS(a b:Str):Bool:=decide (a.cps.toList<b.cps.toList)
structure OkB(B:Bs):Prop where
 len:B.length<=8
 row:∀ r∈B,ahD r
 up:∀ i r s,B[i]? =some r->B[i+1]? =some s->lsS r.1 s.1=true
theorem aaM{α:Type}{L:List α}{f:α->PyData}{i:Nat}{w:W}(h:(qe (L.map f))[i]? =some w):∃ r,L[i]? =some r/\w=.d (.tuple [.int (i:Nat),f r]):=by
 unfold qe at h;rw[List.getElem?_map] at h;have hi:i<L.length:=by
  by_cases q:i<L.length
  ·exact q
  ·rw[List.getElem?_eq_none (by simpa using q)] at h;cases h
 rw[List.getElem?_range (by simpa using hi)] at h;cases h;refine⟨L[i],List.getElem?_eq_getElem hi,?_⟩;simp[List.getD,List.getElem?_map,List.getElem?_eq_getElem hi]
theorem acj{α:Type}{M:MH}{L:List α}{f:α->PyData}{i:Nat}{r:α}{j:Int}(hj:j=(i:Int))(h:L[i]? =some r):ixW M (.d (.list (L.map f))) j=some (.d (f r)):=by subst hj;have hi:=(List.getElem?_eq_some_iff.mp h).1;simp only[ixW,atI];rw[rY (by omega) (by rw[List.length_map];omega)];simp[h]
structure ajV(r:Str×Str×Int):Prop where
 w:wd r.1=true
 k:wd r.2.1=true
 c0:0<=r.2.2
 c6:r.2.2<=6
structure OkA(A:As):Prop where
 len:A.length<=8
 row:∀ r∈A,ajV r
 nd:(A.map λ r=>r.1).Nodup
def qJ(k:Nat):Str:=Txt.mul ⟨#[("abcdefgh" : Str).cps.toList.getD k 0]⟩ (1+(0+(k:Int)) % 2)
end Stc
namespace HT
open PySem PyProof.Rows
section
open PySem.SeqAt
open PySem.MeetsSeq PySem.MeetsSeq2 PySem.MeetsSeq3
end
end HT
namespace D
open L2
section
variable {X:Cx}{K:FG}
end
end D
namespace Stc
open L2 D Rc
def exc(t:Int)(xs:List Int):Int:=(xs.map λ x=>if t<x then x-t else 0).sum
def Dom(xs ys:List Int):Prop:=∀ t,0<=t->exc t xs<=exc t ys
end Stc
namespace D
open L2
end D
open L2 D
namespace L2
abbrev DcW:=Nat->Nat->St->Hp->Prop
section
variable {X:Cx}{pins:PN}{σ:St}{H:Hp}{s:Shared}{sc:Scope}{own:List Str}{fr:List Nat}{cl:List (Str×Addr)}{fp:List Addr}{it D:Addr}{J:It}{tn:Nat->Heap->Prop}{g:TG}{tt:TT}{tk tv:TE}{W:DcW}{Fin:Hp->Prop}
 {kx vx tg iter:Expr}{ifs:List Expr}{pos:Pos}{E:VP}
end
end L2
namespace D
open L2
section
variable {K:FG}
variable {X:Cx}{sc:Scope}{own:List Str}{fr:List Nat}{di:TId}{g:TGd}{tt:TTd}{tk tv:TD}{tg iter kx vx:Expr}{ifs:List Expr}{pos:Pos}
end
end D
open L2 D
namespace L2
end L2
namespace D
open L2
end D
open L2 D
namespace D
open L2
end D
open L2 D
namespace D
open L2
end D
open L2 D
namespace D
open L2
section
variable {X:Cx}{K:FG}
end
end D
namespace PySem
namespace Dp
section
variable {prog:Program}{w:World}{A:Around}{E:VP}{s:Shared}
variable {K:Type}[DecidableEq K]{knd:KeyKind prog w K}
end
end Dp
end PySem
namespace D
open L2
section
variable {X:Cx}{K:FG}
end
end D
namespace Stc
open L2 D Rc
def ajO:List Int->List Int->Prop
 | _,[]=>True
 | rs,d::ds=>∃ T U:List Int,(T++U).Perm rs/\(T.length:Int)=d/\(∀ t∈T,0<t)/\ajO (T.map (λ m=>m-1)++U) ds
end Stc
namespace D
open L2
section
variable {X:Cx}{K:FG}
end
end D
namespace S
open PySem PySem.W PyProof.Rows
def PR(N:Nat)(p:Array Nat):Prop:=p.Perm (List.toArray (List.range N))
end S
namespace D
open L2 S
section
variable {X:Cx}{K:FG}
end
def Tw(H H':Hp):Prop:=Kp H H'/\∀ b vs,H b=some (.lst vs)->H' b=some (.lst vs)\/∃ o,H' b=some (.frz o (.lst vs))
def aco(M:MH):Nat->W->PyData->Prop
 | 0,w,d=>w=.d d
 | n+1,w,d=>w=.d d\/(∃ a ws ds,w=.m a/\M a=some (.lst ws)/\d=.list ds/\Paired (aco M n) ws ds)\/∃ a ws ds,w=.m a/\M a=some (.tup ws)/\d=.tuple ds/\Paired (aco M n) ws ds
theorem aco.d:∀ {n:Nat},aco M n (.d x) x
 | 0=>rfl
 | _+1=>.inl rfl
theorem aco.ds:∀ (ds:List PyData),Paired (aco M n) (ds.map W.d) ds
 | []=>.nil
 | _::ds=>.cons aco.d (aco.ds ds)
section
variable {X:Cx}{K:FG}
end
theorem uE(I:Inv X pins σ H s)(h:H a=some (.lst l)):(∀ xs,X.H₀ a≠some (.tup xs))/\(∀ o v,X.H₀ a≠some (.frz o v))/\∀ ps,X.H₀ a≠some (.tbl ps):=by
 refine⟨λ xs e=>?_,λ o v e=>?_,λ ps e=>?_⟩
 ·have:=I.base.tups a xs e;rw[h] at this;cases this
 ·have:=I.base.frzs a o v e;rw[h] at this;cases this
 ·obtain⟨m,this⟩:=I.base.tbls a ps e;rw[h] at this;cases this
theorem Inv.acf(I:Inv X pins σ H s)(h:H a=some (.lst l)):∃ o,Inv X pins σ (upd H a (.frz o (.frz o (.lst l)))) s:=by have f:Fz (.lst l):=trivial;obtain⟨o,ho⟩:=(I.hok a _ h).obj f;obtain⟨b1,b2,b3⟩:=uE I h;exact⟨o,Inv.swap I h (λ _ z=>nomatch z) (λ _ z=>nomatch z) b1 b2 b3 ⟨ho,ho,(I.hok a _ h).ai5 f⟩⟩
theorem Inv.rh(I0:Inv X pins σ0 H0 s0)(h0:H0 a=some (.lst l))(I:Inv X pins σ H s)(h:H a=some (.frz o (.frz o (.lst l)))):Inv X pins σ (upd H a (.lst l)) s:=by have f:Fz (.lst l):=trivial;obtain⟨b1,b2,b3⟩:=uE I0 h0;exact Inv.swap I h (λ _ z=>nomatch z) (λ _ z=>nomatch z) b1 b2 b3 ((I.hok a _ h).2.2.ai5 f)
def adm(t:TE):TE:=λ σ H Q=>∃ a l,H a=some (.lst l)/\∀ o,t σ (upd H a (.frz o (.frz o (.lst l)))) λ v H'=>H' a=some (.frz o (.frz o (.lst l)))/\Q v (upd H' a (.lst l))
theorem wV(h:PE X e t):PE X e (adm t):=by intro pins s σ H Q I ⟨a,l,ha,q⟩;obtain⟨o,I1⟩:=Inv.acf I ha;exact thn (h pins s σ _ _ I1 (q o)) λ v s1 ⟨x,H',I2,r,e,q2⟩=>⟨x,_,Inv.rh I ha I2 e,r,q2⟩
def aeX(t:TS):TS:=λ D σ H=>∃ a l,H a=some (.lst l)/\∀ o,t
 {nx:=λ σ' H'=>H' a=some (.frz o (.frz o (.lst l)))/\D.nx σ' (upd H' a (.lst l)),rt:=λ v H'=>H' a=some (.frz o (.frz o (.lst l)))/\D.rt v (upd H' a (.lst l)),
  bk:=λ σ' H'=>H' a=some (.frz o (.frz o (.lst l)))/\D.bk σ' (upd H' a (.lst l)),ct:=λ σ' H'=>H' a=some (.frz o (.frz o (.lst l)))/\D.ct σ' (upd H' a (.lst l))} σ (upd H a (.frz o (.frz o (.lst l))))
theorem yy{st:Stmt}{t:TS}(h:PS X st t):PS X st (aeX t):=by
 intro pins s σ H D I ⟨a,l,ha,q⟩;obtain⟨o,I1⟩:=Inv.acf I ha;refine thn (h pins s σ _ _ I1 (q o)) λ f s1 hf=>?_;cases f with
 | next=>obtain⟨σ',H',I2,e,q2⟩:=hf;exact⟨σ',_,Inv.rh I ha I2 e,q2⟩
 | brk=>obtain⟨σ',H',I2,e,q2⟩:=hf;exact⟨σ',_,Inv.rh I ha I2 e,q2⟩
 | cont=>obtain⟨σ',H',I2,e,q2⟩:=hf;exact⟨σ',_,Inv.rh I ha I2 e,q2⟩
 | ret u=>obtain⟨v,σ',H',I2,r,e,q2⟩:=hf;exact⟨v,σ',_,Inv.rh I ha I2 e,r,q2⟩
section
variable {K:FG}{H:Hp}{a:Addr}{o:Obj}{l:List V}
theorem Kp.cq(h:H a=some (.frz o (.frz o (.lst l)))):(∀ b xs,H b=some (.tup xs)->upd H a (.lst l) b=some (.tup xs))/\(∀ b ob ys,H b=some (.frz ob (.lst ys))->upd H a (.lst l) b=some (.frz ob (.lst ys)))/\∀ b ob ys,H b=some (.frz ob (.dK ys))->upd H a (.lst l) b=some (.frz ob (.dK ys)):=by
 refine⟨λ b xs e=>?_,λ b ob ys e=>?_,λ b ob ys e=>?_⟩<;>
 ·rw[aq (λ z=>by rw[z,h] at e;cases e)];exact e
theorem SqT.cq(h:H a=some (.frz o (.frz o (.lst l))))(r:SqT K H b vs):SqT K (upd H a (.lst l)) b vs:=by
 rcases r with (r | ⟨ob,r⟩) | r
 ·exact .inl (.inl ((Kp.cq h).1 _ _ r))
 ·refine .inl (.inr ⟨ob,?_⟩);rw[aq (λ z=>by rw[z,h] at r;cases r)];exact r
 ·exact .inr r
theorem SqF.cq(h:H a=some (.frz o (.frz o (.lst l))))(r:SqF K H b vs):SqF K (upd H a (.lst l)) b vs:=by
 rcases r with ⟨ob,r⟩ | r
 ·exact .inl ⟨ob,(Kp.cq h).2.1 _ _ _ r⟩
 ·exact .inr r
mutual
theorem aC.cq(h:H a=some (.frz o (.frz o (.lst l)))):∀ {d:PyData} {v:V},aC K H d v->aC K (upd H a (.lst l)) d v
 | .none,v,r=>by simp only[aC] at r ⊢;exact r
 | .bool b,v,r=>by simp only[aC] at r ⊢;exact r
 | .int i,v,r=>by simp only[aC] at r ⊢;exact r
 | .str x,v,r=>by simp only[aC] at r ⊢;exact r
 | .list ds,v,r=>by simp only[aC] at r ⊢;obtain⟨b,vs,e,q,r⟩:=r;exact⟨b,vs,e,SqF.cq h q,bo.cq h r⟩
 | .tuple ds,v,r=>by simp only[aC] at r ⊢;obtain⟨b,vs,e,q,r⟩:=r;exact⟨b,vs,e,SqT.cq h q,bo.cq h r⟩
 | .dict kvs,v,r=>by simp only[aC] at r ⊢;obtain⟨b,ob,m,e,q,r⟩:=r;exact⟨b,ob,m,e,(Kp.cq h).2.2 _ _ _ q,jb.cq h r⟩
theorem bo.cq(h:H a=some (.frz o (.frz o (.lst l)))):∀ {ds:List PyData} {vs:List V},bo K H ds vs->bo K (upd H a (.lst l)) ds vs
 | [],vs,r=>by simp only[bo] at r ⊢;exact r
 | d::ds,vs,r=>by simp only[bo] at r ⊢;obtain⟨v,q,e,h1,h2⟩:=r;exact⟨v,q,e,aC.cq h h1,bo.cq h h2⟩
theorem jb.cq(h:H a=some (.frz o (.frz o (.lst l)))):∀ {ds:List (PyData×PyData)} {m:List (Key×V)},jb K H ds m->jb K (upd H a (.lst l)) ds m
 | [],m,r=>by simp only[jb] at r ⊢;exact r
 | (key,d)::ds,m,r=>by simp only[jb] at r ⊢;obtain⟨k',v,q,e,ek,h1,h2⟩:=r;exact⟨k',v,q,e,ek,aC.cq h h1,jb.cq h h2⟩
end
theorem aG.cq(h:H a=some (.frz o (.frz o (.lst l)))):∀ {w:W} {v:V},aG K H w v->aG K (upd H a (.lst l)) w v
 | .d _,_,r=>aC.cq h r
 | .m _,_,r=>r
 | .t _,_,r=>r
theorem cH.cq(h:H a=some (.frz o (.frz o (.lst l))))(m:cH K H M)(e:M a=some (.flst ws0)):cH K (upd H a (.lst l)) (cn M a (.lst ws0)):=λ b mo q=>by
 by_cases hb:b=a
 ·subst hb;rw[aA] at q;cases q;obtain⟨o',l',e',pr⟩:=m _ _ e;rw[h] at e';cases e';exact⟨l,ar,Paired.mE pr λ _ _ z=>aG.cq h z⟩
 ·rw[aR hb] at q;have r:=m b mo q;cases mo with
  | lst ws=>obtain⟨vs,e,r⟩:=r;exact⟨vs,by rw[aq hb];exact e,Paired.mE r λ _ _ z=>aG.cq h z⟩
  | dic kvs=>obtain⟨l,e,r⟩:=r;exact⟨l,by rw[aq hb];exact e,Paired.mE r λ p q z=>⟨z.1,aG.cq h z.2⟩⟩
  | dct kvs=>obtain⟨l,e,r⟩:=r;exact⟨l,by rw[aq hb];exact e,Paired.mE r λ p q z=>⟨z.1,aG.cq h z.2⟩⟩
  | fdic kvs=>obtain⟨o,l,e,r⟩:=r;exact⟨o,l,by rw[aq hb];exact e,Paired.mE r λ p q z=>⟨z.1,aG.cq h z.2⟩⟩
  | ins C fs=>obtain⟨dx,l,e,r⟩:=r;exact⟨dx,l,by rw[aq hb];exact e,Paired.mE r λ p q z=>⟨z.1,aG.cq h z.2⟩⟩
  | tup ws=>obtain⟨vs,e,r⟩:=r;exact⟨vs,by rw[aq hb];exact e,Paired.mE r λ _ _ z=>aG.cq h z⟩
  | flst ws=>obtain⟨o,vs,e,r⟩:=r;exact⟨o,vs,by rw[aq hb];exact e,Paired.mE r λ _ _ z=>aG.cq h z⟩
  | exc C fs =>
   obtain⟨φ,dct,e,p,r⟩:=r;refine⟨φ,dct,by rw[aq hb];exact e,p,?_⟩;rcases r with r | ⟨dx,o',l',e1,e2,r⟩
   ·exact .inl r
   ·exact .inr ⟨dx,o',l',e1,by rw[aq (λ z=>by rw[z,h] at e2;cases e2)];exact e2,Paired.mE r λ p q z=>⟨z.1,aG.cq h z.2⟩⟩
  | code q pos =>
   obtain⟨ps,e,ht,hc⟩:=r;refine⟨ps,by rw[aq hb];exact e,ht,?_⟩;rcases hc with hc | ⟨c,o',vs,t,e1,e2,e3⟩
   ·exact .inl hc
   ·exact .inr ⟨c,o',vs,t,e1,by rw[aq (λ z=>by rw[z,h] at e2;cases e2)];exact e2,e3⟩
theorem Abs.cq(h:H a=some (.frz o (.frz o (.lst l))))(A:Abs K H σ τ M)(e:M a=some (.flst ws0)):Abs K (upd H a (.lst l)) σ τ (cn M a (.lst ws0)):=
 ⟨A.len,λ i w q=>let ⟨v,q1,r⟩:=A.val i w q; ⟨v,q1,aG.cq h r⟩,cH.cq h A.mem e⟩
end
def wN(t:TD)(τ:DS)(M:MH)(Q:QD):Prop:=∃ a ws,M a=some (.lst ws)/\t τ (cn M a (.flst ws)) λ v M'=>M' a=some (.flst ws)/\Q v (cn M' a (.lst ws))
theorem ir(e:H a=some (.lst l))(kp':Kp (upd H a (.frz o (.frz o (.lst l)))) H'):Kp H (upd H' a (.lst l)):=⟨λ b xs z=>by
  have hb:b≠a:=λ y=>by rw[y,e] at z;cases z
  rw[aq hb];exact kp'.tup b xs (by rw[aq hb];exact z),λ b ob u z=>by
  have hb:b≠a:=λ y=>by rw[y,e] at z;cases z
  rw[aq hb];exact kp'.frz b ob u (by rw[aq hb];exact z)⟩
def tZ(t:TSd)(D:Ed)(τ:DS)(M:MH):Prop:=∃ a ws,M a=some (.lst ws)/\t
 {nx:=λ τ' M'=>M' a=some (.flst ws)/\D.nx τ' (cn M' a (.lst ws)),rt:=λ w M'=>M' a=some (.flst ws)/\D.rt w (cn M' a (.lst ws)),
  bk:=λ τ' M'=>M' a=some (.flst ws)/\D.bk τ' (cn M' a (.lst ws)),ct:=λ τ' M'=>M' a=some (.flst ws)/\D.ct τ' (cn M' a (.lst ws))} τ (cn M a (.flst ws))
abbrev jj(o:Obj)(l:List V):HO:=.frz o (.frz o (.lst l))
theorem jU(ok:HOk P w H h)(e:H a=some (jj o l)):∃ its:List Value,Vals l its/\h.IsList a its.toArray:=by obtain⟨ho,_,z,its,n,r,h1⟩:=ok a _ e;exact⟨its,r,⟨_,h1,rfl,n,rfl⟩⟩
def Itf(a:Addr)(o:Obj)(l:List V):It:=
 ⟨λ i H=>H a=some (jj o l)/\i<l.length,λ i H x H'=>H'=H/\l[i]? =some x,λ i H=>H a=some (jj o l)/\l.length<=i⟩
theorem vB{P:Program}{w:World}{K:FG}{tg:Expr}(a it:Addr)(o:Obj)(l:List V):Turn P w K tg (Itf a o l) [it] it (λ i h=>h.IsListIter it a i) where
 mem:=by simp
 obj:=λ i h st b hb=>by
  have e:b=it:=by simpa using hb
  subst e;obtain⟨o,e,c,d⟩:=st;exact⟨o,e,λ v z=>by rw[d] at z;cases z⟩
 keep:=λ i h h' st k=>st.at λ o e=>k it (by simp) o e
 item:=by intro X hP hw hK hc i pins s σ H E I hf st ⟨hg,hi⟩;subst hP hw hK;obtain⟨its,rv,p⟩:=jU I.hok hg;obtain⟨u,hu,ru⟩:=rv.get (List.getElem?_eq_getElem hi);obtain⟨f0,f1,f2,f3,f4,f5⟩:=hf it (by simp);refine wpAny_pyNext_list_item st p (x:=u) (by simpa using hu) λ h' st' sb=>?_;have I1:Inv X pins σ H {s with heap:=h'}:=I.turned (t':=s.toks) (λ b o hb e=>(sb.2 b hb).trans e) f0 f1 f3 f4 f5;obtain⟨o,e,c,d⟩:=id st';exact⟨u,rfl,yb (s:={s with heap:=h'}) e c d (by decide) ⟨_,H,I1,ru,⟨rfl,List.getElem?_eq_getElem hi⟩,st',λ b hb=>(hf b hb).1⟩⟩
 done:=by intro X hP hw hK hc i pins s σ H E I hf st ⟨hg,hi⟩;subst hP hw hK;obtain⟨its,rv,p⟩:=jU I.hok hg;obtain⟨f0,f1,f2,f3,f4,f5⟩:=hf it (by simp);have hl:=rv.length;exact wpAny_pyNext_list_end (I.ok.hd hc) st p (by simp;omega) λ h' eb=>⟨rfl,I.turned (t':=s.toks) (λ b o hb e=>eb b o hb e) f0 f1 f3 f4 f5⟩
 self:=λ _ _ _ _ _ st h=>wpAny_pyIter_listiter st h
def af9(td:TE):TI:=λ σ H R=>td σ H λ x H1=>∃ a o l,x=.ref a/\H1 a=some (jj o l)/\R (Itf a o l) H1
theorem abP{td:TE}(ho:PE X o td):PI X tg o (af9 td):=by
 intro pins s σ H R I h;refine thn (ho pins s σ H _ I h) λ v s1 hq76=>?_;obtain⟨x,H1,I1,r1,a,ob,l,ex,hg,q⟩:=hq76;subst ex;cases r1;obtain⟨its,rv,p⟩:=jU I1.hok hg;refine wpAny_pyIter_list p ?_;refine⟨s1.heap.objs.size,[s1.heap.objs.size],_,_,H1,rfl,I1.kept (t':=s1.toks) λ b o e=>Heap.get?_push_of_some _ e,vB a _ ob l,⟨_,Heap.get?_push_size _ rfl,rfl,rfl⟩,λ b hb=>?_,q⟩;have e:b=s1.heap.objs.size:=by simpa using hb
 subst e;exact I1.rL (Nat.le_refl _) (I1.hok.fresh (Nat.le_refl _))
def yk(td:TD)(τ:DS)(M:MH)(R:List W->MH->Prop):Prop:=td τ M λ w M1=>∃ a ws,w=.m a/\M1 a=some (.flst ws)/\R ws M1
end D
namespace D
open L2
theorem vj(h:Jd (PD X e t)):Jd (PD X e (wN t)):=⟨have h:=h.h;fx (wV h) λ σ H Q hq73=>by obtain⟨τ,M,Qd,A,⟨a,ws,hm,q⟩,k⟩:=hq73;obtain⟨l,e,pr⟩:=A.mem _ _ hm;refine⟨a,l,e,λ o=>?_⟩;have kp:Kp H (upd H a (.frz o (.frz o (.lst l)))):=Kp.set e (λ _ z=>nomatch z) (λ _ _ z=>nomatch z);have m1:cH X.K (upd H a (.frz o (.frz o (.lst l)))) (cn M a (.flst ws)):=A.mem.put (mo:=.flst ws) kp ⟨o,l,ar,ba.keep kp pr⟩;refine⟨τ,_,_,A.go kp m1,q,λ v H' w M' kp' r' m' hq74=>?_⟩;obtain⟨h1,q1⟩:=hq74;have e':=kp'.frz a o _ ar;exact⟨e',k _ _ w _ (ir e kp') (aG.cq e' r') (cH.cq e' m' h1) q1⟩⟩
theorem sd{st:Stmt}{t:TSd}(h:Jd (PSd X st t)):Jd (PSd X st (tZ t)):=⟨have h:=h.h;aaa (yy h) λ D σ H hq75=>by
 obtain⟨τ,M,Dd,A,⟨a,ws,hm,q⟩,k1,k2,k3,k4⟩:=hq75;obtain⟨l,e,pr⟩:=A.mem _ _ hm;refine⟨a,l,e,λ o=>?_⟩;have kp:Kp H (upd H a (.frz o (.frz o (.lst l)))):=Kp.set e (λ _ z=>nomatch z) (λ _ _ z=>nomatch z);have m1:cH X.K (upd H a (.frz o (.frz o (.lst l)))) (cn M a (.flst ws)):=A.mem.put (mo:=.flst ws) kp ⟨o,l,ar,ba.keep kp pr⟩;refine⟨τ,_,_,A.go kp m1,q,?_,?_,?_,?_⟩
 ·rintro σ' H' τ' M' kp' A' ⟨h1,q1⟩;have e':=kp'.frz a o _ ar;exact⟨e',k1 _ _ _ _ (ir e kp') (Abs.cq e' A' h1) q1⟩
 ·rintro v H' w M' kp' r' m' ⟨h1,q1⟩;have e':=kp'.frz a o _ ar;exact⟨e',k2 _ _ _ _ (ir e kp') (aG.cq e' r') (cH.cq e' m' h1) q1⟩
 ·rintro σ' H' τ' M' kp' A' ⟨h1,q1⟩;have e':=kp'.frz a o _ ar;exact⟨e',k3 _ _ _ _ (ir e kp') (Abs.cq e' A' h1) q1⟩
 ·rintro σ' H' τ' M' kp' A' ⟨h1,q1⟩;have e':=kp'.frz a o _ ar;exact⟨e',k4 _ _ _ _ (ir e kp') (Abs.cq e' A' h1) q1⟩⟩
theorem rZ(ho:Jd (PD X o td)):Jd (PId X tg o (yk td)):=⟨have ho:=ho.h;afc (abP ho) λ σ H R hq77=>by obtain⟨τ,M,Rd,A,h,k⟩:=hq77;refine⟨τ,M,_,A,h,λ v H1 w M1 kp r m hq78=>?_⟩;obtain⟨a,ws,ew,hm,q⟩:=hq78;subst ew;obtain⟨ob,l,e,pr⟩:=m _ _ hm;refine⟨a,ob,l,r,e,k _ H1 _ M1 kp m (λ H2 kp2 i=>?_) q⟩;have hl:=pr.length;have e2:=kp2.frz a ob _ e;refine⟨λ hi=>⟨e2,by omega⟩,λ hi=>⟨e2,by omega⟩,λ x H' hi hq79=>?_⟩;obtain⟨eH,ex⟩:=hq79;subst eH;have hi2:i<ws.length:=hi;obtain⟨x',ex',rx⟩:=ba.get (ba.keep kp2 pr) (List.getElem?_eq_getElem hi2);rw[ex'] at ex;cases ex;exact⟨Kp.refl _,λ M m=>m,ws[i],List.getElem?_eq_getElem hi2,rx⟩⟩
theorem af6(h:us.length=0):us=[]:=by exact List.eq_nil_of_length_eq_zero h
theorem d9(h:us.length=1):∃ a1:Value,us=[a1]:=by
 cases us with
 | nil=>simp at h
 | cons a r =>
  have e:r=[]:=af6 (by simpa using h);subst e;exact⟨a,rfl⟩
theorem l4(h:us.length=2):∃ a1 a2:Value,us=[a1,a2]:=by
 cases us with
 | nil=>simp at h
 | cons a r =>
  obtain⟨b1,e⟩:=d9 (us:=r) (by simpa using h);subst e;exact⟨a,b1,rfl⟩
theorem aai(h:us.length=3):∃ a1 a2 a3:Value,us=[a1,a2,a3]:=by
 cases us with
 | nil=>simp at h
 | cons a r =>
  obtain⟨b1,b2,e⟩:=l4 (us:=r) (by simpa using h);subst e;exact⟨a,b1,b2,rfl⟩
section
variable {X:Cx}{K:FG}
def js(xs:List α)(n:Nat)(y:α):List α:=xs.take n++y::xs.drop n
theorem jz(xs:List α)(n:Nat)(y:α):(js xs n y).length=xs.length+1:=by
 unfold js;rw[List.length_append,List.length_cons,List.length_take,List.length_drop];omega
def adg:V->List V->Hp->VK->Prop:=λ x vs H Q=>∃ l xs i y,x=.ref l/\vs=[.int i,y]/\H l=some (.lst xs)/\0<=i/\i<2 ^ 62/\xs.length<sizeLine/\Q .non (upd H l (.lst (js xs i.toNat y)))
theorem abB(r:Vals xs us)(ry:RelV y u):∀ n:Nat,Vals (js xs n y) (js us n u):=by intro n;unfold js;exact(r.take n).append (.cons ry (r.drop n))
theorem xi:MtM X "list.insert" adg:=by
 intro pins s σ H x vs v us Q I rx rv h;obtain⟨l,xs,i,y,rfl,rfl,hH,h0,h1,hz,q⟩:=h;cases rx;obtain⟨u1,u2,rfl,ru1,ru2⟩:∃ u1 u2,us=[u1,u2]/\RelV (.int i) u1/\RelV y u2:=by
  cases rv with
  | cons a b =>
   cases b with
   | cons c d =>
    cases d;exact⟨_,_,rfl,a,c⟩
 obtain⟨t,rfl⟩:=ru1;obtain⟨z,its,n,r,hl,e⟩:=I.aiq hH;have hfit:¬ (!Builtin.List.listFitsIndex i)=true:=by rw[fitsIndex_both (by omega) (by omega)];exact Bool.false_ne_true
 refine call_meets F.slot_list_insert ⟨_,e,rfl⟩ F.entry_list_insert (F.args_list_insert_3 _ _ _) (AutoSeq1.list_insert_list_int_val_1 l its.toArray n i t u2 hfit (by rw[List.size_toArray];omega)) ⟨e,?_⟩;refine⟨.non,_,I.aib (its':=js its i.toNat u2) hH e ?_ (abB r ru2 i.toNat) ?_,rfl,q⟩
 ·show(its.toArray.extract 0 (if i<0 then (i+(its.toArray.size:Int)).toNat else min i.toNat its.toArray.size)).push u2++its.toArray.extract (if i<0 then (i+(its.toArray.size:Int)).toNat else min i.toNat its.toArray.size)=(js its i.toNat u2).toArray;rw[if_neg (by omega),List.size_toArray];unfold js;apply Array.toList_inj.mp
  by_cases hc:i.toNat<=its.length
  ·rw[Nat.min_eq_left hc];simp;rw[List.take_of_length_le (by rw[List.length_drop];exact Nat.le_refl _)]
  ·rw[Nat.min_eq_right (by omega)];simp[List.take_of_length_le (show its.length<=i.toNat by omega),List.drop_eq_nil_of_le (show its.length<=i.toNat by omega)]
 ·rw[jz];omega
theorem zU(r:ba K H ws vs)(rv:aG K H w v)(n:Nat):ba K H (js ws n w) (js vs n v):=by
 unfold js;refine ba.append ?_ (.cons rv ?_)
 ·induction r generalizing n with
  | nil=>rw[show(([]:List W).take n)=[] from by simp,show(([]:List V).take n)=[] from by simp];exact .nil
  | cons a b ih =>
   cases n with
   | zero=>exact .nil
   | succ n=>exact .cons a (ih n)
 ·induction r generalizing n with
  | nil=>rw[show(([]:List W).drop n)=[] from by simp,show(([]:List V).drop n)=[] from by simp];exact .nil
  | cons a b ih =>
   cases n with
   | zero=>exact .cons a b
   | succ n=>exact ih n
def ny(td:TD)(t:TAd)(τ:DS)(M:MH)(Q:QD):Prop:=td τ M λ w M1=>∃ a ws,w=.m a/\M1 a=some (.lst ws)/\t τ M1 λ ys M2=>∃ i y ws',ys=[.d (.int i),y]/\M2 a=some (.lst ws')/\0<=i/\i<2 ^ 62/\ws'.length<sizeLine/\Q (.d .none) (cn M2 a (.lst (js ws' i.toNat y)))
end
theorem iK(ho:Jd (PD X o td))(ha:Jd (PAd X [e,f] t))
  (hbase:attributeBase o "insert" X.env (eval o X.env)=eval o X.env:=by rfl)
  (hfew:((backTo cpos (starEach [e,f] X.env)).all (λ x=>!x.1)&&(backToKw cpos (keywordEach [] X.env)).all (λ x=>x.1.isSome)
   && decide (([e,f]:List Expr).length+([]:List Keyword).length+(if ([]:List Keyword).isEmpty then 0 else 1)<30))=true:=by rfl)
  (hline:(apos.endLine==cpos.line)=true:=by rfl)(hs:dZ e=false:=by rfl)(hp:(backTo cpos (starEach [f] X.env)).any (·.1)=false:=by rfl):Jd (PD X (.Call (.Attribute o "insert" apos) [e,f] [] cpos) (ny td t)):=⟨have ho:=ho.h;have ha:=ha.h;
 fx (qd PySem.F.plainAttrs_list PySem.F.slot_list_insert PySem.F.type_list_insert xi ho ha hbase hfew hline (bH e [f] X.env hs) hp) λ σ H Q h=>by obtain⟨τ,M,Qd,A,h,k⟩:=h;refine⟨τ,M,_,A,h,λ x H1 w M1 kp1 r1 m1 hq80=>?_⟩;obtain⟨a,ws,ew,hm,q1⟩:=hq80;subst ew;obtain⟨vs,ea,ra⟩:=m1 _ _ hm;have r1':x=.ref a:=r1;subst r1';refine⟨.inl ⟨rfl,vs,.inl (.inl ea)⟩,τ,M1,_,A.go kp1 m1,q1,λ ys H2 wys M2 kp2 r2 m2 hq81=>?_⟩;obtain⟨i,y,ws',ey,hm2,h0,h1,hl,q4⟩:=hq81;subst ey;obtain⟨u1,u2,eu,ru1,ru2⟩:=mw r2;simp only[aG,aC] at ru1;subst ru1;obtain⟨vs2,ea2,ra2⟩:=m2 _ _ hm2;have kp4:Kp H2 (upd H2 a (.lst (js vs2 i.toNat u2))):=Kp.set ea2 (λ _ z=>nomatch z) (λ _ _ z=>nomatch z);refine⟨a,vs2,i,u2,rfl,eu,ea2,h0,h1,by rw[<- ra2.length];exact hl,?_⟩;exact k _ _ (.d .none) _ ((kp1.trans kp2).trans kp4) (by simp[aG,aC]) (m2.put (mo:=.lst (js ws' i.toNat y)) kp4 ⟨_,ar,ba.keep kp4 (zU ra2 ru2 i.toNat)⟩) q4⟩
section
variable {X:Cx}{K:FG}
end
section
variable {X:Cx}{K:FG}
end
section
variable {K:FG}
variable {X:Cx}{sc:Scope}{own:List Str}{fr:List Nat}{di:TId}{g:TGd}{tt:TTd}{te:TD}{tg iter elt:Expr}{ifs:List Expr}{pos:Pos}
end
section
variable {X:Cx}{tg iter elt:Expr}{pos:Pos}{sc:Scope}{own:List Str}{fr:List Nat}{di:TId}{g:TGd}{tt:TTd}{te:TD}{ifs:List Expr}
end
end D
namespace XO
open PySem.W Builtin.ObjectAttr
def qJ:List Value:=[.type "ValueError",.type "Exception",.type "BaseException",.type "object"]
def d4:List Value->Bool
 | .ref _::r=>d4 r
 | l=>l==qJ
theorem jy{l:List Value}(h:d4 l=true):l.isEmpty=false:=by
 cases l with
 | nil=>exact absurd h (by decide)
 | cons _ _=>rfl
theorem mW{l:List Value}(h:d4 l=true):(∃ a r,l=.ref a::r/\d4 r=true)\/l=qJ:=by
 cases l with
 | nil=>exact absurd h (by decide)
 | cons v r =>
  cases v<;>first | exact .inl ⟨_,_,rfl,h⟩ | exact .inr (eq_of_beq (by simpa only[d4] using h))
theorem jA(T:String)(hT:qJ.contains (.type T)=true):∀ {l:List Value},d4 l=true->l.contains (.type T)=true:=by
 intro l
 induction l with
 | nil=>intro h;exact absurd h (by decide)
 | cons v r ih =>
  intro h;rcases mW h with ⟨a,r',e,q⟩ | e
  ·cases e;rw[List.contains_cons,ih q,Bool.or_true]
  ·rw[e];exact hT
theorem tj(self:Value):∀ {l:List Value},d4 l=true->refuseLoop self "__setattr__" l=pure ():=by
 intro l
 induction l with
 | nil=>intro h;exact absurd h (by decide)
 | cons v r ih =>
  intro h;rcases mW h with ⟨a,r',e,q⟩ | e
  ·cases e;rw[refuseLoop_ref];exact ih q
  ·rw[e];exact PySem.F.store_ValueError.passes self
def aap(K:Frag)(C:Addr):Bool:=(clsIn K C).any λ cd=>cd.hasDict&&d4 cd.mro
theorem fm{K:Frag}{C:Addr}(h:aap K C=true):∃ cd,clsIn K C=some cd/\cd.hasDict=true/\d4 cd.mro=true:=by obtain⟨cd,e,q⟩:=any_some h;simp only[Bool.and_eq_true] at q;exact⟨cd,e,q.1,q.2⟩
section
variable {prog:Program}{w:World}{A:Around}{E:VP}{s:Shared}{K:Frag}{x C:Addr}{name:Str}{v:Value}
theorem ajA{M:Model}{h:Heap}{ox:Obj}{od:Option Obj}(X:K.In h)(c:aap K C=true)(I:W.InstAt h x ox C od){T:String}(hT:qJ.contains (.type T)=true):Looks M h (isInstance (.ref x) (.type T)) true:=by obtain⟨cd,hc,_,hm⟩:=fm c;refine I.type.andThen (looks_mroIn X ?_);unfold mroIn;rw[hc,Option.bind_some,if_neg (by rw[jy hm];decide),jA T hT hm]
theorem aj4{R:Result->Shared->Prop}{ox:Obj}{od:Option Obj}{tk:Tok}(X:K.In s.heap)(I:W.InstAt s.heap x ox C od)(c:aap K C=true)(na:findIn K (.ref C) name=some none)
  (h:∀ b,wpAny (model prog w) A.in1 (storeInOwnDict (.ref x) (.ref C) (.str name tk) name v b)
   (λ fin s'=>match fin with | .done f=>R (.ok f) s' | .again c'=>c'.quiet=true/\codeAny (model prog w) A c' R s') (λ e s'=>R (.error e) s') s) :
  codeAny (model prog w) A (.call (.builtin "object.__setattr__") ⟨[.ref x,.str name tk,v],[]⟩) R s:=by
 obtain⟨cd,hc,_,hm⟩:=fm c;have S:=PySem.F.store_object;refine codeAny_call_builtin S.slot.plain S.entry (@check_slot (model prog w) _ _ s "object.__setattr__" "object" "__setattr__" (.ref x) [.str name tk,v] [] _ S.kind S.split (ajA X c I (by decide)) (S.args (.ref x) (.str name tk) v) ?_);rw[osa_eq,refuse_eq];have hm':Looks (model prog w) s.heap (mroOf (.ref C)) cd.mro:=(looks_clsIn X hc).andThen .now;refine wpAny_bind (wpAny_bind (I.type.here (wpAny_bind (hm'.here ?_))));rw[tj _ hm];refine wpAny_pure ?_;exact wpAny_bind (I.type.here (wpAny_bind ((looks_findIn X na).here (wpAny_bind (wpAny_pure (h _))))))
theorem ahI{Q:Unit->Shared->Prop}{vs:Array Value}{sl:Array (Option Value)}(X:K.In s.heap)(c:aap K C=true)(sa:findIn K (.ref C) "__setattr__" = some (some (.builtin "object.__setattr__")))
  (na:findIn K (.ref C) name=some none)(hx:s.heap.get? x=some ⟨.ref C,none,.fields vs,sl⟩)
  (h:∀ h' tk dx,s.heap.objs.size<=dx->dx≠x->h'.get? x=some ⟨.ref C,some dx,.fields vs,sl⟩->h'.Ns1 dx (λ y=>if y=name then some v else none)->(∀ b o,b≠x->s.heap.get? b=some o->h'.get? b=some o)->Q () {s with heap:=h',toks:=tk}) :
  wpAny (model prog w) A (setAttr (.ref x) name v) Q E s:=by
 have I:W.InstAt s.heap x ⟨.ref C,none,.fields vs,sl⟩ C none:=⟨hx,rfl,rfl,True.intro⟩;refine set_plain X I sa (aj4 (s:={s with toks:=s.toks+1}) X I c na λ b=>?_);obtain⟨cd,hc,hd,_⟩:=fm c;refine wpAny_bind (wpAny_pure (wpAny_bind (wpAny_bind (wpAny_loadPart hx (wpAny_bind (W.Looks.here (s:={s with toks:=s.toks+1}) (looks_clsIn X hc) ?_))))));rw[hd];have lx:x<s.heap.objs.size:=Heap.lt_size hx;have ne:s.heap.objs.size≠x:=Nat.ne_of_gt lx;refine wpAny_bind (wpAny_alloc' (wpAny_bind (wpAny_update' (Heap.get?_push_of_some _ hx) (wpAny_pure ?_))));have e1:((s.heap.push {cls:=.type "dict",data:=.dict #[]}).update x λ o=>{o with dict:=some s.heap.objs.size}).get? s.heap.objs.size=some {cls:=.type "dict",data:=.dict #[]}:=
  (Heap.get?_update_ne _ _ _ _ ne).trans (Heap.get?_push_at rfl rfl)
 have e2:((s.heap.push {cls:=.type "dict",data:=.dict #[]}).update x λ o=>{o with dict:=some s.heap.objs.size}).get? x=some ⟨.ref C,some s.heap.objs.size,.fields vs,sl⟩:=
  Heap.get?_update_self _ (Heap.get?_push_of_some _ hx) rfl
 have e3:((s.heap.push {cls:=.type "dict",data:=.dict #[]}).update x λ o=>{o with dict:=some s.heap.objs.size}).Ns s.heap.objs.size (λ _=>none):=⟨_,#[],_,e1,rfl,λ _ z=>absurd z (by simp),λ _=>rfl⟩;refine wpAny_bind (wpAny_pure (wpAny_bind (wpAny_nsSet1 (Heap.Ns1.of_empty e3) λ h2 n2 sb=>?_)));obtain⟨oD,esD,epD,g1,g2,g3⟩:=n2.count (PySem.Within.cons name v PySem.Within.nil);refine wpAny_bind (wpAny_lookBehind g1 (by rw[g2];exact pastItsLine_dict (Nat.le_trans g3 (by rw[List.length_cons,List.length_nil,sizeLine_eq];omega))) (wpAny_pure ?_));exact h h2 _ _ (Nat.le_refl _) ne ((sb.2 x (Ne.symm ne)).trans e2) n2 λ b o hb z=>(sb.2 b (Nat.ne_of_lt (Heap.lt_size z))).trans ((Heap.get?_update_ne _ _ _ _ hb).trans (Heap.get?_push_of_some _ z))
end
section
variable {prog:Program}{w:World}{A:Around}{E:VP}{s:Shared}{K:Frag}{x C:Addr}{name:Str}{v:Value}{ox:Obj}{od:Option Obj}
theorem aeT:builtinKind "BaseException.__getattribute__" = some .slot:=by decide +kernel
theorem aax:splitId "BaseException.__getattribute__" = some ("BaseException", "__getattribute__"):=by decide +kernel
structure XC(K:Frag)(C:Addr):Prop where
 x:aap K C=true
 sa:findIn K (.ref C) "__setattr__" = some (some (.builtin "object.__setattr__"))
 ga:findIn K (.ref C) "__getattribute__" = some (some (.builtin "BaseException.__getattribute__"))
 gt:findIn K (.ref C) "__getattr__" = some none
 cl:findIn K (.ref C) "__class__" = some (some (.builtin "object.__class__"))
 cg:specialIn K (.builtin "object.__class__") "__get__" = some (some (.builtin "getset_descriptor.__get__"))
 ct:takesIn K (.builtin "object.__class__")=some true
theorem xby{fill expr:Bool}{tk:Tok}{Q:VP}(X:K.In s.heap)(c:XC K C)(I:W.InstAt s.heap x ox C od)
  (h:wpAny (model prog w) A.in1 (Builtin.«object.__getattribute__» ⟨[.ref x,.str name tk],[]⟩)
   (λ fin s'=>match fin with | .done (.ret v)=>wpAny (model prog w) A (handedOut v) Q E s' | _=>False) (λ _ _=>False) s) :
  wpAny (model prog w) A (getAttrBy (.ref x) (.str name tk) fill expr) Q E s:=by
 unfold getAttrBy;refine wpAny_holding (wpAny_bind (I.type.here (wpAny_bind ((looks_findIn X c.ga).here ?_))));have e1:(onTheHeap (Value.ref C)&&(Value.builtin "BaseException.__getattribute__" == Value.builtin "object.__getattribute__"))=false:=by rw[show(Value.builtin "BaseException.__getattribute__" == Value.builtin "object.__getattribute__")=false from by decide,Bool.and_false]
 dsimp only;rw[if_neg (by rw[e1];decide)];unfold getAttrByItsOwn hookBefore;refine wpAny_bind ?_;rw[if_pos (show onTheHeap (Value.ref C)=true from rfl)];refine(looks_findIn X c.gt).here ?_;refine wpAny_bind (wpAny_attempt (wpAny_holding ?_));unfold callGetattribute;rw[if_neg (by rw[show onTheHeap (Value.builtin "BaseException.__getattribute__")=false from rfl,Bool.and_false];decide)];unfold boundAndCalled;rw[PySem.F.excAttr_ValueError.ga.bind];refine wpAny_bind (wpAny_pure ?_);refine wpAny_call (codeAny_call_builtin PySem.F.excAttr_ValueError.ga.plain PySem.F.entry_bexc_ga (@check_slot (model prog w) _ _ s _ "BaseException" "__getattribute__" (.ref x) [.str name tk] [] _ aeT aax (ajA X c.x I (by decide)) (PySem.F.args_bexc_ga _ _) ?_));refine wpAny_mono h (λ fin s' z=>?_) λ _ _ z=>z.elim;rcases fin with (_ | _ | _ | _) | _<;>first | exact z | exact z.elim
theorem aj1{expr:Bool}{Q:VP}(X:K.In s.heap)(c:XC K C)(I:W.InstAt s.heap x ox C od)(hf:findObj K C od name=some (.value v))(hh:handedIn v=true)(h:Q v {s with toks:=s.toks+1}) :
  wpAny (model prog w) A (getAttr (.ref x) name expr) Q E s:=by
 unfold getAttr;refine wpAny_bind (wpAny_mkText (xby (s:={s with toks:=s.toks+1}) X c I ?_));refine wpAny_bind (wpAny_pure (wpAny_bind (wpAny_pure (wpAny_bind (W.Looks.here (s:={s with toks:=s.toks+1}) I.type (wpAny_bind (W.Looks.here (s:={s with toks:=s.toks+1}) (looks_find X I hf) ?_)))))));refine wpAny_pure ?_;show wpAny _ _ (handedOut v) _ _ _;rw[handedOut_of hh];exact wpAny_pure h
theorem XC.mro(c:XC K C):mroIn K C (.type "object")=some true:=by obtain⟨cd,hc,_,hm⟩:=fm c.x;unfold mroIn;rw[hc,Option.bind_some,if_neg (by rw[jy hm];decide),jA "object" (by decide) hm]
theorem XC.at(c:XC K C):∃ cd o dd sl,K.lookup C=some ⟨o,dd,.cls cd,sl⟩:=by
 obtain⟨cd,hc,_,_⟩:=fm c.x;unfold clsIn at hc
 split at hc
 ·rename_i ho;exact⟨_,_,_,_,ho⟩
 ·cases hc
theorem XC.look{M:Model}{h:Heap}(c:XC K C)(X:K.In h):Looks M h (isType (.ref C)) true:=by obtain⟨cd,o,dd,sl,ho⟩:=c.at;refine λ A' Q' E' s' k q=>?_;unfold isType loadHead;exact wpAny_bind (wpAny_loadPart (k _ _ (X _ _ ho)) (wpAny_pure q))
theorem agj{Q:Option Value->Shared->Prop}(X:K.In s.heap)(c:XC K C)(I:W.InstAt s.heap x ox C od)(h:Q (some (.ref C)) {s with toks:=s.toks+1}):wpAny (model prog w) A (getAttr? (.ref x) "__class__") Q E s:=by
 obtain⟨cd,hc,_,hm⟩:=fm c.x;have hf:findObj K C od "__class__" = some (.bind (.builtin "getset_descriptor.__get__") (.builtin "object.__class__")):=by
  unfold findObj;rw[hc,Option.bind_some,c.cl,Option.bind_some];simp[c.cg,c.ct]
 unfold getAttr? getAttrBy?;refine wpAny_bind (wpAny_mkText (wpAny_bind (wpAny_attempt (xby (s:={s with toks:=s.toks+1}) X c I ?_))));refine wpAny_bind (wpAny_pure (wpAny_bind (wpAny_pure (wpAny_bind (W.Looks.here (s:={s with toks:=s.toks+1}) I.type (wpAny_bind (W.Looks.here (s:={s with toks:=s.toks+1}) (looks_find X I hf) ?_)))))));show wpAny _ _ (holding [Value.builtin "object.__class__"] (call (.builtin "getset_descriptor.__get__") [.builtin "object.__class__",.ref x,.ref C]) >>= ret) _ _ _;refine wpAny_bind (wpAny_holding (wpAny_call (class_get (s:={s with toks:=s.toks+1}) X I c.mro ?_)));exact wpAny_pure (handed_on rfl (wpAny_pure h))
theorem ab7(c:XC K C):KitX K (.ref x) (.ref C) (λ h=>W.InstAt h x ox C od) where
 ty:=λ _ _ _ I=>I.type
 it:=λ _ _ X _=>c.look X
 ne:=λ h tp dd its n sl X htp=>by obtain⟨cd,o,d',s',e⟩:=c.at;refine Bool.eq_false_iff.mpr λ q=>?_;cases Value.ref.inj (beq_iff_eq.mp q);have z:=(X _ _ e).symm.trans htp;cases z
 ca:=λ X I k=>agj X c I k
end
def xmk(K:Frag)(C:Addr):Bool:=match K.lookup C with
 | some ⟨.type "type",_,.cls cd,sl⟩=>(match cd.mro,sl.toList with
  | .ref D::bm,[_,_,_,_,some (.builtin n),_]=>D==C&&n == "ValueError.__new__" && !cd.hasDel&&tailIn K qJ bm
  | _,_=>false)
 | _=>false
theorem zS{K:Frag}{C:Addr}{h:Heap}(X:K.In h)(e:xmk K C=true):∃ nm q N bs bm hdct sn sub ab col dd k0 k1 k2 k3 k5,
  h.get? C=some (excClassObj nm q C N bs bm hdct sn sub ab col dd k0 k1 k2 k3 k5 "ValueError.__new__")/\OwnTail h qJ bm:=by
 unfold xmk at e
 split at e
 ·rename_i dd cd sl ho
  split at e
  ·rename_i D bm a0 a1 a2 a3 n a5 hm hs
   simp only[Bool.and_eq_true,beq_iff_eq,Bool.not_eq_true'] at e;obtain⟨⟨⟨h1,h2⟩,h3⟩,h4⟩:=e;subst h1 h2;obtain⟨c1,c2,c3,c4,c5,c6,c7,c8,c9,c10,c11⟩:=cd;dsimp only at hm h3;subst hm h3;obtain⟨l⟩:=sl;simp only at hs;subst hs;exact⟨_,_,_,_,_,_,_,_,_,_,_,_,_,_,_,_,X _ _ ho,tail_of_in X h4⟩
  ·cases e
 ·cases e
abbrev rq(C t:Addr):Obj:={cls:=.ref C,data:=.fields #[.ref t,.none,.none,.none,.bool false,.none]}
section
variable {prog:Program}{w:World}{A:Around}{E:VP}{K:Frag}{C f:Addr}{h:Heap}{g:Array GenState}{d:Drawn}{t:Nat}{os:OsState}
theorem aiV{us:List Value}{Q:PySem.Fin->Shared->Prop}(X:K.In h)(c:XC K C)(q:xmk K C=true)(hi:findIn K (.ref C) "__init__" = some (some (.ref f)))(hf:typeIn K (.ref f)=some (.type "function"))(hz:us.length<=sizeLine)
  (k:wpAny (model prog w) A (call (.ref f) (.ref (h.objs.size+1)::us)) (λ r s'=>r=.none/\Q (.done (.ret (.ref (h.objs.size+1)))) s') E
   ⟨(h.push {cls:=.type "tuple",data:=.seq us.toArray}).push (rq C h.objs.size),g,d,t,os⟩) :
  wpAny (model prog w) A (Builtin.«type.__call__» ⟨.ref C::us,[]⟩) Q E ⟨h,g,d,t,os⟩:=by
 obtain⟨nm,q',N,bs,bm,hdct,sn,sub,ab,col,dd,k0,k1,k2,k3,k5,hC,T⟩:=zS X q;have B:=PySem.F.excBase_ValueError
 repeat (first | with_reducible refine wpAny_loadPart_at hC ?_ | with_reducible refine wpAny_madeBy_exc hC ?_ | wp_step)
 refine codeAny_call_builtin_code (Code.quiet_builtin _ B.quiet) (wpAny_check_new_subT B T hC (codeAny_exc_new_subT B T hC ?_ hz));show wpAny _ _ _ _ _ _;have kp:∀ b o,h.get? b=some o->((h.push {cls:=.type "tuple",data:=.seq us.toArray}).push (rq C h.objs.size)).get? b=some o:=λ b o z=>Heap.get?_push_of_some _ (Heap.get?_push_of_some _ z);have X1:=X.keeps kp;have eg:((h.push {cls:=.type "tuple",data:=.seq us.toArray}).push (rq C h.objs.size)).get? (h.objs.size+1)=some (rq C h.objs.size):=by heap_get
 have I:W.InstAt ((h.push {cls:=.type "tuple",data:=.seq us.toArray}).push (rq C h.objs.size)) (h.objs.size+1) (rq C h.objs.size) C none:=⟨eg,rfl,rfl,True.intro⟩;obtain⟨cd,hc,_,hm⟩:=fm c.x;have hsub:Looks (model prog w) ((h.push {cls:=.type "tuple",data:=.seq us.toArray}).push (rq C h.objs.size)) (isInstance (.ref (h.objs.size+1)) (.ref C)) true:=by refine I.type.andThen (λ A' Q' E' s' k' z=>?_);exact wpAny_isSubtype_exc (h:=s'.heap) (g:=s'.gens) (d:=s'.drawn) (t:=s'.toks) (os:=s'.os) (k' _ _ (kp _ _ hC)) (by rw[show(Value.ref C::bm).contains (Value.ref C)=true from by simp];exact z)
 refine wpAny_bind (hsub.here ?_);rw[if_neg (by decide)];refine wpAny_bind (wpAny_holding (special_fn (s:=⟨_,g,d,t,os⟩) X1 I hi hf (wpAny_mono k (λ r s' z=>?_) λ _ _ z=>z)));obtain⟨rfl,z⟩:=z;exact wpAny_pure z
theorem agA{us:List Value}{Q:VP}(X:K.In h)(c:XC K C)(q:xmk K C=true)(hi:findIn K (.ref C) "__init__" = some (some (.ref f)))(hf:typeIn K (.ref f)=some (.type "function"))(hz:us.length<=sizeLine)
  (k:wpAny (model prog w) (A.under (.builtin "type.__call__" ⟨.ref C::us,[]⟩)) (call (.ref f) (.ref (h.objs.size+1)::us)) (λ r s'=>r=.none/\Q (.ref (h.objs.size+1)) s') E
   ⟨(h.push {cls:=.type "tuple",data:=.seq us.toArray}).push (rq C h.objs.size),g,d,t,os⟩) :
  wpAny (model prog w) A (call (.ref C) us) Q E ⟨h,g,d,t,os⟩:=by
 obtain⟨nm,q',N,bs,bm,hdct,sn,sub,ab,col,dd,k0,k1,k2,k3,k5,hC,T⟩:=zS X q;have l1:=tc_lookup;have l2:=tc_bind (.ref C);have l3:(⟨h,g,d,t,os⟩:Shared).TypeIs (.ref C) "type":= ⟨_,hC,rfl⟩;refine wpAny_call (codeAny_of_tree ?_);show wpAny _ _ (callAny (.ref C) ⟨us,[]⟩) _ _ _
 repeat (any_goals (first | with_reducible refine wpAny_loadPart_at hC ?_ | assumption | wp_step))
 exact⟨rfl,codeAny_call_builtin_at (Code.quiet_builtin _ (by decide +kernel)) entry_typeCall (wpAny_check_type_call_sub hC (aiV X c q hi hf hz k))⟩
end
abbrev ju(C:Addr)(dct:Option Addr)(vs:Array Value):Obj:={cls:=.ref C,dict:=dct,data:=.fields vs}
def Tb(h:Heap)(e:Addr)(vs:Array Value):Prop:=vs[1]? =some .none\/∃ T oT ts,vs[1]? =some (.ref T)/\T≠e/\h.get? T=some oT/\oT.data=.fields ts/\ts[3]? =some .none
theorem Tb.size{h:Heap}{e:Addr}{vs:Array Value}(t:Tb h e vs):1<vs.size:=by
 rcases t with z | ⟨_,_,_,z,_⟩<;>exact(Array.getElem?_eq_some_iff.mp z).1
structure Seen(fs:List Addr)(e:Addr)(h h':Heap):Prop where
 keep:∀ b o,b≠e->b ∉ fs->h.get? b=some o->h'.get? b=some o
 slot:∀ b o,b∈fs->h.get? b=some o->∃ sl,h'.get? b=some {o with slots:=sl}
theorem aaH{Q:Unit->Shared->Prop}(hfr:A.frames=some (env::outer))(hl:s.heap.FunFrames base (env::outer))(hf:env.frame=some L)(he:s.heap.get? e=some (ju C dct vs))(tb:Tb s.heap e vs)
  (q:∀ h' vs',h'.get? e=some (ju C dct vs')->Tb h' e vs'->vs'[1]? ≠ some .none->vs'[2]? =vs[2]? -> Seen ((env::outer).filterMap (·.frame)) e s.heap h'->Q () {s with heap:=h'}) :
  wpAny M A (noteFrame (.ref e) env) (λ _ s1=>wpAny M A (setFlight (.ref e) none) Q E s1) E s:=by
 have nfr:∀ b o us,s.heap.get? b=some o->o.data=.fields us->b ∉ (env::outer).filterMap (·.frame):=λ b o us z zd hm=>by obtain⟨_,o',ho,hn⟩:=hl.mem hm;rw[z] at ho;cases ho;exact hn us zd
 have main:∀ (head:Value) (had:Bool),wpAny M A (do let a <- frameOf env;let pl <- entryPlaceOf L had;let b <- EntryCells.newEntry head a .none (rawInt L) .none pl;setField (.ref e) 1 b) (λ _ s1=>wpAny M A (setFlight (.ref e) none) Q E s1) E s:=by
  intro head had;refine wpAny_bind (wpAny_frameOf_fun hfr hl hf λ h1 so=>wpAny_bind (wpAny_entryPlaceOf λ pl hpl=>?_));unfold EntryCells.newEntry newFields;refine wpAny_bind (wpAny_newObj_type ?_ (hpl.sizeOk5 _ _ _ _ _));have e1:h1.get? e=some (ju C dct vs):=(so.2.1 e (nfr e _ vs he rfl)).trans he;generalize hts:([head,Value.ref L,.none,rawInt L,.none]++(if pl.isEmpty then List.replicate 6 Value.none else pl)).toArray=ts;have hts3:3<ts.size:=by rw[<- hts];simp only[List.size_toArray,List.length_append,List.length_cons,List.length_nil]<;>omega
  have e2:=Heap.get?_push_of_some (h:=h1) {cls:=.type "traceback",dict:=none,data:=.fields ts} e1;refine wpAny_setField e2 rfl tb.size ?_;have ne:h1.objs.size≠e:=Nat.ne_of_gt (Heap.lt_size e1);have e3:((h1.push {cls:=.type "traceback",dict:=none,data:=.fields ts}).update e (Obj.mapFields (·.setIfInBounds 1 (Value.ref h1.objs.size)))).get? e=some (ju C dct (vs.setIfInBounds 1 (Value.ref h1.objs.size))):=
   Heap.get?_update_self _ e2 rfl
  have e4:((h1.push {cls:=.type "traceback",dict:=none,data:=.fields ts}).update e (Obj.mapFields (·.setIfInBounds 1 (Value.ref h1.objs.size)))).get? h1.objs.size=some {cls:=.type "traceback",dict:=none,data:=.fields ts}:=
   (Heap.get?_update_other _ _ (Ne.symm ne)).trans (Heap.get?_push_size h1 rfl)
  have v1:(vs.setIfInBounds 1 (Value.ref h1.objs.size))[1]? =some (Value.ref h1.objs.size):=by simp[tb.size]
  unfold setFlight;refine wpAny_bind (wpAny_field e3 rfl v1 ?_);rw[if_pos (show(Value.ref h1.objs.size != Value.none)=true from by simp)];refine wpAny_setField e4 rfl hts3 (q _ (vs.setIfInBounds 1 (Value.ref h1.objs.size)) ?_ (.inr ⟨h1.objs.size,_,ts.setIfInBounds 3 .none,v1,ne,Heap.get?_update_self _ e4 rfl,rfl,by simp[hts3]⟩) (by rw[v1];intro z;cases z) (by simp) ?_)
  ·rw[Heap.get?_update_other _ _ ne];exact e3
  ·have kp:∀ b o,b≠e->h1.get? b=some o->(((h1.push {cls:=.type "traceback",dict:=none,data:=.fields ts}).update e (Obj.mapFields (·.setIfInBounds 1 (Value.ref h1.objs.size)))).update h1.objs.size
     (Obj.mapFields (·.setIfInBounds 3 ((none:Option Addr).elim Value.none λ f=>rawInt f)))).get? b=some o:=λ b o hb z=>by
    rw[Heap.get?_update_other _ _ (Nat.ne_of_gt (Heap.lt_size z)),Heap.get?_update_other _ _ (Ne.symm hb)];exact Heap.get?_push_of_some _ z
   refine⟨λ b o hb hm z=>kp b o hb ((so.2.1 b hm).trans z),λ b o hm z=>?_⟩;obtain⟨sl,z2⟩:=so.2.2 b o z;exact⟨sl,kp b _ (λ w=>nfr e _ vs he rfl (w ▸ hm)) z2⟩
 unfold noteFrame;simp only[hf];rcases tb with z | ⟨T,oT,ts,z1,z2,z3,z4,z5⟩
 ·refine wpAny_bind (wpAny_field he rfl z ?_);rw[if_neg (by decide)];exact main _ _
 ·refine wpAny_bind (wpAny_field he rfl z1 ?_);rw[if_pos (show(Value.ref T != Value.none)=true from by simp)];refine wpAny_bind (wpAny_field z3 z4 z5 ?_);rw[if_neg (show ¬ ((Value.none==rawInt L)=true) from by simp[rawInt])];refine wpAny_bind (wpAny_setField z3 z4 (Array.getElem?_eq_some_iff.mp z5).1 ?_);rw[Heap.update_setField_same s.heap T oT ts 3 .none z3 z4 z5];exact main _ _
end XO
namespace L2
open XO
def XF(e C:Addr)(dct:Option Addr)(cc:Bool):Heap->Prop:=λ h=>∃ vs,h.get? e=some (ju C dct vs)/\(cc=true->vs[2]? =some .none)
def DX(dx:Addr)(l:List (Str×V)):Heap->Prop:=λ h=>∃ mA,h.Ns1 dx mA/\(∀ f,uL (l.lookup f) (mA f))/\PySem.Within mA (l.map (·.1))
def Air(H:Hp)(h:Heap)(e:Addr):Prop:=∃ C dct vs cc,H e=some (.ext (XF e C dct cc))/\h.get? e=some (ju C dct vs)/\Tb h e vs/\(cc=true->vs[2]? =some .none)
theorem abG(z:h.get? e=some (ju C dct vs))(c:cc=true->vs[2]? =some .none):cF P w H h e (.ext (XF e C dct cc)):=
 ⟨⟨vs,z,c⟩,⟨_,z⟩,λ h1 h2 ⟨us,e1,c⟩ k=>⟨us,k _ e1,c⟩⟩
theorem aiI(z:DX dx l h):cF P w H h dx (.ext (DX dx l)):=
 ⟨z,let ⟨_,⟨o,_,_,e,_⟩,_⟩:=z; ⟨o,e⟩,λ h1 h2 ⟨mA,n,r⟩ k=>⟨mA,n.at k,r⟩⟩
theorem Inv.seen(I:Inv X pins σ H s)(e:H a=some (.ext (XF a C dct cc)))(he:h'.get? a=some (ju C dct vs))(hc:cc=true->vs[2]? =some .none)(sn:Seen (frs X.stack) a s.heap h'):Inv X pins σ H {s with heap:=h'}:=by
 have nfs:∀ b u,H b=some u->b ∉ frs X.stack:=λ b u z hb=>by rw[I.rQ b hb] at z;cases z
 refine I.call (g':=s.gens) (t':=s.toks) (d':=s.drawn) (ch:=[]) ⟨λ b o z n hb _=>sn.keep b o (λ w=>by rw[w,e] at n;cases n) hb z,λ b o z _ hb _=>sn.slot b o hb z,λ _ _ _ n _=>n,λ b o z _=>?_,λ _ _ z=>z,λ _ _ _ z=>z,λ _ ps z=>⟨#[],by rw[z];simp⟩⟩ (λ b o z=>?_) I.bare (λ b z=>absurd z (by simp))
 ·by_cases hb:b=a
  ·subst hb;exact⟨_,he⟩
  ·by_cases hm:b∈frs X.stack
   ·obtain⟨sl,q⟩:=sn.slot b o hm z;exact⟨_,q⟩
   ·exact⟨o,sn.keep b o hb hm z⟩
 ·by_cases hb:b=a
  ·subst hb;rw[e] at z;cases z;exact abG he hc
  ·refine(I.hok b o z).sx (λ c u hc q=>sn.keep c u ?_ ?_ q) (λ _ q=>q) λ _ _ q=>q
   ·rcases hc with w | w
    ·rw[w];exact hb
    ·intro y;rw[y,e] at w;cases w
   ·rcases hc with w | w
    ·rw[w];exact nfs b o z
    ·exact nfs c _ w
theorem Inv.aaH(I:Inv X pins σ H s)(hA:A.frames=some X.stack)(hst:X.stack=X.env::X.outer)(hf:X.env.frame=some X.env.locals)(air:Air H s.heap a)
  (q:∀ s',Inv X pins σ H s'->Air H s'.heap a->Q () s'):wpAny (model X.prog X.w) A (noteFrame (.ref a) X.env) (λ _ s1=>wpAny (model X.prog X.w) A (setFlight (.ref a) none) Q E s1) E s:=by
 obtain⟨C,dct,vs,cc,e1,e2,e3,e4⟩:=air;have st:=I.stack;rw[hst] at st hA;refine XO.aaH hA st hf e2 e3 λ h' vs' g1 g2 _ g4 g3=>q _ (I.seen e1 g1 (λ z=>by rw[g4];exact e4 z) ?_) ⟨C,dct,vs',cc,e1,g1,g2,λ z=>by rw[g4];exact e4 z⟩;rw[hst];exact g3
def CXE(P:Program)(w:World):CXT:=λ outer H s E e s'=>∃ a H',e=.ref a/\s'.os=s.os/\AllBare s'.gens/\Un (frs outer) [] H H' s.heap s'.heap/\HOk P w H' s'.heap/\Air H' s'.heap a/\E e none H'
theorem yW(F:cQ X.prog X.w X.K X.mg X.base CX k f fd ps sp)(hr:fO k X.A)(hb:Binds X.K fd ps [])(I:Inv X pins σ H s)(r:Vals vs us)(h:sp vs H Q E)(hx:∀ e s',CX X.stack H s E e s'->X.xe e s') :
  wpAny (model X.prog X.w) X.A (call (.ref f) us) (EP X pins σ Q) X.xe s:=by
 have hl:(us++[]).length=ps.length:=by rw[List.append_nil,<- r.length];exact F.len _ _ _ _ h
 have b:=hb s us I.kIn hl;rw[List.append_nil] at b;refine wpAny_call (codeAny_mono (F.run X.A X.stack s H ⟨us,[]⟩ us vs Q E hr I.ahp b r h) λ r s' hq=>?_);cases r with
 | error e=>exact hx e s' hq
 | ok fl=>cases fl<;>first | exact I.after hq | exact False.elim hq
end L2
namespace D
open L2 XO
abbrev XQ:=Addr->MH->Prop
abbrev XE:=Addr->DS->MH->Prop
abbrev SpX:=List W->MH->QD->XQ->Prop
def mf(K:FG)(sp:SpX):Sp:=λ vs H Q E=>∃ ws M Qd Ed,ba K H ws vs/\cH K H M/\sp ws M Qd Ed/\Kont K H Qd Q/\∀ a H' M',Kp H H'->cH K H' M'->Ed a M'->E (.ref a) none H'
def Lk(X:Cx)(E:XE):Prop:=∀ (pins:PN) (σ:St) (H:Hp) (s:Shared) (a:Addr) (τ:DS) (M:MH),Inv X pins σ H s->Air H s.heap a->Abs X.K H σ τ M->E a τ M->X.xe (.ref a) s
section
variable {P:Program}{w:World}{K:FG}{mg:Str->Option Value}{base:Heap}
theorem agT{N:List Str}{qual:Str}{scope:Scope}{cd:Value}{outer:List Env}{Ed:XQ}(he:∀ a H' M',Kp H H'->cH K H' M'->Ed a M'->E (.ref a) none H') :
  Lk (tm (CXE P w) P w K mg base N qual scope f cd A outer s H E) λ a _ M=>Ed a M:=by
 intro pins σ H1 s1 a τ M I air ab e;show wpAny _ _ (leaving _ _) _ _ _;unfold leaving;refine wpAny_bind (I.aaH I.ok.frames rfl rfl air λ s2 J air2=>?_);exact⟨a,H1,rfl,J.os,J.bare,J.base,J.hok,air2,he a H1 M (Kp.un J.base) ab.mem e⟩
theorem sJ{x qual:Str}{st:Stmt}{N ps:List Str}{k:Nat}{sp:SpX}{t:XE->TSd}(F:Fun K x qual st f fd)(S:aK N ps (ao st))(len:∀ ws M Q E,sp ws M Q E->ws.length=ps.length)
  (hbody:∀ (cdv:Value) (A:Around) (outer:List Env) (s:Shared) (H:Hp) (E:XK) (Ed:XE),fO k (A.deeper (envOfC qual (ao st) s.heap.objs.size f cdv))->Lk (tm (CXE P w) P w K mg base N qual (ao st) f cdv A outer s H E) Ed ->
   PassesOwn (model P w) (A.deeper (envOfC qual (ao st) s.heap.objs.size f cdv)) (envOfC qual (ao st) s.heap.objs.size f cdv) (tm (CXE P w) P w K mg base N qual (ao st) f cdv A outer s H E).xe ->
   lO (tm (CXE P w) P w K mg base N qual (ao st) f cdv A outer s H E) (bj st) (t Ed))
  (read:∀ ws M Q E,sp ws M Q E->t (λ a _ M=>E a M) {nx:=λ _ M'=>Q (.d .none) M',rt:=Q} (aT N ws) M):cQ P w K mg base (CXE P w) (k+1) f fd ps (mf K sp):=by
 obtain⟨oc,od,kV,doc,pm,an,cdv,ct,osl,rfl,lk,hcd⟩:=F.ex;refine af1 lk hcd S (λ vs H Q E h=>?_) λ A outer s H vs Q E hr h=>?_
 ·obtain⟨ws,M,Qd,Ed,r,_,q,_⟩:=h;rw[<- r.length];exact len _ _ _ _ q
 ·obtain⟨ws,M,Qd,Ed,r,m,q,kk,ke⟩:=h;refine⟨_,hbody cdv A outer s H E (λ a _ M=>Ed a M) hr (agT ke) PassesOwn.leaving,aT N ws,M,_,pP r m,read ws M Qd Ed q,λ σ' H' τ' M' kp A' q'=>?_,λ v H' w' M' kp r' m' q'=>?_,λ σ' H' τ' M' kp A' q'=>q'.elim,λ σ' H' τ' M' kp A' q'=>q'.elim⟩
  ·exact kk _ H' _ M' kp (by simp[aG,aC]) A'.mem q'
  ·exact kk v H' w' M' kp r' m' q'
end
theorem zR(L:Lk X E)(I:Inv X pins σ H s)(ab:Abs X.K H σ τ M)(hE:∀ v H',E' v none H'->∃ a M',v=.ref a/\Kp H H'/\cH X.K H' M'/\E a τ M')
  (h:CXE X.prog X.w X.stack H s E' u s'):X.xe u s':=by
 obtain⟨a,H',rfl,os,br,un,hok,air,q⟩:=h;obtain⟨a',M',e,kp,m',q'⟩:=hE _ _ q;cases e;exact L pins σ H' s' a τ M' (I.afx os un hok br (λ b z=>absurd z (by simp))) air (ab.go kp m') q'
def px(sp:SpX)(E:XE)(t:TAd)(τ:DS)(M:MH)(Q:QD):Prop:=t τ M λ ws M1=>sp ws M1 Q λ a M'=>E a τ M'
end D
namespace XO
open PySem.W
section
variable {prog:Program}{w:World}{A:Around}{E:VP}{s:Shared}{K:Frag}{env:PySem.Env}
theorem acC(hh:A.handled=none)
  (h:wpAny (model prog w) A x (λ v s1=>∃ e C dct vs,v=.ref e/\K.In s1.heap/\aap K C=true/\typeIn K (.ref C)=some (.type "type")/\s1.heap.get? e=some (ju C dct vs)/\vs[1]? =some .none/\E (.ref e) s1) E s) :
  wpAny (model prog w) A (raiseStmt env (some x) none) Q E s:=by
 unfold raiseStmt;refine wpAny_bind (wpAny_mono h (λ v s1 z=>?_) λ _ _ z=>z);obtain⟨e,C,dct,vs,rfl,X,c,ty,he,h1,q⟩:=z;obtain⟨hp,g,d,tk,os⟩:=s1;have L:Looks (model prog w) hp (isType (.ref e)) false:=λ A' Q' E' s' k q=>by
  unfold isType loadHead;exact wpAny_bind (wpAny_loadPart (k _ _ he) (wpAny_pure q))
 have T:Looks (model prog w) hp (typeOf (.ref e)) (.ref C):=(Looks.ld he).andThen .now;obtain⟨cd,hc,_,hm⟩:=fm c;have S:Looks (model prog w) hp (isInstance (.ref e) (.type "BaseException")) true:=T.andThen (looks_mroIn X (by
  unfold mroIn;rw[hc,Option.bind_some,if_neg (by rw[jy hm];decide),jA "BaseException" (by decide) hm]))
 have N:Looks (model prog w) hp (isExcClass (.ref e)) false:=L.andThen .now;have Y:=looks_typeIn (M:=model prog w) X ty;have R:Looks (model prog w) hp (raisedInstance (.ref e)) (.ref e):=T.andThen (Y.andThen (by rw[if_pos (by decide)];exact .now));have Z:Looks (model prog w) hp (excFromValue (.ref e) "exceptions must derive from BaseException") (.ref e):=by
  unfold excFromValue;refine N.andThen ?_;rw[if_neg Bool.false_ne_true];refine S.andThen ?_;rw[if_pos rfl];exact .now
 refine wpAny_bind (wpAny_pure (wpAny_bind (wpAny_holding (Z.at ?_))));dsimp only;refine wpAny_bind (L.at ?_);rw[if_neg Bool.false_ne_true];refine wpAny_bind (R.at ?_);unfold setFlight;refine wpAny_bind (wpAny_bind (wpAny_field he rfl h1 ?_));rw[if_neg (by decide)];exact wpAny_pure (wpAny_raiseNew_none hh q)
end
end XO
namespace L2
open XO
def XV(e C:Addr)(dct:Option Addr)(vs:Array Value):Heap->Prop:=λ h=>h.get? e=some (ju C dct vs)
theorem aek(z:h.get? e=some (ju C dct vs)):cF P w H h e (.ext (XV e C dct vs)):=⟨z,⟨_,z⟩,λ h1 h2 e1 k=>k _ e1⟩
theorem Inv.wr2(I:Inv X pins σ H s)(e:H a=some (.ext φ))(hp:s.heap.objs.size<=dx)(kp:∀ b o,b≠a->s.heap.get? b=some o->h'.get? b=some o)
  (o1:cF X.prog X.w (upd (upd H dx u) a (.ext φ')) h' a (.ext φ'))(o2:cF X.prog X.w (upd (upd H dx u) a (.ext φ')) h' dx u):Inv X pins σ (upd (upd H dx u) a (.ext φ')) {s with heap:=h',toks:=t'}:=by
 have hn:H dx=none:=I.hok.fresh hp;have ne:dx≠a:=λ z=>by rw[z,e] at hn;cases hn
 have at_:∀ b,b≠a->b≠dx->(upd (upd H dx u) a (.ext φ')) b=H b:=λ b h1 h2=>by rw[aq h1,aq h2]
 have nd:∀ b v,H b=some v->b≠dx:=λ b v z w=>by rw[w,hn] at z;cases z
 have na:∀ b v,H b=some v->(∀ ψ,v ≠ .ext ψ)->b≠a:=λ b v z q w=>by rw[w,e] at z;cases z;exact q _ rfl
 refine I.un ⟨λ b o z n _ _=>kp b o (λ w=>by rw[w,e] at n;cases n) z,λ b o z n _ _=>⟨o.slots,kp b o (λ w=>by rw[w,e] at n;cases n) z⟩,λ b o z n _=>?_,λ b o z _=>?_,λ b xs z=>?_,λ b o v z=>?_,λ b ps z=>⟨#[],?_⟩⟩ (λ b o z=>?_)
 ·rw[at_ b (λ w=>by rw[w,e] at n;cases n) (Nat.ne_of_lt (Nat.lt_of_lt_of_le (Heap.lt_size z) hp))];exact n
 ·by_cases hb:b=a
  ·subst hb;exact o1.2.1
  ·exact⟨o,kp b o hb z⟩
 ·rw[at_ b (na b _ z λ _ w=>nomatch w) (nd b _ z)];exact z
 ·rw[at_ b (na b _ z λ _ w=>nomatch w) (nd b _ z)];exact z
 ·rw[at_ b (na b _ z λ _ w=>nomatch w) (nd b _ z),z];simp
 ·by_cases hb:b=a
  ·subst hb;rw[ar] at z;cases z;exact o1
  ·rw[aq hb] at z
   by_cases hb2:b=dx
   ·subst hb2;rw[ar] at z;cases z;exact o2
   ·rw[aq hb2] at z;refine(I.hok b o z).sx (λ c v hc q=>kp c v ?_ q) (λ c q=>?_) λ c xs q=>?_
    ·rcases hc with w | w
     ·rw[w];exact hb
     ·exact na c _ w λ _ y=>nomatch y
    ·rw[at_ c (na c _ q λ _ w=>nomatch w) (nd c _ q)];exact q
    ·rw[at_ c (na c _ q λ _ w=>nomatch w) (nd c _ q)];exact q
def sX0(C:Addr)(ta tv:TE)(f:Str):TS:=λ D σ H=>tv σ H λ y H1=>ta σ H1 λ x H2=>∃ a vs,x=.ref a/\H2 a=some (.ext (XV a C none vs))/\∀ dx,H2 dx=none->dx≠a->D.nx σ (upd (upd H2 dx (.ext (DX dx [(f,y)]))) a (.ext (XV a C (some dx) vs)))
theorem aiR(c:XC X.K C)(n:qD X.K C f)(ha:PE X o ta)(hv:PE X value tv)(hs:swapsWith value (some (.Attribute o f pos')) pos.line X.env=pure false:=by rfl):PS X (.Assign [.Attribute o f pos'] value pos) (sX0 C ta tv f):=by
 intro pins s σ H D I h;refine plainObj_wpAny_Assign_Attribute (thn (hv pins s σ H _ I h) λ u s1 ⟨y,H1,I1,ry,q⟩=>thn (ha pins s1 σ H1 _ I1 q) λ ov s2 ⟨x,H2,I2,rx,a,vs,ex,ea,q2⟩=>?_) hs;subst ex;obtain rfl:ov=Value.ref a:=rx;have hx:s2.heap.get? a=some (ju C _ vs):=(I2.hok a _ ea).1;refine ahI I2.kIn c.x c.sa n hx λ h' tk dx g1 g2 g3 g4 g5=>?_;refine⟨σ,_,I2.wr2 ea g1 g5 (aek g3) (aiI ⟨_,g4,λ g=>?_,λ g hg=>?_⟩),q2 dx (I2.hok.fresh g1) g2⟩
 ·by_cases e:g=f
  ·subst e;simp only[List.lookup,beq_self_eq_true,if_true];exact ry
  ·simp only[List.lookup,beq_eq_false_iff_ne.mpr e,if_neg e];exact True.intro
 ·by_cases e:g=f
  ·rw[e];simp
  ·exact absurd (by show(if g=f then some u else none)=none;rw[if_neg e]) hg
def yn(C:Addr)(fs:List Str):Sp:=λ vs H Q _=>∃ e ys us,vs=.ref e::ys/\ys.length=fs.length/\H e=some (.ext (XV e C none us))/\∀ dx,H dx=none->dx≠e->Q .non (upd (upd H dx (.ext (DX dx (fs.zip ys)))) e (.ext (XV e C (some dx) us)))
section
variable {P:Program}{w:World}{K:FG}{mg:Str->Option Value}{base:Heap}{C f:Addr}{fd:FuncData}{qual:Str}{st:Stmt}
end
end L2
namespace D
open L2 XO
theorem oJ{K:FG}{H:Hp}:∀ (fs:List Str) {ws:List W} {vs:List V},ba K H ws vs->Paired (λ(p:Str×W) (q:Str×V)=>p.1=q.1/\aG K H p.2 q.2) (fs.zip ws) (fs.zip vs)
 | [],_,_,_=>.nil
 | _::_,_,_,.nil=>.nil
 | f::fs,_,_,.cons r t=>.cons ⟨rfl,r⟩ (oJ fs t)
def zH(C:Addr)(fs:List Str)(E:XE)(t:TAd)(_:Ed)(τ:DS)(M:MH):Prop:=t τ M λ ws M1=>ws.length=fs.length/\ws.length<=1000/\∀ a,M1 a=none->E a τ (cn M1 a (.exc C (fs.zip ws)))
structure Xm(K:FG)(C f:Addr):Prop where
 xc:XC K C
 xm:xmk K C=true
 ty:W.typeIn K (.ref C)=some (.type "type")
 hi:W.findIn K (.ref C) "__init__" = some (some (.ref f))
 hf:W.typeIn K (.ref f)=some (.type "function")
 kp:W.keepIn K (.ref C)=true
end D
namespace L2
open XO
def rz(H₀ H:Hp):Hp:=λ b=>match H b with
 | some (.tup xs)=>some (.tup xs)
 | some (.frz o u)=>some (.frz o u)
 | _=>H₀ b
theorem yB(h:H b=some (.tup xs)):rz H₀ H b=some (.tup xs):=by unfold rz;rw[h]
theorem zz(h:H b=some (.frz o u)):rz H₀ H b=some (.frz o u):=by unfold rz;rw[h]
theorem zF(h:rz H₀ H b=some v):H₀ b=some v\/H b=some v:=by
 unfold rz at h
 split at h
 ·rename_i e;rw[e];exact .inr h
 ·rename_i e;rw[e];exact .inr h
 ·exact .inl h
theorem nE(h:rz H₀ H b=none):H₀ b=none:=by
 unfold rz at h
 split at h
 ·cases h
 ·cases h
 ·exact h
theorem om(h:H₀ b=none)(h2:H b=none):rz H₀ H b=none:=by
 unfold rz;rw[h2];exact h
abbrev Cx.mr(X:Cx)(H0:Hp)(pn:PN)(xe:VP):Cx:={X with H₀:=H0,pn:=pn,xe:=xe}
abbrev Cx.gL(X:Cx)(a:Addr):Cx:={X with A:=X.A.mark (some (.ref a)),calm:=false,xe:=λ _ _=>False}
theorem Inv.afM(I:Inv X pins σ H s):∀ b∈X.fs,H b=none:=λ b hb=>by obtain⟨_,o,ho,_⟩:=I.ok.oF.mem hb;exact I.base.free b o ho (I.ok.frf b hb) λ z=>I.ok.exfs b z hb
theorem Inv.ahF(I:Inv X pins σ H s):Inv (X.mr (rz X.H₀ H) (X.pn++pins) xe) [] σ H s:=by
 refine⟨⟨I.ok.mod,I.ok.kind,I.ok.glob,I.ok.blt,I.ok.above,I.ok.inj,I.ok.has,I.ok.cab,I.ok.hd,I.ok.frames,I.ok.stk,I.ok.exf,λ b o e=>⟨(I.ok.bs b o e).1,om (I.ok.bs b o e).2 (I.bs b o e).2⟩,I.ok.bsz,I.ok.noex,I.ok.exfs,I.ok.oF,λ b hb=>om (I.ok.frf b hb) (I.afM b hb)⟩,
  I.os,I.bare,⟨λ b o e n hb hx=>I.base.keep b o e (nE n) hb hx,λ b o e n hb hx=>I.base.slot b o e (nE n) hb hx,λ b o e n hx=>I.base.free b o e (nE n) hx,I.base.there,λ b xs e=>?_,λ b o u e=>?_,λ b ps e=>?_⟩,
  I.loc,I.cell,I.free,I.freeC,λ p hp=>I.pin p (by simpa using hp),I.hok,I.len⟩
 ·rcases zF e with z | z
  ·exact I.base.tups b xs z
  ·exact z
 ·rcases zF e with z | z
  ·exact I.base.frzs b o u z
  ·exact z
 ·rcases zF e with z | z
  ·exact I.base.tbls b ps z
  ·exact⟨#[],by rw[z];simp⟩
theorem Inv.w6(I:Inv X pins σ H s)(J:Inv (X.mr (rz X.H₀ H) (X.pn++pins) xe) pins' σ' H' s'):Inv X pins σ' H' s':=by
 have nn:∀ b o,X.s₀.heap.get? b=some o->X.H₀ b=none->b ∉ X.ex->rz X.H₀ H b=none:=λ b o e n hx=>om n (I.base.free b o e n hx);exact⟨I.ok,J.os,J.bare,⟨λ b o e n hb hx=>J.base.keep b o e (nn b o e n hx) hb hx,λ b o e n hb hx=>J.base.slot b o e (nn b o e n hx) hb hx,λ b o e n hx=>J.base.free b o e (nn b o e n hx) hx,J.base.there,λ b xs e=>J.base.tups b xs (yB (I.base.tups b xs e)),λ b o u e=>J.base.frzs b o u (zz (I.base.frzs b o u e)),λ b ps e=>by obtain⟨m1,e1⟩:=I.base.tbls b ps e;refine J.base.tbls b ps ?_;show rz X.H₀ H b=_;unfold rz;rw[e1];exact e⟩,J.loc,J.cell,J.free,J.freeC,λ p hp=>J.pin p (List.mem_append_left _ hp),J.hok,J.len⟩
theorem Inv.gL(I:Inv X pins σ H s)(a:Addr):Inv (X.gL a) pins σ H s:=
 ⟨⟨I.ok.mod,I.ok.kind,I.ok.glob,I.ok.blt,I.ok.above,I.ok.inj,I.ok.has,I.ok.cab,(λ z=>nomatch z),I.ok.frames,I.ok.stk,I.ok.exf,I.ok.bs,I.ok.bsz,I.ok.noex,I.ok.exfs,I.ok.oF,I.ok.frf⟩,I.os,I.bare,I.base,I.loc,I.cell,I.free,I.freeC,I.pin,I.hok,I.len⟩
theorem Inv.uncaught(ok:X.Ok)(I:Inv (X.gL a) pins σ H s):Inv X pins σ H s:=⟨ok,I.os,I.bare,I.base,I.loc,I.cell,I.free,I.freeC,I.pin,I.hok,I.len⟩
theorem Inv.gone(I:Inv X pins σ H s)(hn:h'.Ns X.env.locals m')(sb:Heap.SameBut X.env.locals s.heap h'):Inv X pins (List.replicate σ.length none) H {s with heap:=h',toks:=t'}:=by
 have ne:∀ b o,X.s₀.heap.get? b=some o->b≠X.env.locals:=λ b o e=>Nat.ne_of_lt (Nat.lt_of_lt_of_le (Heap.lt_size e) I.ok.above);refine⟨I.ok,I.os,I.bare,⟨λ b o e n hb hx=>(sb.2 b (ne b o e)).trans (I.base.keep b o e n hb hx),λ b o e n hb hx=>?_,I.base.free,λ b o e hx=>?_,I.base.tups,I.base.frzs,I.base.tbls⟩,⟨m',hn,λ i x v e1 e2 e3=>?_⟩,λ x c e=>?_,I.free,I.freeC,λ p hp=>?_,λ b o e=>?_,by rw[List.length_replicate];exact I.len⟩
 ·obtain⟨sl,z⟩:=I.base.slot b o e n hb hx;exact⟨sl,(sb.2 b (ne b o e)).trans z⟩
 ·obtain⟨o',z⟩:=I.base.there b o e hx;exact⟨o',(sb.2 b (ne b o e)).trans z⟩
 ·rw[List.getElem?_replicate] at e2
  split at e2<;>cases e2
 ·obtain⟨v,z⟩:=I.cell x c e;exact⟨v,z.sameBut sb (I.cne x c e)⟩
 ·obtain⟨z,n,nl,nf,d⟩:=I.pin p hp;exact⟨(sb.2 p.1 nl).trans z,n,nl,nf,d⟩
 ·refine(I.hok b o e).sx (λ c u hc q=>(sb.2 c λ z=>?_).trans q) (λ _ q=>q) λ _ _ q=>q;rcases hc with y | y
  ·rw[z] at y;rw[<- y,I.free] at e;cases e
  ·rw[z,I.free] at y;cases y
theorem Air.acy(air:Air H s.heap a)(q:Q () s):wpAny M A (setFlight (.ref a) none) Q E s:=by
 obtain⟨C,dct,vs,cc,e1,e2,tb,_⟩:=air;unfold setFlight;rcases tb with z | ⟨T,oT,ts,z1,z2,z3,z4,z5⟩
 ·refine wpAny_bind (wpAny_field e2 rfl z ?_);rw[if_neg (by decide)];exact wpAny_pure q
 ·refine wpAny_bind (wpAny_field e2 rfl z1 ?_);rw[if_pos (show(Value.ref T != Value.none)=true from by simp)];refine wpAny_setField z3 z4 (Array.getElem?_eq_some_iff.mp z5).1 ?_;rw[show((none:Option Addr).elim Value.none λ f=>rawInt f)=Value.none from rfl,Heap.update_setField_same s.heap T oT ts 3 .none z3 z4 z5];exact q
end L2
namespace D
open L2 XO
theorem Abs.forget{K:FG}{H:Hp}{σ:St}{τ:DS}{M:MH}(h:Abs K H σ τ M):Abs K H (List.replicate σ.length none) (List.replicate τ.length none) M:=by
 refine⟨by simp[h.len],λ i w e=>?_,h.mem⟩;rw[List.getElem?_replicate] at e
 split at e<;>cases e
section
variable {X:Cx}{pos np hpos:Pos}{body suite:List Stmt}{b0:Stmt}{hs:List ExceptHandler}{h0:ExceptHandler}{tb:XE->TSd}{th rest:Addr->TSd}{ts:TSd}
def PHd(X:Cx)(hs:List ExceptHandler)(th:Addr->TSd):Prop:=∀ (pins:PN) (σ:St) (H:Hp) (s:Shared) (a:Addr) (D:Ends),Inv X pins σ H s->Air H s.heap a->upS X.K (th a) D σ H->wpAny (model X.prog X.w) X.A (handleBy (.ref a) X.env hs) (SP X pins D) X.xe s
def ahy(tb:XE->TSd)(th:Addr->TSd)(D:Ed)(τ:DS)(M:MH):Prop:=tb (λ a τ' M'=>th a D τ' M') D τ M
theorem aeB(hst:X.stack=X.env::X.outer)(hf:X.env.frame=some X.env.locals)
  (hb:∀ (H0:Hp) (pn:PN) (xe:VP) (E:XE),Lk (X.mr H0 pn xe) E->PassesOwn (model X.prog X.w) X.A X.env xe->lO (X.mr H0 pn xe) body (tb E))(hh:PHd X (h0::hs) th):PSd X (.Try body (h0::hs) [] [] pos) (ahy tb th):=by
 intro pins s σ H D I h;obtain⟨τ,M,Dd,A,h,k1,k2,k3,k4⟩:=h;refine wpAny_Try_except ?_;refine wpAny_mono (hb (rz X.H₀ H) (X.pn++pins) (λ e s1=>wpAny (model X.prog X.w) X.A (noteFrame e X.env) (λ _ s2=>wpAny (model X.prog X.w) X.A (setFlight e none) (λ _ s3=>wpAny (model X.prog X.w) X.A (handleBy e X.env (h0::hs)) (SP X pins D) X.xe s3) X.xe s2) X.xe s1)
  (λ a τ' M'=>th a Dd τ' M') (λ pins' σ' H' s' a τ' M' J air ab e=>?_) PassesOwn.looking [] s σ H D I.ahF ⟨τ,M,Dd,A,h,k1,k2,k3,k4⟩) (λ f s1 q=>?_) λ _ _ z=>z
 ·have J2:=I.w6 J;have kp:Kp H H':=⟨λ b xs z=>J.base.tups b xs (yB z),λ b o u z=>J.base.frzs b o u (zz z)⟩;refine J2.aaH J2.ok.frames hst hf air λ s3 J3 air3=>hh pins σ' H' s3 a D J3 air3 ⟨τ',M',Dd,ab,e,λ σ2 H2 τ2 M2 k=>k1 σ2 H2 τ2 M2 (kp.trans k),λ v H2 w M2 k=>k2 v H2 w M2 (kp.trans k),λ σ2 H2 τ2 M2 k=>k3 σ2 H2 τ2 M2 (kp.trans k),λ σ2 H2 τ2 M2 k=>k4 σ2 H2 τ2 M2 (kp.trans k)⟩
 ·cases f with
  | next=>obtain⟨σ',H',J,q⟩:=q;exact wpAny_execs_nil ⟨σ',H',I.w6 J,q⟩
  | brk=>obtain⟨σ',H',J,q⟩:=q;exact⟨σ',H',I.w6 J,q⟩
  | cont=>obtain⟨σ',H',J,q⟩:=q;exact⟨σ',H',I.w6 J,q⟩
  | ret u=>obtain⟨v,σ',H',J,r,q⟩:=q;exact⟨v,σ',H',I.w6 J,r,q⟩
def acK(tab:Addr->Option Bool)(i:Nat)(ts:TSd)(rest:Addr->TSd)(a:Addr)(D:Ed)(τ:DS)(M:MH):Prop:=∃ C fs b,M a=some (.exc C fs)/\tab C=some b /\
 if b=true then ts {nx:=λ τ2 M2=>D.nx (List.replicate τ2.length none) M2,rt:=D.rt,bk:=λ τ2 M2=>D.bk (List.replicate τ2.length none) M2,ct:=λ τ2 M2=>D.ct (List.replicate τ2.length none) M2} (τ.set i (some (.m a))) M else rest a D τ M
theorem Air.cls{K:FG}{H:Hp}{h:Heap}{a C:Addr}{M:MH}{fs:List (Str×W)}(air:Air H h a)(m:cH K H M)(e:M a=some (.exc C fs)):∃ dct vs,h.get? a=some (ju C dct vs):=by obtain⟨C',dct,vs,cc,e1,e2,_,cd⟩:=air;obtain⟨φ,dct',g1,g2,_⟩:=m a _ e;rw[e1] at g1;cases g1;obtain⟨vs',e3,_⟩:=g2 h ⟨vs,e2,cd⟩;exact⟨_,vs',e3⟩
theorem xH(I:Inv X pins σ H s)(hg:Gl X x)(hm:X.mg x=some (.ref D))(he:s.heap.get? a=some (ju C dct vs))
  (ht:W.exmOne X.K (.ref C) (.ref D)=some b)(hdb:ND x)(q:R (.ok (if b then .brk else .next)) s) :
  codeAny (model X.prog X.w) (X.A.mark (some (.ref a))) (.handlers (.ref a) [.ExceptHandler (some (.Name x np)) none [] hpos] X.env) R s:=by
 refine codeAny_handlers_test (gi (X:=X.gL a) (I.gL a) hg hm ?_ hdb);exact(W.exm_one (M:=model X.prog X.w) I.kIn ((W.Looks.ld he).andThen .now) ht).here q
theorem aih(hg:Gl X x)(hm:X.mg x=some (.ref Dc))(ht:∀ C b,tab C=some b->W.exmOne X.K (.ref C) (.ref Dc)=some b)(hN:X.N.Nodup)(hi:X.N[i]? =some n)(hl:X.env.scope.names.lookup n=some .local)(hk:X.env.scope.kind=.function)
  (hsu:∀ a,lO (X.gL a) (b0::suite) ts)(hr:PHd X hs rest)(hdb:ND x:=by decide):PHd X (.ExceptHandler (some (.Name x np)) (some n) (b0::suite) hpos::hs) (acK tab i ts rest):=by
 intro pins σ H s a Dn I air h;obtain⟨τ,M,Dd,A,⟨C,fs,b,hma,htb,h⟩,k1,k2,k3,k4⟩:=h;obtain⟨dct,vs,he⟩:=Air.cls air A.mem hma;refine wpAny_handleBy_cons (xH I hg hm he (ht C b htb) hdb ?_) (by intro q;cases q);cases b with
 | false=>exact hr pins σ H s a Dn I air ⟨τ,M,Dd,A,h,k1,k2,k3,k4⟩
 | true =>
  rw[if_pos rfl] at h;refine codeAny_handlers_suite_as (air.acy ?_);refine nD (X:=X.gL a) (i:=i) (v:=.ref a) (I.gL a) hN hi (.inl hl) rfl (λ s2 J=>?_) (.inr hl);have gone:∀ {σ3:St} {H3:Hp} {s3:Shared} {Q:Unit->Shared->Prop},Inv (X.gL a) pins σ3 H3 s3->(∀ s4,Inv X pins (List.replicate σ3.length none) H3 s4->Q () s4)->wpAny (model X.prog X.w) X.A (do bindName X.env n .none;unbindBehindTheSuite X.env n hpos) Q X.xe s3:=λ {σ3 H3 s3 Q} J3 q=>by obtain⟨m,hn,_⟩:=J3.loc;refine wpAny_nameGoes hl hn (by rw[hk];rfl) λ h' m' hn' sb=>q _ ((J3.uncaught I.ok).gone hn' sb)
  have ab2:=A.set i (v:=.ref a) (w:=.m a) rfl;refine wpAny_mono (hsu a pins s2 _ H {nx:=λ σ2 H2=>Dn.nx (List.replicate σ2.length none) H2,rt:=Dn.rt,bk:=λ σ2 H2=>Dn.bk (List.replicate σ2.length none) H2,ct:=λ σ2 H2=>Dn.ct (List.replicate σ2.length none) H2} J ⟨_,M,_,ab2,h,λ σ2 H2 τ2 M2 kp A2 q=>?_,λ v H2 w M2 kp r m q=>k2 v H2 w M2 kp r m q,λ σ2 H2 τ2 M2 kp A2 q=>?_,λ σ2 H2 τ2 M2 kp A2 q=>?_⟩) (λ f s3 q=>?_) λ _ _ z=>z.elim
  ·exact k1 _ H2 _ M2 kp A2.forget q
  ·exact k3 _ H2 _ M2 kp A2.forget q
  ·exact k4 _ H2 _ M2 kp A2.forget q
  ·cases f with
   | next=>obtain⟨σ3,H3,J3,q⟩:=q;exact gone J3 λ s4 J4=>⟨_,H3,J4,q⟩
   | brk=>obtain⟨σ3,H3,J3,q⟩:=q;exact gone J3 λ s4 J4=>⟨_,H3,J4,q⟩
   | cont=>obtain⟨σ3,H3,J3,q⟩:=q;exact gone J3 λ s4 J4=>⟨_,H3,J4,q⟩
   | ret u=>obtain⟨v,σ3,H3,J3,r,q⟩:=q;exact gone J3 λ s4 J4=>⟨v,_,H3,J4,r,q⟩
end
theorem acp(I:Inv X pins σ H s)(m:cH X.K H M)(e:M a=some (.exc C fs)) :
  (∃ ox od,W.InstAt s.heap a ox C od)/\(∀ w,fs.lookup f=some w->∃ v u ox od,aG X.K H w v/\RelV v u/\W.InstAt s.heap a ox C (some od)/\W.lookIn f od=some (some u)):=by
 obtain⟨φ,dct,e1,e2,e3⟩:=m a _ e;obtain⟨vs,hx,_⟩:=e2 s.heap (I.hok a _ e1).1;rcases e3 with ⟨rfl,rfl⟩ | ⟨dx,o,l,rfl,e4,pr⟩
 ·exact⟨⟨_,none,hx,rfl,rfl,True.intro⟩,λ w z=>nomatch z⟩
 ·obtain⟨ho,mA,n1,r1⟩:=I.hok dx _ e4;refine⟨⟨_,some o,hx,rfl,rfl,ho⟩,λ w z=>?_⟩;have g:=pO f pr;rw[z] at g;obtain⟨v,eb,rb⟩:=OR.some_of g;obtain⟨u,hu,ru⟩:=uL.some_of (v:=v) (o:=mA f) (by rw[<- eb];exact r1 f);obtain⟨od,g1,g2⟩:=xP n1;exact⟨v,u,_,od,rb,ru,⟨hx,rfl,rfl,g1⟩,by rw[g2,hu]⟩
def aeZ(cs:List Addr)(td:TD)(f:Str)(τ:DS)(M:MH)(Q:QD):Prop:=td τ M λ w M1=>∃ a C fs v,w=.m a/\M1 a=some (.exc C fs)/\C∈cs/\fs.lookup f=some v/\Q v M1
theorem adE(hc:∀ C∈cs,XC X.K C/\qD X.K C f)(he:PD X o td)(hb:attributeBase o f X.env (eval o X.env)=eval o X.env:=by rfl):PD X (.Attribute o f pos) (aeZ cs td f):=by
 intro pins s σ H Q I h;obtain⟨τ,M,Qd,A,h,k⟩:=h;refine adx hb (thn (he pins s σ H (λ x H1=>∃ w M1,Kp H H1/\aG X.K H1 w x/\cH X.K H1 M1/\∃ a C fs v,w=.m a/\M1 a=some (.exc C fs)/\C∈cs/\fs.lookup f=some v/\Qd v M1) I ⟨τ,M,_,A,h,λ v H1 w M1 kp r m q=>⟨w,M1,kp,r,m,q⟩⟩)
  λ u s1 ⟨x,H1,I1,rx,w,M1,kp,r1,m1,a,C,fs,v,ew,hma,hC,hl,q⟩=>?_)
 subst ew;cases (show x=.ref a from r1);obtain rfl:u=Value.ref a:=rx;obtain⟨v',u',ox,od,rv,ru,J,lo⟩:=(acp (f:=f) I1 m1 hma).2 v hl;obtain⟨xc,na⟩:=hc C hC;obtain⟨cd,hcd,hd,_⟩:=fm xc.x;refine aj1 I1.kIn xc J (W.findObj_own (by unfold W.hasDictIn;rw[hcd];exact hd) na rfl lo) (zx ru) ?_;exact⟨v',H1,I1.tok _,ru,k v' H1 v M1 kp rv m1 q⟩
def ae8:V->Value
 | .ref a=>.ref a
 | .ty n=>.type n
 | _=>.none
def zq:V->Bool
 | .ref _=>true
 | .ty _=>true
 | _=>false
theorem xU:∀ {v:V} {u:Value},zq v=true->RelV v u->u=ae8 v
 | .ref _,_,_,r=>r
 | .ty _,_,_,r=>r
 | .non,_,h,_=>nomatch h
 | .bl _,_,h,_=>nomatch h
 | .int _,_,h,_=>nomatch h
 | .str _,_,h,_=>nomatch h
 | .byt _,_,h,_=>nomatch h
 | .flt _,_,h,_=>nomatch h
theorem uq:∀ {cs:List V} {us:List Value},(∀ c∈cs,zq c=true)->Vals cs us->us=cs.map ae8
 | _,_,_,.nil=>rfl
 | _,_,h,.cons r t=>by rw[xU (h _ (by simp)) r,uq (λ c hc=>h c (by simp[hc])) t];rfl
def IsC(H:Hp)(v:V)(cs:List V):Prop:=cs=[v]\/∃ t,v=.ref t/\H t=some (.tup cs)
def ajM(K:FG)(xs:List V)(H:Hp)(Q:VK):Prop:=∃ a C c cs b M fs,xs=[.ref a,c]/\cH K H M/\M a=some (.exc C fs)/\IsC H c cs/\(∀ c∈cs,zq c=true)/\XC K C/\W.kitAny K (.ref C) (cs.map ae8)=some b/\Q (.bl b) H
theorem abK:eU X (.builtin "isinstance") (ajM X.K):=by
 intro pins s σ H xs us Q I r h;obtain⟨a,C,c,cs,b,M,fs,rfl,m,e,hc,hcs,xc,kb,q⟩:=h;obtain⟨u,w,rfl,r1,r2⟩:=vals2 r;cases (show u=Value.ref a from r1);obtain⟨⟨ox,od,J⟩,_⟩:=acp (f:= "") I m e;have fin:∀ tk,EP X pins σ Q (.bool b) {s with toks:=tk}:=λ tk=>⟨.bl _,H,I.tok _,rfl,q⟩;rcases hc with rfl | ⟨t,rfl,ht⟩
 ·have e1:=xU (hcs c (by simp)) r2;subst e1;have e2:W.kitOne X.K (.ref C) (ae8 c)=some b:=by
   simp only[List.map_cons,List.map_nil,W.kitAny] at kb
   split at kb
   ·rename_i z;rw[z,kb]
   ·rename_i z;rw[z,kb]
   ·cases kb
  exact W.kia_one (ab7 xc) I.kIn J e2 (λ z=>nomatch z) fin
 ·cases (show w=Value.ref t from r2);obtain⟨_,its,rv,⟨o,g1,g2,_,n,g3⟩⟩:=I.hok t _ ht;have e1:=uq hcs rv;subst e1;obtain⟨c1,c2,c3,c4⟩:=o;cases g2;cases g3;exact W.kia_tup (ab7 xc) I.kIn J g1 kb (λ z=>nomatch z) fin
def ae1(tab:Addr->Option Bool)(td:TD)(τ:DS)(M:MH)(Q:QD):Prop:=td τ M λ w M1=>∃ a C fs b,w=.m a/\M1 a=some (.exc C fs)/\tab C=some b/\Q (.d (.bool b)) M1
def CTm(cs:List V)(tc:TE):Prop:=∀ σ H (Q:VK),(∀ v H',(∀ b u,H b=some u->H' b=some u)->IsC H' v cs->Q v H')->tc σ H Q
theorem ze(v:V):CTm [v] (tC v):=λ σ H Q h=>h v H (λ _ _ z=>z) (.inl rfl)
theorem aet(h:∀ σ H (Q:List V->Hp->Prop),Q cs H->t σ H Q)(hz:cs.length<=1000):CTm cs (ajs t):=λ σ H Q k=>h σ H _ ⟨by have:=s16;omega,λ p hp=>k (.ref p) _ (λ b u z=>by rw[aq (a6 z hp)];exact z) (.inr ⟨p,rfl,ar⟩)⟩
theorem zy(ht:∀ C b,tab C=some b->XC X.K C/\W.kitAny X.K (.ref C) (cs.map ae8)=some b)(hcs:(cs.all zq)=true)(hg:Gl X "isinstance")(hm:X.mg "isinstance" = none)(ho:PD X o td)(hc:PE X ce tc)(ct:CTm cs tc)
  (h1:dZ o=false:=by rfl)(h2:dZ ce=false:=by rfl):PD X (.Call (.Name "isinstance" p) [o,ce] [] pos) (ae1 tab td):=by
 refine fx (uQ abK hg hm aL (oA ho (oA hc zP (bH ce [] X.env h2)) (bH o [ce] X.env h1)) (by decide) (by decide) (bH o [ce] X.env h1) (cL pos X.env [ce] (by simp[h2]))) λ σ H Q h=>?_;obtain⟨τ,M,Qd,A,h,k⟩:=h;refine⟨τ,M,_,A,h,λ v H1 w M1 kp r m hq82=>?_⟩;obtain⟨a,C,fs,b,ew,hma,htb,q⟩:=hq82;subst ew;cases (show v=.ref a from r);refine ct σ H1 _ λ c H2 st ic=>?_;obtain⟨xc,kb⟩:=ht C b htb;have kp2:Kp H1 H2:=⟨λ b xs z=>st b _ z,λ b o u z=>st b _ z⟩;have m2:cH X.K H2 M1:=λ b mo z=>(m b mo z).keep kp2 λ u y=>st b u y;exact⟨a,C,c,cs,b,M1,fs,rfl,m2,hma,ic,λ c hc=>List.all_eq_true.mp hcs c hc,xc,kb,k (.bl b) H2 (.d (.bool b)) M1 (kp.trans kp2) rfl m2 q⟩
theorem og:bootBuiltins "ValueError" = some (.type "ValueError"):=by decide +kernel
structure Xi(K:FG)(C:Addr)(qual:Str)(st:Stmt)(ps:List Str)(f:Addr)(fd:FuncData):Prop where
 fn:Fun K "__init__" qual st f fd
 xm:Xm K C f
 bd:L2.Binds K fd ps []
theorem ah9{K:FG}{C:Addr}{qual:Str}{st:Stmt}{ps:List Str}{f:Addr}{oc:Value}{od an:Option Addr}{osl:Array (Option Value)}{kV doc pm cdv ct:Value}(xc:XC K C)(a:W.findIn K (.ref C) "__init__" = some (some (.ref f)))(i:W.typeIn K (.ref f)=some (.type "function"))
  (l:K.lookup f=some ⟨oc,od,.func (W.fnOf "__init__" qual (bS st) (bj st) (ao st) .none kV doc pm an cdv ct),osl⟩)(c:W.codeIn K cdv qual=true)(k:W.keepIn K (.ref f)=true)(m:xmk K C=true)(ty:W.typeIn K (.ref C)=some (.type "type"))(kc:W.keepIn K (.ref C)=true)
  (b:∀ (kV doc pm:Value) (an:Option Addr) (cdv ct:Value) (us:List Value),us.length=ps.length->bindArgs (W.fnOf "__init__" qual (bS st) (bj st) (ao st) .none kV doc pm an cdv ct) ⟨us,[]⟩=pure (ps.zip us)) :
  Xi K C qual st ps f (W.fnOf "__init__" qual (bS st) (bj st) (ao st) .none kV doc pm an cdv ct):=
 have F:=acD (st:=st) l c k
 ⟨F,⟨xc,m,ty,a,i,kc⟩,F.binds b⟩
def wj(l:List (Addr×Bool))(C:Addr):Option Bool:=l.lookup C
inductive m8(P:Addr->Bool->Prop):List (Addr×Bool)->Prop
 | nil:m8 P []
 | cons {a:Addr} {b:Bool} {l:List (Addr×Bool)}:P a b->m8 P l->m8 P ((a,b)::l)
theorem m8.of(h:m8 P l):∀ C b,wj l C=some b->P C b:=by
 induction h with
 | nil=>intro C b z;cases z
 | @cons a b l p _ ih =>
  intro C b' z;unfold wj at z ih;rw[List.lookup_cons] at z
  split at z
  ·rename_i e
   cases z;rw[beq_iff_eq.mp e];exact p
  ·exact ih C b' z
inductive acw(P:Addr->Prop):List Addr->Prop
 | nil:acw P []
 | cons {a:Addr} {l:List Addr}:P a->acw P l->acw P (a::l)
theorem acw.of(h:acw P l):∀ C∈l,P C:=by
 induction h with
 | nil=>intro C z;cases z
 | cons p _ ih =>
  intro C z;rcases List.mem_cons.mp z with e | e
  ·rw[e];exact p
  ·exact ih C e
def PCs(X:Cx)(es:List Expr)(cs:List V):Prop:=(∃ t,PA X es t/\∀ σ H (Q:List V->Hp->Prop),Q cs H->t σ H Q)/\(cs.all zq)=true
theorem adL:PCs X [] []:=⟨⟨_,zP,λ σ H Q q=>q⟩,rfl⟩
theorem uD(hg:Gl X x)(hm:X.mg x=some (.ref C))(r:PCs X es cs)(hd:ND x:=by decide):PCs X (.Name x p::es) (.ref C::cs):=by obtain⟨⟨t,h1,h2⟩,h3⟩:=r;exact⟨⟨_,oA (fI (v:=.ref C) hg hm rfl hd) h1,λ σ H Q q=>h2 σ H _ q⟩,by rw[List.all_cons,h3];rfl⟩
theorem tW:Lk X (λ _ _ _=>False):=λ _ _ _ _ _ _ _ _ _ _ h=>h.elim
section
variable {X:Cx}{pos p p' apos cpos np hpos:Pos}{k:Nat}{f C:Addr}{fd:FuncData}{ps fs:List Str}{sp:SpX}{x m n:Str}{e o:Expr}{es:List Expr}{t:TAd}{td:TD}{E:XE}
theorem ahx(L:Lk X E)(F:cQ X.prog X.w X.K X.mg X.base (CXE X.prog X.w) k f fd ps (mf X.K sp))(hr:fO k X.A)(hg:Gl X x)(hm:X.mg x=some (.ref f))(hk:W.keepIn X.K (.ref f)=true)(hb:L2.Binds X.K fd ps [])
  (ha:Jd (PAd X (e::es) t))(hdb:ND x:=by decide)(h1:dZ e=false:=by rfl)(h2:(es.all λ e=>!dZ e)=true:=by rfl) :
  Jd (PD X (.Call (.Name x p) (e::es) [] pos) (px sp E t)):=⟨have ha:=ha.h;by
 intro pins s σ H Q I h;obtain⟨τ,M,Qd,A,h,k⟩:=h;refine wpAny_Call_Name_kw (gi I hg hm ?_ hdb);refine W.callWith_K (h₀:=X.base) I.ok.mod.kin hk (thn (ha pos pins s σ H (λ vs H1=>∃ ws M1,Kp H H1/\ba X.K H1 ws vs/\cH X.K H1 M1/\sp ws M1 Qd λ a M'=>E a τ M') I ⟨τ,M,_,A,h,λ vs H1 ws M1 kp r m q=>⟨ws,M1,kp,r,m,q⟩⟩) λ us s1 ⟨vs,H1,I1,r,ws,M1,kp,rw,m1,q⟩=>⟨I1.kIn,?_⟩) (bH e es X.env h1) (cL pos X.env es h2);refine yW (E:=λ v _ H'=>∃ a M',v=.ref a/\Kp H1 H'/\cH X.K H' M'/\E a τ M') F hr hb I1 r ⟨ws,M1,Qd,_,rw,m1,q,kgo k kp,λ a H' M' kp' m' e'=>⟨a,M',rfl,kp',m',e'⟩⟩ λ u s' hx=>zR L I1 (A.go kp m1) (λ v H' z=>z) hx⟩
theorem mR(L:Lk X E)(c:Xm X.K C f)(F:cQ X.prog X.w X.K X.mg X.base CX0 k f fd ps (yn C fs))(hr:fO (k+1) X.A)(hg:Gl X x)(hm:X.mg x=some (.ref C))(hb:L2.Binds X.K fd ps [])(ha:Jd (PAd X (e::es) t))
  (hdb:ND x:=by decide)(h1:dZ e=false:=by rfl)(h2:(es.all λ e=>!dZ e)=true:=by rfl):Jd (PSd X (.Raise (some (.Call (.Name x p) (e::es) [] cpos)) none pos) (zH C fs E t)):=⟨have ha:=ha.h;by
 intro pins s σ H D I h;obtain⟨τ,M,Dd,A,h,_⟩:=h;rw[arm_exec_Raise];refine wpAny_bind (wpAny_standAt (acC (K:=X.K) hr.hd (wpAny_bind ?_)));refine wpAny_Call_Name_kw (gi I hg hm ?_ hdb);refine W.callWith_K (h₀:=X.base) I.ok.mod.kin c.kp (thn (ha cpos pins s σ H (λ vs H1=>∃ ws M1,Kp H H1/\ba X.K H1 ws vs/\cH X.K H1 M1/\ws.length=fs.length/\ws.length<=1000/\∀ a,M1 a=none->E a τ (cn M1 a (.exc C (fs.zip ws)))) I
  ⟨τ,M,_,A,h,λ vs H1 ws M1 kp r m q=>⟨ws,M1,kp,r,m,q⟩⟩) λ us s1 ⟨vs,H1,I1,r,ws,M1,kp,rw1,m1,hl,hz,q⟩=>⟨I1.kIn,?_⟩) (bH e es X.env h1) (cL cpos X.env es h2)
 have hlv:vs.length=fs.length:=by rw[<- rw1.length];exact hl
 have e0:H1 (s1.heap.objs.size+1)=none:=I1.hok.fresh (Nat.le_succ _);have J:Inv X pins σ (upd H1 (s1.heap.objs.size+1) (.ext (XV (s1.heap.objs.size+1) C none #[.ref s1.heap.objs.size,.none,.none,.none,.bool false,.none]))) {s1 with heap:=(s1.heap.push {cls:=.type "tuple",data:=.seq us.toArray}).push (rq C s1.heap.objs.size)}:=by
  have I2:=I1.kept (t':=s1.toks) (h':=s1.heap.push {cls:=.type "tuple",data:=.seq us.toArray}) λ b u z=>Heap.get?_push_of_some _ z;refine I2.laid (t':=s1.toks) (λ b u z=>Heap.get?_push_of_some _ z) (by show(s1.heap.push _).objs.size<=_;rw[Heap.size_push];exact Nat.le_refl _) (aek ?_);have:=Heap.get?_push_size (s1.heap.push {cls:=.type "tuple",data:=.seq us.toArray}) (o:=rq C s1.heap.objs.size) rfl
  rwa[Heap.size_push] at this
 have r2:Vals (V.ref (s1.heap.objs.size+1)::vs) (Value.ref (s1.heap.objs.size+1)::us):=.cons rfl r;refine agA (h:=s1.heap) (g:=s1.gens) (d:=s1.drawn) (t:=s1.toks) (os:=s1.os) I1.kIn c.xc c.xm c.hi c.hf (by show us.length<=_;have:=r.length;have:=rw1.length;have:=s16;omega) ?_;have hq:=F.len (V.ref (s1.heap.objs.size+1)::vs) (upd H1 (s1.heap.objs.size+1) (.ext (XV (s1.heap.objs.size+1) C none #[.ref s1.heap.objs.size,.none,.none,.none,.bool false,.none])))
  (λ v H3=>v=.non/\∃ dx,(upd H1 (s1.heap.objs.size+1) (.ext (XV (s1.heap.objs.size+1) C none #[.ref s1.heap.objs.size,.none,.none,.none,.bool false,.none]))) dx=none/\dx≠s1.heap.objs.size+1 /\
   H3=upd (upd (upd H1 (s1.heap.objs.size+1) (.ext (XV (s1.heap.objs.size+1) C none #[.ref s1.heap.objs.size,.none,.none,.none,.bool false,.none]))) dx (.ext (DX dx (fs.zip vs)))) (s1.heap.objs.size+1) (.ext (XV (s1.heap.objs.size+1) C (some dx) #[.ref s1.heap.objs.size,.none,.none,.none,.bool false,.none]))) E0
  ⟨_,vs,_,rfl,hlv,ar,λ dx hd ne=>⟨rfl,dx,hd,ne,rfl⟩⟩
 have bnd:=hb {s1 with heap:=(s1.heap.push {cls:=.type "tuple",data:=.seq us.toArray}).push (rq C s1.heap.objs.size)} (Value.ref (s1.heap.objs.size+1)::us) J.kIn (by rw[List.append_nil,<- r2.length];exact hq);rw[List.append_nil] at bnd;refine wpAny_call (codeAny_mono (F.run _ X.stack {s1 with heap:=(s1.heap.push {cls:=.type "tuple",data:=.seq us.toArray}).push (rq C s1.heap.objs.size)} _ ⟨Value.ref (s1.heap.objs.size+1)::us,[]⟩ _ _ (λ v H3=>v=.non/\∃ dx,(upd H1 (s1.heap.objs.size+1) (.ext (XV (s1.heap.objs.size+1) C none #[.ref s1.heap.objs.size,.none,.none,.none,.bool false,.none]))) dx=none/\dx≠s1.heap.objs.size+1 /\
   H3=upd (upd (upd H1 (s1.heap.objs.size+1) (.ext (XV (s1.heap.objs.size+1) C none #[.ref s1.heap.objs.size,.none,.none,.none,.bool false,.none]))) dx (.ext (DX dx (fs.zip vs)))) (s1.heap.objs.size+1) (.ext (XV (s1.heap.objs.size+1) C (some dx) #[.ref s1.heap.objs.size,.none,.none,.none,.bool false,.none]))) E0
  (hr.make C us []) (J.ahp.make C us []) bnd r2 ⟨_,vs,_,rfl,hlv,ar,λ dx hd ne=>⟨rfl,dx,hd,ne,rfl⟩⟩) λ rr s' hq'=>?_)
 cases rr with
 | error e=>exact False.elim hq'
 | ok fl =>
  cases fl with
  | next=>exact False.elim hq'
  | brk=>exact False.elim hq'
  | cont=>exact False.elim hq'
  | ret u =>
   obtain⟨v,H3,I3,rv,ev,dx,hd,ne,eH⟩:=J.after hq';subst ev;refine⟨rv,wpAny_bind (wpAny_standAt (wpAny_pure ?_))⟩;generalize ha0:s1.heap.objs.size+1=a at *;generalize hu0:(#[.ref s1.heap.objs.size,.none,.none,.none,.bool false,.none]:Array Value)=u0 at *;have e3a:H3 a=some (.ext (XV a C (some dx) u0)):=by rw[eH,ar]
   have e3d:H3 dx=some (.ext (DX dx (fs.zip vs))):=by rw[eH,aq ne,ar]
   have oa:s'.heap.get? a=some (ju C (some dx) u0):=(I3.hok a _ e3a).1;obtain⟨⟨mA,n1,r1,w1⟩,⟨od,hod⟩,_⟩:=I3.hok dx _ e3d;have I4:=I3.write (x:=dx) (e:=dx) (o:=.frz od (.xd (fs.zip vs))) (h':=s'.heap) (t':=s'.toks) (by rw[e3d];exact True.intro) (.inl rfl) (λ b q _ z=>z) ⟨od,hod⟩ ⟨hod,mA,n1,r1⟩;have e4a:(upd H3 dx (.frz od (.xd (fs.zip vs)))) a=some (.ext (XV a C (some dx) u0)):=by rw[aq (Ne.symm ne)];exact e3a
   have I5:=I4.write (x:=a) (e:=a) (o:=.ext (XF a C (some dx) true)) (h':=s'.heap) (t':=s'.toks) (by rw[e4a];exact True.intro) (.inl rfl) (λ b q _ z=>z) ⟨_,oa⟩ (abG oa λ _=>by rw[<- hu0];rfl);have hdx:H1 dx=none:=by rw[aq ne] at hd;exact hd
   have at5:∀ b,b≠a->b≠dx->(upd (upd H3 dx (.frz od (.xd (fs.zip vs)))) a (.ext (XF a C (some dx) true))) b=H1 b:=λ b z1 z2=>by rw[aq z1,aq z2,eH,aq z1,aq z2,aq z1]
   have st:∀ b u,H1 b=some u->(upd (upd H3 dx (.frz od (.xd (fs.zip vs)))) a (.ext (XF a C (some dx) true))) b=some u:=λ b u z=>by rw[at5 b (λ y=>by rw[y,e0] at z;cases z) (λ y=>by rw[y,hdx] at z;cases z)];exact z
   have k5:Kp H1 (upd (upd H3 dx (.frz od (.xd (fs.zip vs)))) a (.ext (XF a C (some dx) true))):=⟨λ b xs z=>st b _ z,λ b o u z=>st b _ z⟩;have m5:cH X.K (upd (upd H3 dx (.frz od (.xd (fs.zip vs)))) a (.ext (XF a C (some dx) true))) (cn M1 a (.exc C (fs.zip ws))):=λ b mo z=>by
    by_cases hb:b=a
    ·subst hb;rw[aA] at z;cases z;exact⟨_,some dx,ar,λ h ⟨vs,y,c⟩=>⟨vs,y,λ _=>c rfl⟩,.inr ⟨dx,od,fs.zip vs,rfl,by rw[aq ne,ar],oJ fs (rw1.keep k5)⟩⟩
    ·rw[aR hb] at z;exact(m1 b mo z).keep k5 λ u y=>st b u y
   refine⟨a,C,some dx,u0,rfl,I5.kIn,c.xc.x,c.ty,oa,by rw[<- hu0];rfl,?_⟩;exact L pins σ _ s' a τ _ I5 ⟨C,some dx,u0,true,ar,oa,.inl (by rw[<- hu0];rfl),λ _=>by rw[<- hu0];rfl⟩ (A.go (kp.trans k5) m5) (q a (m1.free e0))⟩
variable {body suite:List Stmt}{b0:Stmt}{hs:List ExceptHandler}{h0:ExceptHandler}{tb:XE->TSd}{th rest:Addr->TSd}{ts:TSd}
theorem ud(hst:X.stack=X.env::X.outer)(hf:X.env.frame=some X.env.locals)
  (hb:∀ (H0:Hp) (pn:PN) (xe:VP) (E:XE),Lk (X.mr H0 pn xe) E->PassesOwn (model X.prog X.w) X.A X.env xe->Jd (lO (X.mr H0 pn xe) body (tb E)))(hh:Jd (PHd X (h0::hs) th)):Jd (PSd X (.Try body (h0::hs) [] [] pos) (ahy tb th)):=
 ⟨D.aeB hst hf (λ H0 pn xe E l p=>(hb H0 pn xe E l p).h) hh.h⟩
theorem tV:Jd (PHd X hs (λ _ _ _ _=>False)):=⟨λ pins σ H s a D I air ⟨τ,M,Dd,_,h,_⟩=>h.elim⟩
theorem afn(hg:Gl X x)(hm:X.mg x=some (.ref Dc))(ht:m8 (λ C b=>W.exmOne X.K (.ref C) (.ref Dc)=some b) l)(hN:X.N.Nodup)(hi:X.N[i]? =some n)(hl:X.env.scope.names.lookup n=some .local)(hk:X.env.scope.kind=.function)
  (hsu:∀ a,Jd (lO (X.gL a) (b0::suite) ts))(hr:Jd (PHd X hs rest))(hdb:ND x:=by decide):Jd (PHd X (.ExceptHandler (some (.Name x np)) (some n) (b0::suite) hpos::hs) (acK (wj l) i ts rest)):=
 ⟨D.aih hg hm ht.of hN hi hl hk (λ a=>(hsu a).h) hr.h hdb⟩
theorem aaU{f:Str}{cs:List Addr}(hc:acw (λ C=>XC X.K C/\qD X.K C f) cs)(he:Jd (PD X o td))(hb:attributeBase o f X.env (eval o X.env)=eval o X.env:=by rfl):Jd (PD X (.Attribute o f pos) (aeZ cs td f)):=⟨D.adE hc.of he.h hb⟩
theorem aaN(hm:X.mg "isinstance" = none)(ht:m8 (λ C b=>XC X.K C/\W.kitAny X.K (.ref C) [.ref Dc]=some b) l)(hg:Gl X x)(hx:X.mg x=some (.ref Dc))(ho:Jd (PD X o td))(hgi:Gl X "isinstance":= by rfl)
  (hdb:ND x:=by decide)(h1:dZ o=false:=by rfl):Jd (PD X (.Call (.Name "isinstance" p) [o,.Name x p'] [] pos) (ae1 (wj l) td)):=
 ⟨D.zy (cs:=[.ref Dc]) ht.of rfl hgi hm ho.h (fI (v:=.ref Dc) hg hx rfl hdb) (ze _) h1 rfl⟩
theorem aaD(hm:X.mg "isinstance" = none)(ht:m8 (λ C b=>XC X.K C/\W.kitAny X.K (.ref C) [.type T]=some b) l)(hg:Gl X x)(hx:X.mg x=none)(hv:bootBuiltins x=some (.type T))(ho:Jd (PD X o td))(hgi:Gl X "isinstance":= by rfl)
  (hn:x ≠ "__name__":= by decide)(hdb:ND x:=by decide)(h1:dZ o=false:=by rfl):Jd (PD X (.Call (.Name "isinstance" p) [o,.Name x p'] [] pos) (ae1 (wj l) td)):=
 ⟨D.zy (cs:=[.ty T]) ht.of rfl hgi hm ho.h (zW (v:=.ty T) hg hx hv rfl hn hdb) (ze _) h1 rfl⟩
theorem aan{x1}(hm:X.mg "isinstance" = none)(ht:m8 (λ C b=>XC X.K C/\W.kitAny X.K (.ref C) (cs.map ae8)=some b) l)(hc:PCs X es cs)(ho:Jd (PD X o td))(hz:cs.length<=1000:=by decide)(hgi:Gl X "isinstance":= by rfl)
  (h1:dZ o=false:=by rfl):Jd (PD X (.Call (.Name "isinstance" p) [o,.Tuple es x1 p'] [] pos) (ae1 (wj l) td)):=by
 obtain⟨⟨t,g1,g2⟩,g3⟩:=hc;exact⟨D.zy (cs:=cs) ht.of g3 hgi hm ho.h (aca g1) (aet g2 hz) h1 rfl⟩
end
section
variable {X:Cx}{K:FG}
end
section
variable {X:Cx}{K:FG}
def lX(d:PyData)(ds:List PyData):Bool:=pZ d&&pZ (.list ds)
def inA(d:PyData)(ds:List PyData):Bool:=ds.any λ y=>PyData.eqv y d
theorem i8(hr:cX k A)(h:SeqAt.shaped d=true):A.units+1+min (PyData.depthAll ds) d.depth<cLine:=by have h1:=SeqAt.depth_of_shaped h;have h2:min (PyData.depthAll ds) d.depth<=d.depth:=Nat.min_le_right _ _;have:=hr.un;omega
theorem zl(hr:cX k X.A):OpR X (compareOp .In) (λ x y H Q=>∃ d ds,i6 X.K H d x/\(i6 X.K H (.list ds) y\/aC X.K H (.tuple ds) y)/\lX d ds=true/\Q (.bl (inA d ds)) H):=by
 intro pins s σ H x y v u Q I rx ry h;obtain⟨d,ds,h1,h2,o,q⟩:=h;simp only[lX,pZ,Bool.and_eq_true,Bool.not_eq_true'] at o;obtain⟨⟨o1,o2⟩,o3,o4⟩:=o;obtain⟨as,r1⟩:=cC I d h1 rx o2;have c3:=SeqAt.canLay_of_shaped o3;rcases h2 with h2 | h2
 ·obtain⟨bs,r2⟩:=cC I (.list ds) h2 ry o4;exact SeqAt.in_list_reads r2 r1 c3 (SeqAt.canLay_of_shaped o1) (i8 hr o1) ⟨.bl _,H,I,rfl,q⟩
 ·obtain⟨bs,r2⟩:=dz I (.tuple ds) h2 ry o4;exact SeqAt.in_tuple_reads r2 r1 c3 (SeqAt.canLay_of_shaped o1) (i8 hr o1) ⟨.bl _,H,I,rfl,q⟩
theorem yp(hr:cX k X.A):OpR X (compareOp .NotIn) (λ x y H Q=>∃ d ds,i6 X.K H d x/\(i6 X.K H (.list ds) y\/aC X.K H (.tuple ds) y)/\lX d ds=true/\Q (.bl (!inA d ds)) H):=by
 intro pins s σ H x y v u Q I rx ry h;obtain⟨d,ds,h1,h2,o,q⟩:=h;simp only[lX,pZ,Bool.and_eq_true,Bool.not_eq_true'] at o;obtain⟨⟨o1,o2⟩,o3,o4⟩:=o;obtain⟨as,r1⟩:=cC I d h1 rx o2;have c3:=SeqAt.canLay_of_shaped o3;rcases h2 with h2 | h2
 ·obtain⟨bs,r2⟩:=cC I (.list ds) h2 ry o4;exact SeqAt.notIn_list_reads r2 r1 c3 (SeqAt.canLay_of_shaped o1) (i8 hr o1) ⟨.bl _,H,I,rfl,q⟩
 ·obtain⟨bs,r2⟩:=dz I (.tuple ds) h2 ry o4;exact SeqAt.notIn_tuple_reads r2 r1 c3 (SeqAt.canLay_of_shaped o1) (i8 hr o1) ⟨.bl _,H,I,rfl,q⟩
def vQ(neg:Bool)(w w':W)(M:MH)(Q:QD):Prop:=∃ d ds,wk M w d/\(wk M w' (.list ds)\/w'=.d (.tuple ds))/\lX d ds=true/\Q (.d (.bool (xor neg (inA d ds)))) M
theorem r9:OpD K (λ x y H Q=>∃ d ds,i6 K H d x/\(i6 K H (.list ds) y\/aC K H (.tuple ds) y)/\lX d ds=true/\Q (.bl (inA d ds)) H) (vQ false):=by
 intro x y H w w' M Qd Q r1 r2 m ⟨d,ds,g1,g2,o,q⟩ k;refine⟨d,ds,g1.sound r1 m,?_,o,k _ H (.d (.bool _)) M (Kp.refl H) (by simp[aG,aC]) m q⟩;rcases g2 with g2 | rfl
 ·exact .inl (g2.sound r2 m)
 ·exact .inr r2
theorem vY:OpD K (λ x y H Q=>∃ d ds,i6 K H d x/\(i6 K H (.list ds) y\/aC K H (.tuple ds) y)/\lX d ds=true/\Q (.bl (!inA d ds)) H) (vQ true):=by
 intro x y H w w' M Qd Q r1 r2 m ⟨d,ds,g1,g2,o,q⟩ k;refine⟨d,ds,g1.sound r1 m,?_,o,k _ H (.d (.bool (!inA d ds))) M (Kp.refl H) (by simp[aG,aC]) m (by simpa using q)⟩;rcases g2 with g2 | rfl
 ·exact .inl (g2.sound r2 m)
 ·exact .inr r2
end
def qz(v:Value):PyData->Bool
 | .str z=>match v with
  | .str x _=>decide (x=z)
  | _=>false
 | .int i=>match v with
  | .int j _=>decide (j=i)
  | _=>false
 | _=>false
def jG:List Value->List PyData->Bool
 | [],[]=>true
 | v::vs,d::ds=>qz v d&&jG vs ds
 | _,_=>false
def sr(K:FG)(v:Value):PyData->Bool
 | .tuple ds=>match v with
  | .ref a=>match K.lookup a with
   | some o=>(match o.cls with
    | .type n=>decide (n = "tuple")
    | _=>false)&&o.dict.isNone&&(match o.data with
    | .seq its _=>decide (its.size<=100)&&jG its.toList ds
    | _=>false)
   | none=>false
  | _=>false
 | d=>qz v d
theorem tH(h:qz v d=true):∃ x,RelV x v/\∀ K H,aC K H d x:=by
 cases d with
 | str z =>
  cases v with
  | str x t =>
   have e:x=z:=of_decide_eq_true h;subst e;exact⟨.str x,⟨t,rfl⟩,λ K H=>by simp[aC]⟩
  | _=>cases h
 | int i =>
  cases v with
  | int j t =>
   have e:j=i:=of_decide_eq_true h;subst e;exact⟨.int j,⟨t,rfl⟩,λ K H=>by simp[aC]⟩
  | _=>cases h
 | _=>cases h
theorem qO:∀ {vs:List Value} {ds:List PyData},jG vs ds=true->∃ xs,Vals xs vs/\∀ K H,bo K H ds xs
 | [],[],_=>⟨[],.nil,λ K H=>by simp[bo]⟩
 | v::vs,d::ds,h=>by simp only[jG,Bool.and_eq_true] at h;obtain⟨x,h1,h2⟩:=tH h.1;obtain⟨xs,h3,h4⟩:=qO h.2;exact⟨x::xs,.cons h1 h3,λ K H=>by simp only[bo];exact⟨x,xs,rfl,h2 K H,h4 K H⟩⟩
 | [],_::_,h=>by cases h
 | _::_,[],h=>by cases h
theorem yC{K:FG}{v:Value}{d:PyData}(h:sr K v d=true):∃ x,RelV x v/\∀ H,aC K H d x:=by
 have atom:qz v d=true->∃ x,RelV x v/\∀ H,aC K H d x:=λ h=>by obtain⟨x,h1,h2⟩:=tH h;exact⟨x,h1,h2 K⟩
 cases d with
 | tuple ds =>
  cases v with
  | ref a =>
   simp only[sr] at h;cases e:K.lookup a with
   | none=>rw[e] at h;cases h
   | some o =>
    rw[e] at h;simp only[Bool.and_eq_true] at h;obtain⟨⟨h1,h0⟩,h2⟩:=h;have hd:o.dict=none:=by simpa using h0
    have hc:o.cls=.type "tuple":= by
     cases q:o.cls with
     | type n=>rw[q] at h1;rw[of_decide_eq_true h1]
     | _=>rw[q] at h1;cases h1
    cases q:o.data with
    | seq its n =>
     rw[q] at h2;simp only[Bool.and_eq_true,decide_eq_true_eq] at h2;obtain⟨xs,h3,h4⟩:=qO h2.2;refine⟨.ref a,rfl,λ H=>?_⟩;simp only[aC];exact⟨a,xs,rfl,.inr ⟨o,its,n,e,hc,hd,q,few (by omega),h3⟩,h4 K H⟩
    | _=>rw[q] at h2;cases h2
  | _=>cases h
 | str z=>exact atom h
 | int i=>exact atom h
 | none=>exact atom h
 | bool b=>exact atom h
 | list ds=>exact atom h
 | dict kvs=>exact atom h
def nR(K:FG):List DictEntry->List (Str×PyData)->Bool
 | [],[]=>true
 | e::es,(k,d)::kvs=>qz e.key (.str k)&&sr K e.val d&&nR K es kvs
 | _,_=>false
def ahs(K:FG)(a:Addr)(kvs:List (Str×PyData)):Bool:=match K.lookup a with
 | some o=>(match o.cls with
  | .type n=>decide (n = "dict")
  | _=>false)&&o.dict.isNone&&decide (o.slots.size=0)&&(match o.data with
  | .dict es _=>nR K es.toList kvs
  | _=>false)
 | none=>false
def hashesOf(K:FG)(a:Addr):Option (List Int):=match K.lookup a with
 | some o=>match o.data with
  | .dict es _=>some (es.toList.map (·.hash))
  | _=>none
 | none=>none
structure jx(w:World)(K:FG)(a:Addr)(kvs:List (Str×PyData)):Prop where
 is:ahs K a kvs=true
 hs:hashesOf K a=some (kvs.map λ p=>PyData.keyHash w.params p.1)
 nd:(kvs.map (·.1)).Nodup
 ns:(a==sysModules)=false
theorem uU{P:Program}{w:World}{K:FG}:∀ {es:List DictEntry} {kvs:List (Str×PyData)},nR K es kvs=true->es.map (·.hash)=kvs.map (λ p=>PyData.keyHash w.params p.1) ->
  ∃ (L:List (Key×V)) (vs:List (Key×Value)),KV L vs/\Pairs (bb P w) es vs/\(∀ e∈es,∃ k,(bb P w).is k e.key=true/\e.hash=(bb P w).hash k)/\vs.map (·.1)=kvs.map (λ p=>(.inr p.1:Key))/\Paired (λ(p:Str×PyData) (q:Key×V)=>q.1=.inr p.1/\∀ H,aC K H p.2 q.2) kvs L
 | [],[],_,_=>⟨[],[],.nil,.nil,(λ e he=>by cases he),rfl,.nil⟩
 | e::es,(k,d)::kvs,h,hh=>by
  simp only[nR,Bool.and_eq_true] at h;obtain⟨⟨h1,h2⟩,h3⟩:=h;rw[List.map_cons,List.map_cons] at hh;obtain⟨hh1,hh2⟩:=List.cons.inj hh;obtain⟨L,vs,i1,i2,i3,i4,i5⟩:=uU (P:=P) (w:=w) h3 hh2;obtain⟨x,r1,r2⟩:=yC h2;have hk:oR (.inr k) e.key=true:=by
   cases q:e.key with
   | str y t =>
    rw[q] at h1;have ey:y=k:=of_decide_eq_true h1;subst ey;show Value.isStrOf y (.str y t)=true;simp[Value.isStrOf]
   | _=>rw[q] at h1;cases h1
  refine⟨(.inr k,x)::L,(.inr k,e.val)::vs,.cons ⟨rfl,r1⟩ i1,.cons hk rfl i2,λ e' he'=>?_,by rw[List.map_cons,i4];rfl,.cons ⟨rfl,r2⟩ i5⟩;rcases List.mem_cons.mp he' with rfl | he'
  ·exact⟨.inr k,hk,hh1⟩
  ·exact i3 e' he'
 | [],_::_,h,_=>by cases h
 | _::_,[],h,_=>by cases h
theorem jx.dd(D:jx X.w X.K a kvs)(I:Inv X pins σ H s):∃ (L:List (Key×V)) (vs:List (Key×Value)),KV L vs/\s.heap.DictOf (bb X.prog X.w) a vs/\Paired (λ(p:Str×PyData) (q:Key×V)=>q.1=.inr p.1/\∀ H,aC X.K H p.2 q.2) kvs L:=by
 have h:=D.is;have hs:=D.hs;unfold ahs at h;unfold hashesOf at hs;cases e:X.K.lookup a with
 | none=>rw[e] at h;cases h
 | some o =>
  rw[e] at h hs;simp only[Bool.and_eq_true] at h hs;obtain⟨⟨⟨h1,h2⟩,h3⟩,h4⟩:=h;have hc:o.cls=.type "dict":= by
   cases q:o.cls with
   | type n=>rw[q] at h1;rw[of_decide_eq_true h1]
   | _=>rw[q] at h1;cases h1
  have hd:o.dict=none:=by simpa using h2
  have hsl:o.slots = #[]:=Array.eq_empty_of_size_eq_zero (of_decide_eq_true h3);cases q:o.data with
  | dict es n =>
   rw[q] at h4 hs;obtain⟨L,vs,i1,i2,i3,i4,i5⟩:=uU (P:=X.prog) (w:=X.w) h4 (Option.some.inj hs);refine⟨L,vs,i1,⟨o,es,n,I.kIn a o e,⟨hc,hd,hsl⟩,q,λ e' he'=>i3 e' (by simpa using he'),i2,?_⟩,i5⟩;rw[i4,show(kvs.map λ p=>(.inr p.1:Key))=(kvs.map (·.1)).map Sum.inr from by simp];exact List.Pairwise.map Sum.inr (λ a b h z=>h (Sum.inr.inj z)) D.nd
  | _=>rw[q] at h4;cases h4
def fC(kvs:List (Str×PyData))(z:Str):Option PyData:=(kvs.find? λ p=>decide (p.1=z)).map (·.2)
theorem hU{K:FG}(z:Str):∀ {kvs:List (Str×PyData)} {L:List (Key×V)},Paired (λ(p:Str×PyData) (q:Key×V)=>q.1=.inr p.1/\∀ H,aC K H p.2 q.2) kvs L->OR (λ d v=>∀ H,aC K H d v) (fC kvs z) (lZ L (.inr z))
 | _,_,.nil=>True.intro
 | _,_,.cons (a:=p) (b:=q) (l₁:=t1) h t=>by
  obtain⟨h1,h2⟩:=h
  by_cases e:p.1=z
  ·rw[iy (h1.trans (by rw[e])),show fC (p::t1) z=some p.2 by simp[fC,List.find?_cons,e]];exact h2
  ·rw[ik (λ y=>e (Sum.inr.inj (h1.symm.trans y))),show fC (p::t1) z=fC t1 z by simp[fC,List.find?_cons,e]];exact hU z t
def aiX(K:FG)(kvs:List (Str×PyData))(ty:TE):TE:=λ σ H Q=>ty σ H λ y H1=>∃ z,y=.str z/\∀ v,(∀ H,aC K H ((fC kvs z).getD .none) v)->Q v H1
theorem aey(hg:Gl X x)(hm:X.mg x=some (.ref a))(kd:jx X.w X.K a kvs)(he:PE X e ty)(m:M1 X (.Name x p) "get" apos e cpos)(hd:ND x:=by decide):PE X (.Call (.Attribute (.Name x p) "get" apos) [e] [] cpos) (aiX X.K kvs ty):=by
 intro pins s σ H Q I h;refine wpAny_Call_method m.base m.few m.line PySem.F.plainAttrs_dict PySem.F.slot_dict_get PySem.F.type_dict_get (thn (fI (v:=.ref a) hg hm rfl hd pins s σ H (λ v H'=>v=.ref a/\H'=H) I ⟨rfl,rfl⟩) λ u s1 hq83=>?_);obtain⟨x1,H1,I1,rx,ex,eH⟩:=hq83;subst ex eH;obtain rfl:u=Value.ref a:=rx;obtain⟨L,vs,rel,dd,pr⟩:=kd.dd I1;refine⟨dd.typeIs,λ b q=>?_,?_⟩
 ·cases q;obtain⟨ob,_,_,h1,h2,_⟩:=dd;exact⟨ob,h1,h2.2.1⟩
 rw[m.trees];refine Calls.callWith_builtin rfl (Calls.evalArgs_plain (Calls.spliced_cons (thn (he pins s1 σ H1 _ I1 h) λ iv s2 ⟨y,H2,I2,ry,z,ey,q2⟩=>Calls.spliced_nil ?_)));subst ey;obtain⟨L,vs,rel,dd,pr⟩:=kd.dd I2;have lv:=hU z pr;refine call_meetsIn PySem.F.slot_dict_get dd.typeIs PySem.F.entry_dict_get (PySem.F.args_dict_get_2 _ _) (meets_dict_get (bb X.prog X.w) a (sR (k:=.inr z) ry) kd.ns) ⟨_,dd.mapOf,?_⟩;refine⟨(lZ L (.inr z)).getD .non,H2,I2.tok _,(rel.val (.inr z)).getD rfl,q2 _ λ H=>?_⟩;cases q:fC kvs z with
 | none =>
  rw[q] at lv;rw[OR.none_of lv];simp[aC]
 | some d =>
  rw[q] at lv;obtain⟨b,eb,rb⟩:=OR.some_of lv;rw[eb];exact rb H
def abT(kvs:List (Str×PyData))(te:TD)(τ:DS)(M:MH)(Q:QD):Prop:=te τ M λ w M1=>∃ z,w=.d (.str z)/\Q (.d ((fC kvs z).getD .none)) M1
theorem aaI(hg:Gl X x)(hm:X.mg x=some (.ref a))(kd:jx X.w X.K a kvs)(he:PD X e te)(m:M1 X (.Name x p) "get" apos e cpos:=by exact⟨rfl,rfl,rfl,rfl⟩)(hd:ND x:=by decide):PD X (.Call (.Attribute (.Name x p) "get" apos) [e] [] cpos) (abT kvs te):=
 fx (aey hg hm kd he m hd) λ σ H Q h=>by obtain⟨τ,M,Qd,A,h,k⟩:=h;refine⟨τ,M,_,A,h,λ y H1 w M1 kp r m1 hq84=>?_⟩;obtain⟨z,ew,q⟩:=hq84;subst ew;simp only[aG,aC] at r;exact⟨z,r,λ v hv=>k _ H1 (.d _) M1 kp (hv H1) m1 q⟩
def ajK(K:FG)(kvs:List (Str×PyData))(ty:TE):TE:=λ σ H Q=>ty σ H λ y H1=>∃ z d,y=.str z/\fC kvs z=some d/\∀ v,(∀ H,aC K H d v)->Q v H1
theorem afU(hg:Gl X x)(hm:X.mg x=some (.ref a))(kd:jx X.w X.K a kvs)(he:PE X e ty)(hs:aew e)(hd:ND x:=by decide):PE X (.Subscript (.Name x p) e pos) (ajK X.K kvs ty):=by intro pins s σ H Q I h;refine xQ PySem.F.slot_dict_getitem.lookup hs (thn (fI (v:=.ref a) hg hm rfl hd pins s σ H (λ v H'=>v=.ref a/\H'=H) I ⟨rfl,rfl⟩) λ u s1 hq85=>?_);obtain⟨x1,H1,I1,rx,ex,eH⟩:=hq85;subst ex eH;obtain rfl:u=Value.ref a:=rx;refine thn (he pins s1 σ H1 _ I1 h) λ iv s2 hq86=>?_;obtain⟨y,H2,I2,ry,z,d,ey,l,q2⟩:=hq86;subst ey;obtain⟨L,vs,rel,dd,pr⟩:=kd.dd I2;have lv:=hU z pr;rw[l] at lv;obtain⟨b,eb,rb⟩:=OR.some_of lv;obtain⟨w',hw,rw'⟩:=uL.some_of (v:=b) (o:=valueAt vs (.inr z)) (by rw[<- eb];exact rel.val (.inr z));exact⟨dd.typeIs,wpAny_getItem_of (sR (k:=.inr z) ry) dd.mapOf hw ⟨b,H2,I2.tok _,rw',q2 b rb⟩⟩
def aiY(kvs:List (Str×PyData))(te:TD)(τ:DS)(M:MH)(Q:QD):Prop:=te τ M λ w M1=>∃ z d,w=.d (.str z)/\fC kvs z=some d/\Q (.d d) M1
theorem adV(hg:Gl X x)(hm:X.mg x=some (.ref a))(kd:jx X.w X.K a kvs)(he:PD X e te)(hs:aew e:=by exact λ _ _=>rfl)(hd:ND x:=by decide):PD X (.Subscript (.Name x p) e pos) (aiY kvs te):=
 fx (afU hg hm kd he hs hd) λ σ H Q h=>by obtain⟨τ,M,Qd,A,h,k⟩:=h;refine⟨τ,M,_,A,h,λ y H1 w M1 kp r m1 hq87=>?_⟩;obtain⟨z,d,ew,l,q⟩:=hq87;subst ew;simp only[aG,aC] at r;exact⟨z,d,r,l,λ v hv=>k _ H1 (.d d) M1 kp (hv H1) m1 q⟩
theorem wB{ds:List PyData}(hg:Gl X x)(hm:X.mg x=some (.ref a))(ht:sr X.K (.ref a) (.tuple ds)=true)(hd:ND x:=by decide):PD X (.Name x pos) (dC (.d (.tuple ds))):=
 abb (fI (v:=.ref a) hg hm rfl hd) λ H=>by
  obtain⟨y,h1,h2⟩:=yC ht;have e:y=.ref a:=by have h3:=h2 H;simp only[aC] at h3;obtain⟨c,_,e,_⟩:=h3;subst e;have:(Value.ref a)=.ref c:=h1;cases this;rfl
  rw[<- e];exact h2 H
theorem tD(hg:Gl X x)(hm:X.mg x=some (.ref a))(kd:jx X.w X.K a kvs)(he:Jd (PD X e te))(m:M1 X (.Name x p) "get" apos e cpos:=by exact⟨rfl,rfl,rfl,rfl⟩)(hd:ND x:=by decide):Jd (PD X (.Call (.Attribute (.Name x p) "get" apos) [e] [] cpos) (abT kvs te)):=⟨_root_.D.aaI hg hm kd he.h m hd⟩
theorem ae5(hg:Gl X x)(hm:X.mg x=some (.ref a))(kd:jx X.w X.K a kvs)(he:Jd (PD X e te))(hs:aew e:=by exact λ _ _=>rfl)(hd:ND x:=by decide):Jd (PD X (.Subscript (.Name x p) e pos) (aiY kvs te)):=⟨_root_.D.adV hg hm kd he.h hs hd⟩
theorem xD(hg:Gl X x)(hm:X.mg x=some (.ref a))(ht:sr X.K (.ref a) (.tuple ds)=true)(hd:ND x:=by decide):Jd (PD X (.Name x pos) (dC (.d (.tuple ds)))):=⟨_root_.D.wB hg hm ht hd⟩
def aiU:V->List V->Hp->VK->Prop:=λ x vs H Q=>∃ a c kvs more,x=.ref a/\vs=[.ref c]/\H a=some (.dK kvs)/\Rd H c (.dK more)/\a≠c/\kvs.length+more.length<=sizeLine/\Q .non (upd H a (.dK (fT kvs more)))
theorem aes:MtM X "dict.update" aiU:=by intro pins s σ H x vs v us Q I rx rv h;obtain⟨a,c,kvs,more,rfl,rfl,ha,hc,ne,hz,q⟩:=h;cases rx;obtain⟨u,rfl,ru⟩:=rv.one;cases ru;obtain⟨_,hd,ws,rel,dd⟩:=ahj I.hok ha;obtain⟨_,hd2,ws2,rel2,dd2⟩:=vK I.hok hc;refine call_meetsIn PySem.F.slot_dict_update dd.typeIs PySem.F.entry_dict_update (PySem.F.args_dict_update_2 _ _) (meets_dict_update (bb X.prog X.w) a c ne hd2) ⟨ws,ws2,dd,dd2,by rw[<- rel.length,<- rel2.length];exact hz,λ h' dd' _ sb=>?_⟩;have hl:=fP more kvs;have he:∃ q,h'.get? a=some q:=let ⟨q,_,_,hq,_⟩:=dd'; ⟨q,hq⟩;exact⟨.non,_,wL (t':=s.toks) I (by rw[ha];exact True.intro) sb he (ace (by omega) hd (KV.merge rel2 rel) dd'),rfl,q⟩
def agZ(td te:TD)(τ:DS)(M:MH)(Q:QD):Prop:=td τ M λ w M1=>∃ a kv0,w=.m a/\M1 a=some (.dic kv0)/\te τ M1 λ y M2=>∃ kvs,∃ more:List (Key×PyData),M2 a=some (.dic kvs)/\y=.d (.dict (more.map λ p=>(pq p.1,p.2)))/\((kvs.map (·.1))++more.map (·.1)).Nodup/\kvs.length+more.length<=sizeLine/\Q (.d .none) (cn M2 a (.dic (kvs++fS more)))
theorem gR{α β:Type}{R:α->β->Prop}{κ:Type}:∀ {l:List (κ×α)} {m:List (κ×β)},Paired (λ(p:κ×α) (q:κ×β)=>p.1=q.1/\R p.2 q.2) l m->l.map (·.1)=m.map (·.1)
 | _,_,.nil=>rfl
 | _,_,.cons h t=>by rw[List.map_cons,List.map_cons,h.1,gR t]
theorem nh:∀ {l l2:List α} {m m2:List β},Paired R l m->Paired R l2 m2->Paired R (l++l2) (m++m2)
 | _,_,_,_,.nil,h=>h
 | _,_,_,_,.cons a b,h=>.cons a (nh b h)
theorem mL{K:FG}{H:Hp}:∀ {l:List (Key×PyData)} {m:List (Key×V)},Paired (λ(p:Key×PyData) (q:Key×V)=>p.1=q.1/\aC K H p.2 q.2) l m->Paired (λ(p:Key×W) (q:Key×V)=>p.1=q.1/\aG K H p.2 q.2) (l.map λ p=>(p.1,W.d p.2)) m
 | _,_,.nil=>.nil
 | _,_,.cons a b=>.cons ⟨a.1,a.2⟩ (mL b)
theorem aaJ(ho:Jd (PD X o td))(he:Jd (PD X e te))
  (hbase:attributeBase o "update" X.env (eval o X.env)=eval o X.env:=by rfl)
  (hfew:((backTo cpos (starEach [e] X.env)).all (λ x=>!x.1)&&(backToKw cpos (keywordEach [] X.env)).all (λ x=>x.1.isSome)
   && decide (([e]:List Expr).length+([]:List Keyword).length+(if ([]:List Keyword).isEmpty then 0 else 1)<30))=true:=by rfl)
  (hline:(apos.endLine==cpos.line)=true:=by rfl)(hs:dZ e=false:=by rfl):Jd (PD X (.Call (.Attribute o "update" apos) [e] [] cpos) (agZ td te)):=⟨have ho:=ho.h;have he:=he.h;
 fx (qd PySem.F.plainAttrs_dict PySem.F.slot_dict_update PySem.F.type_dict_update aes ho (pac he fh hs) hbase hfew hline (bH e [] X.env hs) rfl) λ σ H Q h=>by
  obtain⟨τ,M,Qd,A,h,k⟩:=h;refine⟨τ,M,_,A,h,λ x H1 w M1 kp1 r1 m1 hq88=>?_⟩;obtain⟨a,kv0,ew,hm0,q1⟩:=hq88;subst ew;have r1':x=.ref a:=r1;subst r1';obtain⟨l0,ea0,_⟩:=m1 _ _ hm0;refine⟨?_,τ,M1,adk (λ y M2=>∃ kvs,∃ more:List (Key×PyData),M2 a=some (.dic kvs)/\y=.d (.dict (more.map λ p=>(pq p.1,p.2)))/\((kvs.map (·.1))++more.map (·.1)).Nodup/\kvs.length+more.length<=sizeLine/\Qd (.d .none) (cn M2 a (.dic (kvs++fS more)))),A.go kp1 m1,q1,λ ys H2 wys M2 kp2 r2 m2 q2=>?_⟩
  ·exact .inr (.inr (.inl ⟨rfl,.inl ⟨l0,ea0⟩⟩))
  obtain⟨y,ey,kvs,more,hm2,ey2,hnd,hl,q4⟩:=iM q2;subst ey ey2;obtain⟨v,ev,rv⟩:=cK r2;subst ev;simp only[aG,aC] at rv;obtain⟨c,ob,l,ec,hc,rk⟩:=rv;subst ec;obtain⟨l2,ea2,pr⟩:=m2 _ _ hm2;have pk:=gW rk;have k1:kvs.map (·.1)=l2.map (·.1):=gR pr;have k2:more.map (·.1)=l.map (·.1):=gR pk;have em:fT l2 l=l2++l:=gE (by rw[List.map_append,<- k1,<- k2];exact hnd);have kp4:Kp H2 (upd H2 a (.dK (l2++l))):=Kp.set ea2 (λ _ z=>nomatch z) (λ _ _ z=>nomatch z);have e1:kvs.length=l2.length:=by have:=congrArg List.length k1;simpa using this
  have e2:more.length=l.length:=by have:=congrArg List.length k2;simpa using this
  refine⟨a,c,l2,l,rfl,rfl,ea2,.inr ⟨ob,hc⟩,(λ z=>by rw[z,hc] at ea2;cases ea2),by omega,?_⟩;rw[em];refine k _ _ (.d .none) _ ((kp1.trans kp2).trans kp4) (by simp[aG,aC]) (m2.put (mo:=.dic (kvs++fS more)) kp4 ⟨_,ar,?_⟩) q4;refine nh (Paired.mE pr λ p q z=>⟨z.1,z.2.keep kp4⟩) ?_;unfold fS;exact mL (Paired.mE pk λ p q z=>⟨z.1,z.2.keep kp4⟩)⟩
end D
namespace PySem.SeqAt
open MeetsSeq MeetsSeq2 MeetsSeq3 SeqRoads2
theorem o6(l:Addr)(items:Array Value)(n:Nat)(dd:Option Addr)(sl:Array (Option Value))(x:Value)(e:Value->Bool)(j:Nat)(hj:j<items.size)
  (hit:e items[j]=true)(hno:∀ m (hm:m<items.size),m<j->e items[m]=false) :
  Meets (Builtin.«tuple.index» ⟨[.ref l,x],[]⟩)
   (λ A R s=>s.heap.get? l=some {cls:=.type "tuple",dict:=dd,data:=.seq items n,slots:=sl}/\(∀ y,y∈items->EqAt A.in1 s y x (e y))/\R (.ok (.ret (.int j s.toks))) {s with toks:=s.toks+1}):=
 .of_wp λ prog w A R s h=>by
  obtain⟨hp,g,d,tk,os⟩:=s;obtain⟨hl,he,h⟩:=h;show wpAny (model prog w) A.in1 (Builtin.«tuple.index» ⟨[.ref l,x],[]⟩) _ _ _;unfold Builtin.«tuple.index»;simp only[Std.Legacy.Range.forIn_eq_forIn_range',Std.Legacy.Range.size]
  wp_walk using wpAny_loadPart' hl,wpAny_forIn_list _ (λ rest (b:Option Fin×Unit) s'=>b.1=none/\s'=⟨hp,g,d,tk,os⟩/\∃ i,i<=j/\rest=List.range' i (items.size-i)) _
  case turn =>
   rintro y rest b s' ⟨hb,rfl,i,hi,hr⟩;have hlt:i<items.size:=by omega
   have e1:items.size-i=(items.size-(i+1))+1:=by omega
   rw[e1,List.range'_succ] at hr;obtain⟨rfl,hr⟩:=List.cons.inj hr;have e2:items[y]? =some items[y]:=by simp[hlt]
   rw[e2];refine wpAny_bind (he _ (Array.getElem_mem hlt) prog w _ _ ?_)
   by_cases hij:y=j
   ·subst hij;rw[hit]
    wp_walk
    exact⟨_,rfl,h⟩
   ·rw[hno y hlt (by omega)]
    wp_walk
    exact⟨rfl,rfl,y+1,by omega,hr⟩
  case fin =>
   rintro b s' ⟨hb,rfl,i,hi,hr⟩;have:=congrArg List.length hr;rw[List.length_nil,List.length_range'] at this;omega
  case h =>
   refine⟨rfl,rfl,0,Nat.zero_le _,?_⟩;congr 1;simp
end PySem.SeqAt
namespace ZT
abbrev TT(h:Heap)(j t:Addr)(k:Nat)(ys:Array Value):Prop:=h.IsTupleIter j t k/\h.IsTuple t ys
theorem abJ(st:TT s.heap j t k ys)(hn:t≠j)(hy:ys[k]? =some y)
  (q:∀ h',TT h' j t (k+1) ys->Heap.SameBut j s.heap h'->Q y {s with heap:=h'}):wpAny (model prog w) A (Builtin.SmallTypes.nextOf (.ref j)) Q E s:=by
 obtain⟨jt,tt⟩:=st;obtain⟨oj,ej,cj,dj⟩:=id jt;obtain⟨ot,et,ct,nt,dt⟩:=id tt;unfold Builtin.SmallTypes.nextOf;refine wpAny_bind (wpAny_callSpecial?_slot (name:=Str.ofString "__next__") jt.typeIs F.slot_tuple_iterator_next (wpAny_call_entry F.slot_tuple_iterator_next jt.typeIs F.entry_tuple_iterator_next ?_ (F.args_tuple_iterator_next_1 _)));show wpAny _ _ (field (.ref j) 0 >>= _) _ _ s;refine wpAny_bind (wpAny_field ej dj (x:=.ref t) rfl ?_);show wpAny _ _ (if (Value.ref t==Value.none)=true then _ else _) _ _ s;rw[if_neg (show ¬ ((Value.ref t==Value.none)=true) from Bool.false_ne_true)];show wpAny _ _ (field (.ref j) 1 >>= _) _ _ s;refine wpAny_bind (wpAny_field ej dj (x:=.int k 0) rfl ?_);show wpAny _ _ (seqItems? (.ref t) >>= _) _ _ s;refine wpAny_bind (wpAny_seqItems et dt ?_);simp only[Int.toNat_natCast,hy];refine wpAny_bind (wpAny_setField ej dj (by simp) (wpAny_pure ⟨y,rfl,wpAny_pure (q _ ⟨?_,tt.extBut (Heap.SameBut.update ..).extBut hn⟩ (Heap.SameBut.update ..))⟩));exact⟨_,Heap.get?_update_self _ ej (Obj.isFreed_of_fields (Obj.data_mapFields dj _)),(Obj.cls_mapFields ..).trans cj,by rw[Obj.data_mapFields dj];simp[rawInt]⟩
theorem adU(hh:A.handled=none)(st:TT s.heap j t k ys)(hy:ys[k]? =none)
  (q:∀ h' x,Heap.ExtBut j s.heap h'->(∃ o,h'.get? x=some o/\o.cls=.type "StopIteration")->E (.ref x) {s with heap:=h'}):wpAny (model prog w) A (Builtin.SmallTypes.nextOf (.ref j)) Q E s:=by
 obtain⟨jt,tt⟩:=st;obtain⟨oj,ej,cj,dj⟩:=id jt;obtain⟨ot,et,ct,nt,dt⟩:=id tt;unfold Builtin.SmallTypes.nextOf;refine wpAny_bind (wpAny_callSpecial?_slot (name:=Str.ofString "__next__") jt.typeIs F.slot_tuple_iterator_next (wpAny_call_entry F.slot_tuple_iterator_next jt.typeIs F.entry_tuple_iterator_next ?_ (F.args_tuple_iterator_next_1 _)));show wpAny _ _ (field (.ref j) 0 >>= _) _ _ s;refine wpAny_bind (wpAny_field ej dj (x:=.ref t) rfl ?_);show wpAny _ _ (if (Value.ref t==Value.none)=true then _ else _) _ _ s;rw[if_neg (show ¬ ((Value.ref t==Value.none)=true) from Bool.false_ne_true)];show wpAny _ _ (field (.ref j) 1 >>= _) _ _ s;refine wpAny_bind (wpAny_field ej dj (x:=.int k 0) rfl ?_);show wpAny _ _ (seqItems? (.ref t) >>= _) _ _ s;refine wpAny_bind (wpAny_seqItems et dt ?_);simp only[Int.toNat_natCast,hy];refine wpAny_bind (wpAny_rule (wpAny_bind (wpAny_setField ej dj (by simp) ?_)));show wpAny _ _ (newExc (.type "StopIteration") [] >>= _) _ _ _;refine wpAny_bind ?_;simp only[newExc,newTuple];refine wpAny_bind (wpAny_newObj_type ?_ (by size_fits));refine wpAny_bind (m:=firstArgMember _ _) (wpAny_of_eq (a:=Value.none) (by first | rfl | (simp only[firstArgMember];rfl)) (wpAny_newObj_type ?_ (by size_fits)))
 simp only[raiseNew];refine wpAny_bind (wpAny_handled ?_)
 first | rw[show A.in1.handled=none from hh] | rw[hh]
 refine wpAny_bind (wpAny_pure (wpAny_throw (q _ _ (((Heap.SameBut.update ..).extBut.push _).push _) ⟨_,Heap.get?_push_size _ rfl,rfl⟩)))
def isIt(b:Bool)(h:Heap)(j t:Addr)(k:Nat):Prop:=match b with
 | true=>h.IsTupleIter j t k
 | false=>h.IsListIter j t k
def xx(b:Bool)(h:Heap)(t:Addr)(ys:Array Value):Prop:=match b with
 | true=>h.IsTuple t ys
 | false=>h.IsList t ys
theorem isIt.obj(x:isIt b h j t k):∃ o,h.get? j=some o/\o.data=.fields #[.ref t,.int k 0]:=by
 cases b<;>(obtain⟨o,e,_,d⟩:=x;exact⟨o,e,d⟩)
theorem isIt.at(x:isIt b h j t k)(f:∀ o,h.get? j=some o->h'.get? j=some o):isIt b h' j t k:=by
 cases b<;>(obtain⟨o,e,r⟩:=x;exact⟨o,f _ e,r⟩)
theorem xx.at(x:xx b h t ys)(f:∀ o,h.get? t=some o->h'.get? t=some o):xx b h' t ys:=by
 cases b<;>(obtain⟨o,e,r⟩:=x;exact⟨o,f _ e,r⟩)
theorem xx.lt(x:xx b h t ys):t<h.objs.size:=by
 cases b<;>(obtain⟨o,e,r⟩:=x;exact Heap.lt_size e)
abbrev TI(b:Bool)(h:Heap)(j t:Addr)(k:Nat)(ys:Array Value):Prop:=isIt b h j t k/\xx b h t ys
theorem TI.at(x:TI b h j t k ys)(f:∀ c o,(c=j\/c=t)->h.get? c=some o->h'.get? c=some o):TI b h' j t k ys:=⟨x.1.at λ o=>f _ o (.inl rfl),x.2.at λ o=>f _ o (.inr rfl)⟩
theorem oK(st:TI b s.heap j t k ys)(hn:t≠j)(hy:ys[k]? =some y)
  (q:∀ h',TI b h' j t (k+1) ys->Heap.SameBut j s.heap h'->Q y {s with heap:=h'}):wpAny (model prog w) A (Builtin.SmallTypes.nextOf (.ref j)) Q E s:=by
 cases b with
 | true=>exact abJ st hn hy q
 | false=>exact wpAny_nextOf_list_item st.1 st.2 hy λ h' i sb=>q h' ⟨i,Heap.IsList.extBut st.2 sb.extBut hn⟩ sb
theorem yS(hh:A.handled=none)(st:TI b s.heap j t k ys)(hy:ys[k]? =none)
  (q:∀ h' x,Heap.ExtBut j s.heap h'->(∃ o,h'.get? x=some o/\o.cls=.type "StopIteration")->E (.ref x) {s with heap:=h'}):wpAny (model prog w) A (Builtin.SmallTypes.nextOf (.ref j)) Q E s:=by
 cases b with
 | true=>exact adU hh st hy q
 | false=>exact wpAny_nextOf_list_end hh st.1 st.2 hy q
structure Zs(p q:Bool)(h:Heap)(z T O i j a b:Addr)(f:Value)(k1 k2:Nat)(xs ys:Array Value)(u v:Value):Prop where
 z:IsZip h z T O f
 t:IsPair h T (.ref i) (.ref j)
 o:IsPair h O u v
 i:TI p h i a k1 xs
 j:TI q h j b k2 ys
theorem next_item(D:ZipApart z T O i j a b)(Z:Zs p₁ p₂ s.heap z T O i j a b .none k k xs ys u v)(hx:xs[k]? =some x)(hy:ys[k]? =some y)
  (q:∀ h',Zs p₁ p₂ h' z T O i j a b (rawInt s.heap.objs.size) (k+1) (k+1) xs ys x y->IsPair h' s.heap.objs.size x y ->
   (∀ c o,c≠z->c≠O->c≠i->c≠j->s.heap.get? c=some o->h'.get? c=some o)->Q (some (.ref s.heap.objs.size)) {s with heap:=h'}):wpAny (model prog w) A (pyNext (.ref z)) Q E s:=by
 have hT:s.TypeIs (.ref z) "zip":= ⟨_,Z.z,rfl⟩;unfold pyNext;refine wpAny_bind (wpAny_attempt (wpAny_callSpecial?_slot (name:=Str.ofString "__next__") hT F.slot_zip_next (wpAny_call_entry F.slot_zip_next hT F.entry_zip_next ?_ (F.args_zip_next_1 _))));show wpAny _ _ (field (.ref z) 2 >>= _) _ _ _;refine wpAny_bind (wpAny_field Z.z rfl (x:=.bool false) rfl ?_);show wpAny _ _ (field (.ref z) 3 >>= _) _ _ _;refine wpAny_bind (wpAny_field Z.z rfl (x:=.ref T) rfl (wpAny_bind (wpAny_seqItems Z.t rfl ?_)));show wpAny _ _ (Builtin.SmallTypes.ownedTupleIsFree (.ref z) >>= _) _ _ _;refine wpAny_bind ?_;unfold Builtin.SmallTypes.ownedTupleIsFree;refine wpAny_bind (wpAny_field Z.z rfl (x:=.none) rfl (wpAny_pure ?_));simp only[if_true];refine wpAny_bind (wpAny_rule (wpAny_bind (wpAny_field Z.z rfl (x:=.ref O) rfl (wpAny_bind (wpAny_setField_rec Z.z (by simp) λ g1 z1 s1=>?_)))));replace z1:IsZip g1 z T O .ellipsis:=z1;refine wpAny_bind ?_;simp only[List.zipIdx_cons,List.zipIdx_nil,List.forIn_cons,List.forIn_nil];have i1:TI p₁ g1 i a k xs:=Z.i.at λ c o hc q=>s1.extBut _ _ (by rcases hc with rfl | rfl;exact D.i1z;exact D.l1z) q;have j1:TI p₂ g1 j b k ys:=Z.j.at λ c o hc q=>s1.extBut _ _ (by rcases hc with rfl | rfl;exact D.i2z;exact D.l2z) q;refine wpAny_bind (wpAny_bind (wpAny_onRaise ?_));show wpAny _ _ (Builtin.SmallTypes.nextOf (.ref i) >>= _) _ _ _;refine wpAny_bind (oK i1 D.l1i1 hx λ g2 i2 s2=>wpAny_pure ?_);have o2:IsPair g2 O u v:=s2.extBut _ _ D.TOi1 (s1.extBut _ _ D.TOz Z.o);refine wpAny_bind (wpAny_seqItems o2 rfl (wpAny_bind (wpAny_updateSeq_pair o2 λ g3 o3 s3=>wpAny_bind (wpAny_letGo (wpAny_pure ?_)))));replace o3:IsPair g3 O x v:=o3;have j3:TI p₂ g3 j b k ys:=j1.at λ c o hc q=>s3.extBut _ _ (by rcases hc with rfl | rfl;exact D.TOi2.symm;exact D.l2TO) (s2.extBut _ _ (by rcases hc with rfl | rfl;exact D.i12.symm;exact D.l2i1) q);refine wpAny_bind (wpAny_bind (wpAny_onRaise ?_));show wpAny _ _ (Builtin.SmallTypes.nextOf (.ref j) >>= _) _ _ _;refine wpAny_bind (oK j3 D.l2i2 hy λ g4 j4 s4=>wpAny_pure ?_);have o4:IsPair g4 O x v:=s4.extBut _ _ D.TOi2 o3;refine wpAny_bind (wpAny_seqItems o4 rfl (wpAny_bind (wpAny_updateSeq_pair o4 λ g5 o5 s5=>wpAny_bind (wpAny_letGo (wpAny_pure (wpAny_pure ?_))))));replace o5:IsPair g5 O x y:=o5;refine wpAny_bind (wpAny_seqItems o5 rfl (wpAny_bind (wpAny_newTuple ?_)));have sz:g5.objs.size=s.heap.objs.size:=by rw[s5.1,s4.1,s3.1,s2.1,s1.1]
 have z5:IsZip g5 z T O .ellipsis:=s5.extBut _ _ D.TOz.symm (s4.extBut _ _ D.i2z.symm (s3.extBut _ _ D.TOz.symm (s2.extBut _ _ D.i1z.symm z1)));have k5:∀ c o,c≠z->c≠O->c≠i->c≠j->s.heap.get? c=some o->g5.get? c=some o:=λ c o c1 c2 c3 c4 e=>s5.extBut _ _ c2 (s4.extBut _ _ c4 (s3.extBut _ _ c2 (s2.extBut _ _ c3 (s1.extBut _ _ c1 e))));have i5:TI p₁ g5 i a (k+1) xs:=i2.at λ c o hc q=>s5.extBut _ _ (by rcases hc with rfl | rfl;exact D.TOi1.symm;exact D.l1TO) (s4.extBut _ _ (by rcases hc with rfl | rfl;exact D.i12;exact D.l1i2) (s3.extBut _ _ (by rcases hc with rfl | rfl;exact D.TOi1.symm;exact D.l1TO) q));have j5:TI p₂ g5 j b (k+1) ys:=j4.at λ c o hc q=>s5.extBut _ _ (by rcases hc with rfl | rfl;exact D.TOi2.symm;exact D.l2TO) q;have zlt:z<g5.objs.size:=Heap.lt_size z5;show wpAny _ _ (Builtin.SmallTypes.ownedTupleHandOut (.ref z) (.ref g5.objs.size) >>= _) _ _ _;refine wpAny_bind ?_;unfold Builtin.SmallTypes.ownedTupleHandOut;have z6:IsZip (g5.push {cls:=.type "tuple",data:=.seq #[x,y]}) z T O .ellipsis:=Heap.get?_push_of_some _ z5;refine wpAny_bind (wpAny_setField_rec z6 (by simp) λ g7 z7 s7=>?_);replace z7:IsZip g7 z T O (rawInt g5.objs.size):=z7;refine wpAny_setField_rec z7 (by simp) λ g8 z8 s8=>?_;replace z8:IsZip g8 z T O (rawInt g5.objs.size):=z8;have up:∀ c o,c≠z->g5.get? c=some o->g8.get? c=some o:=λ c o c1 e=>s8.extBut _ _ c1 (s7.extBut _ _ c1 (Heap.get?_push_of_some _ e));have t8:IsPair g8 g5.objs.size x y:=s8.extBut _ _ (Nat.ne_of_gt zlt) (s7.extBut _ _ (Nat.ne_of_gt zlt) (Heap.get?_push_size _ rfl));rw[sz] at z8 t8;refine wpAny_pure ⟨_,rfl,wpAny_pure ?_⟩;show Q (some (.ref g5.objs.size)) _;rw[sz];exact q g8 ⟨z8,up _ _ D.TIz (k5 T _ D.TIz D.TITO D.TIi1 D.TIi2 Z.t),up _ _ D.TOz o5,i5.at λ c o hc q=>up _ o (by rcases hc with rfl | rfl;exact D.i1z;exact D.l1z) q,j5.at λ c o hc q=>up _ o (by rcases hc with rfl | rfl;exact D.i2z;exact D.l2z) q⟩ t8 λ c o c1 c2 c3 c4 e=>up c o c1 (k5 c o c1 c2 c3 c4 e)
theorem next_end(hh:A.handled=none)(D:ZipApart z T O i j a b)(Z:Zs p₁ p₂ s.heap z T O i j a b .none k k xs ys u v)(hx:xs[k]? =none\/ys[k]? =none)
  (q:∀ h',(∀ c o,c≠z->c≠O->c≠i->c≠j->s.heap.get? c=some o->h'.get? c=some o)->Q none {s with heap:=h'}):wpAny (model prog w) A (pyNext (.ref z)) Q E s:=by
 have hT:s.TypeIs (.ref z) "zip":= ⟨_,Z.z,rfl⟩;have fin:∀ h' x,(∀ c o,c≠z->c≠O->c≠i->c≠j->s.heap.get? c=some o->h'.get? c=some o)->(∃ o,h'.get? x=some o/\o.cls=.type "StopIteration") ->
   wpAny (model prog w) A (do if (<- PySem.isInstance (.ref x) (.type "StopIteration")) then pure none else throw (.ref x)) Q E {s with heap:=h'}:=λ h' x kp ⟨o,ho,hc⟩ =>
  wpAny_bind (wpAny_isInstance (T:= "StopIteration") (b:=true) ⟨o,ho,hc⟩ isSubtype_stop (wpAny_pure (q _ kp)))
 unfold pyNext;refine wpAny_bind (wpAny_attempt (wpAny_callSpecial?_slot (name:=Str.ofString "__next__") hT F.slot_zip_next (wpAny_call_entry F.slot_zip_next hT F.entry_zip_next ?_ (F.args_zip_next_1 _))));show wpAny _ _ (field (.ref z) 2 >>= _) _ _ _;refine wpAny_bind (wpAny_field Z.z rfl (x:=.bool false) rfl ?_);show wpAny _ _ (field (.ref z) 3 >>= _) _ _ _;refine wpAny_bind (wpAny_field Z.z rfl (x:=.ref T) rfl (wpAny_bind (wpAny_seqItems Z.t rfl ?_)));show wpAny _ _ (Builtin.SmallTypes.ownedTupleIsFree (.ref z) >>= _) _ _ _;refine wpAny_bind ?_;unfold Builtin.SmallTypes.ownedTupleIsFree;refine wpAny_bind (wpAny_field Z.z rfl (x:=.none) rfl (wpAny_pure ?_));simp only[if_true];refine wpAny_bind (wpAny_rule (wpAny_bind (wpAny_field Z.z rfl (x:=.ref O) rfl (wpAny_bind (wpAny_setField_rec Z.z (by simp) λ g1 z1 s1=>?_)))));replace z1:IsZip g1 z T O .ellipsis:=z1;refine wpAny_bind ?_;simp only[List.zipIdx_cons,List.zipIdx_nil,List.forIn_cons,List.forIn_nil];have i1:TI p₁ g1 i a k xs:=Z.i.at λ c o hc q=>s1.extBut _ _ (by rcases hc with rfl | rfl;exact D.i1z;exact D.l1z) q;have j1:TI p₂ g1 j b k ys:=Z.j.at λ c o hc q=>s1.extBut _ _ (by rcases hc with rfl | rfl;exact D.i2z;exact D.l2z) q;refine wpAny_bind (wpAny_bind (wpAny_onRaise ?_));show wpAny _ _ (Builtin.SmallTypes.nextOf (.ref i) >>= _) _ _ _;cases ex:xs[k]? with
 | none =>
  refine wpAny_bind (yS hh i1 ex λ g2 x s2 hq89=>?_);obtain⟨ox,hox,hcx⟩:=hq89;have z2:IsZip g2 z T O .ellipsis:=s2 _ _ D.i1z.symm z1;have hxz:x≠z:=λ e=>by subst e;rw[z2] at hox;cases hox;simp at hcx
  refine wpAny_setField_rec z2 (by simp) λ g3 _ s3=>fin g3 x (λ c o c1 _ c3 _ e=>s3.extBut _ _ c1 (s2 _ _ c3 (s1.extBut _ _ c1 e))) ⟨ox,s3.extBut _ _ hxz hox,hcx⟩
 | some x0 =>
  have ey:ys[k]? =none:=by rcases hx with h | h;rw[ex] at h;cases h;exact h
  refine wpAny_bind (oK i1 D.l1i1 ex λ g2 i2 s2=>wpAny_pure ?_);have o2:IsPair g2 O u v:=s2.extBut _ _ D.TOi1 (s1.extBut _ _ D.TOz Z.o);refine wpAny_bind (wpAny_seqItems o2 rfl (wpAny_bind (wpAny_updateSeq_pair o2 λ g3 o3 s3=>wpAny_bind (wpAny_letGo (wpAny_pure ?_)))));have j3:TI p₂ g3 j b k ys:=j1.at λ c o hc q=>s3.extBut _ _ (by rcases hc with rfl | rfl;exact D.TOi2.symm;exact D.l2TO) (s2.extBut _ _ (by rcases hc with rfl | rfl;exact D.i12.symm;exact D.l2i1) q);refine wpAny_bind (wpAny_bind (wpAny_onRaise ?_));show wpAny _ _ (Builtin.SmallTypes.nextOf (.ref j) >>= _) _ _ _;refine wpAny_bind (yS hh j3 ey λ g4 x s4 hq90=>?_);obtain⟨ox,hox,hcx⟩:=hq90;have z4:IsZip g4 z T O .ellipsis:=s4 _ _ D.i2z.symm (s3.extBut _ _ D.TOz.symm (s2.extBut _ _ D.i1z.symm z1));have hxz:x≠z:=λ e=>by subst e;rw[z4] at hox;cases hox;simp at hcx
  refine wpAny_setField_rec z4 (by simp) λ g5 _ s5=>fin g5 x (λ c o c1 c2 c3 c4 e=>s5.extBut _ _ c1 (s4 _ _ c4 (s3.extBut _ _ c2 (s2.extBut _ _ c3 (s1.extBut _ _ c1 e))))) ⟨ox,s5.extBut _ _ hxz hox,hcx⟩
def itN(b:Bool):String:=match b with
 | true => "tuple_iterator"
 | false => "list_iterator"
theorem lB(p q:Bool)(e:p=true)(a b:Addr)(xs ys:Array Value):Meets (Builtin.«zip.__new__» ⟨[.type "zip",.ref a,.ref b],[]⟩) (λ _ R s=>xx p s.heap a xs/\xx q s.heap b ys /\
   R (.ok (.ret (.ref (s.heap.objs.size+4)))) {s with heap:=((((s.heap.push {cls:=.type (itN p),data:=.fields #[.ref a,.int 0 0]}).push {cls:=.type (itN q),data:=.fields #[.ref b,.int 0 0]}).push {cls:=.type "tuple",data:=.seq #[.ref s.heap.objs.size,.ref (s.heap.objs.size+1)]}).push {cls:=.type "tuple",data:=.seq #[.none,.none]}).push {cls:=.type "zip",data:=.fields #[.none,.bool false,.bool false,.ref (s.heap.objs.size+2),.ref (s.heap.objs.size+3)]}}):=
 .of_wp λ prog w A R s h=>by
  obtain⟨hp,g,d,tk,os⟩:=s;obtain⟨ha,hb,h⟩:=h;have hsub:=sub_zip;subst e
  ·have h1:Heap.IsTuple (Shared.heap ⟨hp,g,d,tk,os⟩) a xs:=ha;cases q with
   | true =>
    have h2:Heap.IsTuple (Shared.heap ⟨hp.push {cls:=.type "tuple_iterator",data:=.fields #[.ref a,.int 0 0]},g,d,tk,os⟩) b ys:=Heap.IsTuple.push hb _
    wp_walk using wpAny_pyIter_tuple h1,wpAny_pyIter_tuple h2
    refine⟨_,rfl,?_⟩;simp only[Heap.size_push];exact h
   | false =>
    have h2:Heap.IsList (Shared.heap ⟨hp.push {cls:=.type "tuple_iterator",data:=.fields #[.ref a,.int 0 0]},g,d,tk,os⟩) b ys:=Heap.IsList.push hb _
    wp_walk using wpAny_pyIter_tuple h1,wpAny_pyIter_list h2
    refine⟨_,rfl,?_⟩;simp only[Heap.size_push];exact h
theorem nW(hp₁:p₁=true)(ha:xx p₁ s.heap a xs)(hb:xx p₂ s.heap b ys)
  (h:∀ h',Zs p₁ p₂ h' (s.heap.objs.size+4) (s.heap.objs.size+2) (s.heap.objs.size+3) s.heap.objs.size (s.heap.objs.size+1) a b .none 0 0 xs ys .none .none ->
   (∀ c o,s.heap.get? c=some o->h'.get? c=some o)->Q (.ref (s.heap.objs.size+4)) {s with heap:=h'}) :
  wpAny (model prog w) A (call (.type "zip") [.ref a,.ref b]) Q E s:=by
 refine callType_new F.called_zip (by decide) (F.typeCall_zip_2 _ _) (F.newCall_zip_2 _ _) (λ obj=>F.args_object_init_3 obj _ _) F.entry_zip_new (lB p₁ p₂ hp₁ a b xs ys) ⟨ha,hb,?_⟩;generalize e1:s.heap.push {cls:=.type (itN p₁),data:=.fields #[.ref a,.int 0 0]}=g1;have z1:g1.objs.size=s.heap.objs.size+1:=by rw[<- e1];exact Heap.size_push ..
 have n1:g1.get? s.heap.objs.size=some {cls:=.type (itN p₁),data:=.fields #[.ref a,.int 0 0]}:=by rw[<- e1];exact Heap.get?_push_size _ rfl
 have k1:∀ c o,s.heap.get? c=some o->g1.get? c=some o:=λ c o q=>by rw[<- e1];exact Heap.get?_push_of_some _ q
 generalize e2:g1.push {cls:=.type (itN p₂),data:=.fields #[.ref b,.int 0 0]}=g2;have z2:g2.objs.size=s.heap.objs.size+2:=by rw[<- e2,Heap.size_push,z1]
 have n2:g2.get? (s.heap.objs.size+1)=some {cls:=.type (itN p₂),data:=.fields #[.ref b,.int 0 0]}:=by rw[<- e2,<- z1];exact Heap.get?_push_size _ rfl
 have k2:∀ c o,g1.get? c=some o->g2.get? c=some o:=λ c o q=>by rw[<- e2];exact Heap.get?_push_of_some _ q
 generalize e3:g2.push {cls:=.type "tuple",data:=.seq #[.ref s.heap.objs.size,.ref (s.heap.objs.size+1)]}=g3;have z3:g3.objs.size=s.heap.objs.size+3:=by rw[<- e3,Heap.size_push,z2]
 have n3:g3.get? (s.heap.objs.size+2)=some {cls:=.type "tuple",data:=.seq #[.ref s.heap.objs.size,.ref (s.heap.objs.size+1)]}:=by rw[<- e3,<- z2];exact Heap.get?_push_size _ rfl
 have k3:∀ c o,g2.get? c=some o->g3.get? c=some o:=λ c o q=>by rw[<- e3];exact Heap.get?_push_of_some _ q
 generalize e4:g3.push {cls:=.type "tuple",data:=.seq #[.none,.none]}=g4;have z4:g4.objs.size=s.heap.objs.size+4:=by rw[<- e4,Heap.size_push,z3]
 have n4:g4.get? (s.heap.objs.size+3)=some {cls:=.type "tuple",data:=.seq #[.none,.none]}:=by rw[<- e4,<- z3];exact Heap.get?_push_size _ rfl
 have k4:∀ c o,g3.get? c=some o->g4.get? c=some o:=λ c o q=>by rw[<- e4];exact Heap.get?_push_of_some _ q
 generalize e5:g4.push {cls:=.type "zip",data:=.fields #[.none,.bool false,.bool false,.ref (s.heap.objs.size+2),.ref (s.heap.objs.size+3)]}=g5;have n5:g5.get? (s.heap.objs.size+4)=some {cls:=.type "zip",data:=.fields #[.none,.bool false,.bool false,.ref (s.heap.objs.size+2),.ref (s.heap.objs.size+3)]}:=by rw[<- e5,<- z4];exact Heap.get?_push_size _ rfl
 have k5:∀ c o,g4.get? c=some o->g5.get? c=some o:=λ c o q=>by rw[<- e5];exact Heap.get?_push_of_some _ q
 have kk:∀ c o,s.heap.get? c=some o->g5.get? c=some o:=λ c o q=>k5 _ _ (k4 _ _ (k3 _ _ (k2 _ _ (k1 _ _ q))));refine⟨⟨_,n5,rfl⟩,h g5 ⟨n5,k5 _ _ (k4 _ _ n3),k5 _ _ n4,⟨?_,ha.at λ o=>kk _ o⟩,?_,hb.at λ o=>kk _ o⟩ kk⟩
 ·cases p₁<;>exact⟨_,k5 _ _ (k4 _ _ (k3 _ _ (k2 _ _ n1))),rfl,rfl⟩
 ·cases p₂<;>exact⟨_,k5 _ _ (k4 _ _ (k3 _ _ n2)),rfl,rfl⟩
end ZT
namespace D
open L2
def SqB(b:Bool)(K:FG)(H:Hp)(a:Addr)(xs:List V):Prop:=match b with
 | true=>SqT K H a xs
 | false=>SqL K H a xs
theorem Inv.sqB(I:Inv X pins σ H s)(h:SqB b X.K H a xs):∃ its:List Value,Vals xs its/\ZT.xx b s.heap a its.toArray:=by
 cases b with
 | true=>obtain⟨its,r,p,_⟩:=I.tuple h;exact⟨its,r,p⟩
 | false=>obtain⟨its,r,p,_⟩:=I.list h;exact⟨its,r,p.isList⟩
theorem Inv.sP(I:Inv X pins σ H s)(h:SqB b X.K H a xs)(h':SqB b X.K H a ys):xs=ys:=by
 cases b with
 | true=>exact I.qt h h'
 | false=>exact I.uC h h'
def ajx(p q:Bool)(K:FG)(a b:Addr):It:=
 ⟨λ i H=>∃ xs ys x y,SqB p K H a xs/\SqB q K H b ys/\xs[i]? =some x/\ys[i]? =some y,
  λ i H x H'=>∃ T u v,H T=none/\x=.ref T/\H'=upd H T (.tup [u,v])/\(∀ xs,SqB p K H a xs->xs[i]? =some u)/\∀ ys,SqB q K H b ys->ys[i]? =some v,
  λ i H=>∃ xs ys,SqB p K H a xs/\SqB q K H b ys/\(xs.length<=i\/ys.length<=i)⟩
theorem wC{p₁ p₂:Bool}{P:Program}{w:World}{K:FG}{elts:List Expr}{x1:Nat}{tpos:Pos}{z TI TO i1 i2 a b:Addr}(Dz:ZipApart z TI TO i1 i2 a b) :
  Turn P w K (.Tuple elts x1 tpos) (ajx p₁ p₂ K a b) [z,TI,TO,i1,i2] z (λ i h=>IsZip h z TI TO .none/\IsPair h TI (.ref i1) (.ref i2)/\(∃ u v,IsPair h TO u v)/\ZT.isIt p₁ h i1 a i/\ZT.isIt p₂ h i2 b i) where
 mem:=by simp
 obj:=λ i h ⟨hz,hTI,⟨u,v,hTO⟩,x1,x2⟩ c hc=>by
  obtain⟨o1,e1,d1⟩:=x1.obj;obtain⟨o2,e2,d2⟩:=x2.obj;have q:c=z\/c=TI\/c=TO\/c=i1\/c=i2:=by simpa using hc
  rcases q with rfl | rfl | rfl | rfl | rfl
  ·exact⟨_,hz,λ v q=>by cases q⟩
  ·exact⟨_,hTI,λ v q=>by cases q⟩
  ·exact⟨_,hTO,λ v q=>by cases q⟩
  ·exact⟨o1,e1,λ v q=>by rw[d1] at q;cases q⟩
  ·exact⟨o2,e2,λ v q=>by rw[d2] at q;cases q⟩
 keep:=λ i h h' ⟨hz,hTI,⟨u,v,hTO⟩,x1,x2⟩ k=>⟨k z (by simp) _ hz,k TI (by simp) _ hTI,⟨u,v,k TO (by simp) _ hTO⟩,x1.at λ o e=>k i1 (by simp) _ e,x2.at λ o e=>k i2 (by simp) _ e⟩
 item:=by
  intro X hP hw hK hc i pins s σ H E I hf ⟨hz,hTI,⟨u0,v0,hTO⟩,l1,l2⟩ ⟨xs,ys,x,y,hq1,hq2,hx,hy⟩;subst hP hw hK;obtain⟨its1,rv1,p1⟩:=Inv.sqB I hq1;obtain⟨its2,rv2,p2⟩:=Inv.sqB I hq2;obtain⟨u,hu,ru⟩:=rv1.get hx;obtain⟨v,hv,rv⟩:=rv2.get hy;refine ZT.next_item Dz (xs:=its1.toArray) (ys:=its2.toArray) ⟨hz,hTI,hTO,⟨l1,p1⟩,l2,p2⟩ (x:=u) (y:=v) (by simpa using hu) (by simpa using hv) λ h' Z' hT kp=>?_;refine⟨_,rfl,wpAny_letOwnedTupleGo_zip Z'.z λ h'' hz'' sb=>?_⟩;obtain⟨t0,t1,t2,t3,t4,t5⟩:=I.rL (Nat.le_refl _) (I.hok.fresh (Nat.le_refl _));have nT:s.heap.objs.size≠z:=Nat.ne_of_gt (Heap.lt_size hz);have nTO:s.heap.objs.size≠TO:=Nat.ne_of_gt (Heap.lt_size hTO);have n1:s.heap.objs.size≠i1:=by obtain⟨o,e,_⟩:=l1.obj;exact Nat.ne_of_gt (Heap.lt_size e)
  have n2:s.heap.objs.size≠i2:=by obtain⟨o,e,_⟩:=l2.obj;exact Nat.ne_of_gt (Heap.lt_size e)
  have nTI:s.heap.objs.size≠TI:=Nat.ne_of_gt (Heap.lt_size hTI);have I1:Inv X pins σ H {s with heap:=h'',toks:=s.toks}:=Inv.nL (ch:=[z,TI,TO,i1,i2]) I (λ c ob hc q=>by simp only[List.mem_cons,List.not_mem_nil,or_false,not_or] at hc;exact(sb.2 c hc.1).trans (kp c ob hc.1 hc.2.2.1 hc.2.2.2.1 hc.2.2.2.2 q)) hf
  have eT:h''.get? s.heap.objs.size=some {cls:=.type "tuple",data:=.seq #[u,v]}:=(sb.2 _ nT).trans hT;have I2:=Inv.xZ (us:=[u,v]) (ys:=[x,y]) I1 eT t0 (.cons ru (.cons rv .nil)) (by simp;have:=s16;omega) t3 t1 t4 t5;refine⟨.ref s.heap.objs.size,_,I2,rfl,⟨_,x,y,t0,rfl,rfl,λ zs hz=>by rw[Inv.sP I hz hq1];exact hx,λ zs hz=>by rw[Inv.sP I hz hq2];exact hy⟩,⟨hz'',(sb.2 _ Dz.TIz).trans Z'.t,⟨u,v,(sb.2 _ Dz.TOz).trans Z'.o⟩,?_,?_⟩,λ c hc=>?_⟩
  ·exact Z'.i.1.at λ o e=>(sb.2 i1 Dz.i1z).trans e
  ·exact Z'.j.1.at λ o e=>(sb.2 i2 Dz.i2z).trans e
  ·have q:c=z\/c=TI\/c=TO\/c=i1\/c=i2:=by simpa using hc
   have hn:c≠s.heap.objs.size:=by rcases q with rfl | rfl | rfl | rfl | rfl<;>(intro e;first | exact nT e.symm | exact nTI e.symm | exact nTO e.symm | exact n1 e.symm | exact n2 e.symm)
   rw[aq hn];exact(hf c hc).1
 done:=by
  intro X hP hw hK hc i pins s σ H E I hf ⟨hz,hTI,⟨u0,v0,hTO⟩,l1,l2⟩ ⟨xs,ys,hq1,hq2,hx⟩;subst hP hw hK;obtain⟨its1,rv1,p1⟩:=Inv.sqB I hq1;obtain⟨its2,rv2,p2⟩:=Inv.sqB I hq2;have e1:=rv1.length;have e2:=rv2.length;refine ZT.next_end (I.ok.hd hc) Dz (xs:=its1.toArray) (ys:=its2.toArray) ⟨hz,hTI,hTO,⟨l1,p1⟩,l2,p2⟩ ?_ λ h' eb=>⟨rfl,Inv.nL (t':=s.toks) (ch:=[z,TI,TO,i1,i2]) I (λ c ob hc q=>by simp only[List.mem_cons,List.not_mem_nil,or_false,not_or] at hc;exact eb c ob hc.1 hc.2.2.1 hc.2.2.2.1 hc.2.2.2.2 q) hf⟩
  rcases hx with hx | hx
  ·exact .inl (by simp;omega)
  ·exact .inr (by simp;omega)
 self:=λ _ _ _ _ _ ⟨hz,_⟩ h=>wpAny_pyIter_zip hz h
def ah0(p q:Bool)(K:FG)(ta:TA):TI:=λ σ H R=>ta σ H λ vs H1=>∃ c d xs ys,vs=[.ref c,.ref d]/\SqB p K H1 c xs/\SqB q K H1 d ys/\R (ajx p q K c d) H1
theorem acN{p₁ p₂:Bool}(hp₁:p₁=true){elts:List Expr}{x1:Nat}{tpos:Pos}(hg:Gl X "zip")(hm:X.mg "zip" = none)(ha:PA X [a,b] ta)(hs:starEach [a,b] X.env=(false,eval a X.env)::starEach [b] X.env:=by rfl)(hpl:(backTo pos (starEach [b] X.env)).any (·.1)=false:=by rfl) :
  PI X (.Tuple elts x1 tpos) (.Call (.Name "zip" p) [a,b] [] pos) (ah0 p₁ p₂ X.K ta):=by
 intro pins s σ H R I h;refine Call_ (lE I hg hm abY (PyProof.Rows.callWith_type1 (thn (ha pos pins s σ H _ I h) λ us s1 ⟨vs,H1,I1,r1,q1⟩=>?_) hs hpl));obtain⟨c,d,xs,ys,e,hq1,hq2,q⟩:=q1;subst e;obtain⟨v1,v2,rfl,rr1,rr2⟩:=vals2 r1;cases (show _=Value.ref c from rr1);cases (show _=Value.ref d from rr2);obtain⟨its1,rv1,p1⟩:=Inv.sqB I1 hq1;obtain⟨its2,rv2,p2⟩:=Inv.sqB I1 hq2;have a1:c<s1.heap.objs.size:=p1.lt;have a2:d<s1.heap.objs.size:=p2.lt;refine ZT.nW hp₁ p1 p2 λ h' Z kp=>?_;have I2:Inv X pins σ H1 {s1 with heap:=h'}:=I1.kept (t':=s1.toks) kp;refine wpAny_pyIter_zip Z.z ?_;refine⟨_,[_,_,_,_,_],_,_,H1,rfl,I2,wC (zipApart_new a1 a2),⟨Z.z,Z.t,⟨_,_,Z.o⟩,Z.i.1,Z.j.1⟩,λ e he=>?_,q⟩;have z:s1.heap.objs.size<=e:=by
  have z:e=s1.heap.objs.size+4\/e=s1.heap.objs.size+2\/e=s1.heap.objs.size+3\/e=s1.heap.objs.size\/e=s1.heap.objs.size+1:=by simpa using he
  rcases z with z | z | z | z | z<;>rw[z]<;>first | exact Nat.le_refl _ | exact Nat.le_add_right _ _
 exact I1.rL z (I1.hok.fresh z)
section
variable {X:Cx}{K:FG}{a b:Expr}{p pos:Pos}{t:TAd}
def sqD(b:Bool)(ds:List PyData):PyData:=match b with
 | true=>.tuple ds
 | false=>.list ds
theorem sC{b:Bool}{ds:List PyData}{v:V}(r:aC K H (sqD b ds) v):∃ c xs,v=.ref c/\SqB b K H c xs/\(∀ H',Kp H H'->SqB b K H' c xs)/\bo K H ds xs:=by
 cases b with
 | true =>
  simp only[sqD,aC] at r;obtain⟨c,xs,e,h1,h2⟩:=r;exact⟨c,xs,e,h1,λ H' k=>SqT.keep k h1,h2⟩
 | false =>
  simp only[sqD,aC] at r;obtain⟨c,xs,e,h1,h2⟩:=r;exact⟨c,xs,e,h1.sq,λ H' k=>(h1.keep k).sq,h2⟩
def aic(p q:Bool)(t:TAd)(τ:DS)(M:MH)(R:List W->MH->Prop):Prop:=t τ M λ ws M1=>∃ ds es,ws=[.d (sqD p ds),.d (sqD q es)]/\R (rB ds es) M1
def afS(t:TAd)(τ:DS)(M:MH)(R:List W->MH->Prop):Prop:=t τ M λ ws M1=>∃ ds es,ws=[.d (.tuple ds),.d (.tuple es)]/\R (rB ds es) M1
def ab6(t:TAd)(τ:DS)(M:MH)(R:List W->MH->Prop):Prop:=t τ M λ ws M1=>∃ ds es,ws=[.d (.tuple ds),.d (.list es)]/\R (rB ds es) M1
theorem uG{p₁ p₂:Bool}(hp₁:p₁=true){elts:List Expr}{x1:Nat}{tpos:Pos}(hg:Gl X "zip")(hm:X.mg "zip" = none)(ha:PAd X [a,b] t)(h1:dZ a=false:=by rfl)(h2:([b].all λ e=>!dZ e)=true:=by rfl) :
  PId X (.Tuple elts x1 tpos) (.Call (.Name "zip" p) [a,b] [] pos) (aic p₁ p₂ t):=afc (acN hp₁ hg hm ha (bH a [b] X.env h1) (cL pos X.env [b] h2)) λ σ H R hq91=>by
 obtain⟨τ,M,Rd,A,h,k⟩:=hq91;refine⟨τ,M,_,A,h,λ vs H1 ws M1 kp r m hq92=>?_⟩;obtain⟨ds,es,ew,q⟩:=hq92;subst ew;obtain⟨v,v',ev,r1,r2⟩:=mw r;obtain⟨c,xs,e1,hs,ks,ra⟩:=sC r1;obtain⟨d,ys,e2,hs',ks',ra'⟩:=sC r2;subst e1 e2;have hl:=ra.length;have hl':=ra'.length;refine⟨c,d,xs,ys,ev,hs,hs',k _ H1 _ M1 kp m (λ H2 kp2 i=>?_) q⟩;have hs2:=ks _ kp2;have hs2':=ks' _ kp2;have hlw:(rB ds es).length=min xs.length ys.length:=by simp[rB,hl,hl']
 refine⟨λ hi=>⟨xs,ys,xs[i]'(by omega),ys[i]'(by omega),hs2,hs2',by simp,by simp⟩,λ hi=>⟨xs,ys,hs2,hs2',by omega⟩,λ x H' hi hq93=>?_⟩;obtain⟨T,u,v,hT,ex,eH,hu,hv⟩:=hq93;subst ex eH;have hxu:=hu xs hs2;have hxv:=hv ys hs2';obtain⟨d1,e3,rd⟩:=(ra.keep kp2).get' hxu;obtain⟨d2,e4,rd'⟩:=(ra'.keep kp2).get' hxv;have kpn:Kp H2 (upd H2 T (.tup [u,v])):=Kp.new hT;have hid:i<min ds.length es.length:=by rw[hlw] at hi;omega
 refine⟨kpn,λ M m=>m.new hT,.d (.tuple [ds.getD i .none,es.getD i .none]),by unfold rB;rw[List.getElem?_map,List.getElem?_range hid];rfl,?_⟩;have ed:ds.getD i .none=d1:=by simp[List.getD,e3]
 have ed':es.getD i .none=d2:=by simp[List.getD,e4]
 rw[ed,ed'];simp only[aG,aC,bo];exact⟨T,_,rfl,.inl (.inl ar),_,_,rfl,rd.keep kpn,_,_,rfl,rd'.keep kpn,rfl⟩
end
def rO(ds:List PyData)(d:PyData)(j:Nat):Prop:=j<ds.length/\(∀ y,ds[j]? =some y->PyData.eqv y d=true)/\∀ m y,m<j->ds[m]? =some y->PyData.eqv y d=false
def afD(K:FG):V->List V->Hp->VK->Prop:=λ x vs H Q=>∃ y d ds j,vs=[y]/\aC K H (.tuple ds) x/\i6 K H d y/\lX d ds=true/\rO ds d j/\Q (.int (j:Nat)) H
theorem aaq(hr:fO k X.A):MtM X "tuple.index" (afD X.K):=by
 intro pins s σ H x vs v us Q I rx rv h;obtain⟨y,d,ds,j,rfl,h1,h2,o,⟨j0,j1,j2⟩,q⟩:=h;obtain⟨u,rfl,ru⟩:=rv.one;simp only[lX,pZ,Bool.and_eq_true,Bool.not_eq_true'] at o;obtain⟨⟨o1,o2⟩,o3,o4⟩:=o;obtain⟨as,r2⟩:=cC I d h2 ru o2;obtain⟨bs,r1⟩:=dz I (.tuple ds) h1 rx o4;have c3:PyData.canLayAll0 ds=true:=SeqAt.canLay_of_shaped o3;cases r1 with
 | @tuple a ob its n _ as1 e1 e2 e3 e4 =>
  obtain⟨cls,dd,data,sl⟩:=ob;simp only at e2 e3;subst e2 e3;have em:=SeqAt.readsAll_map ds _ _ c3 e4;have hlen:ds.length=its.size:=by have:=congrArg List.length em;simpa using this.symm
  have hat:∀ m (hm:m<its.size),ds[m]? =some (SeqAt.readOf s.heap its[m]):=λ m hm=>by rw[<- em,List.getElem?_map];simp[hm]
  refine call_meets F.slot_tuple_index ⟨_,e1,rfl⟩ F.entry_tuple_index (F.args_tuple_index_2 _ _) (SeqAt.o6 a its n dd sl u (λ z=>PyData.eqv (SeqAt.readOf s.heap z) d) j (by omega) (j1 _ (hat j (by omega))) (λ m hm hlt=>j2 m _ hlt (hat m hm)))
   ⟨e1,SeqAt.items_eqAt e4 r2 c3 (SeqAt.canLay_of_shaped o1) (i8 hr.h o1),⟨.int _,H,I.tok _,⟨_,rfl⟩,q⟩⟩
def wA(td te:TD)(τ:DS)(M:MH)(Q:QD):Prop:=td τ M λ w M1=>∃ ds,w=.d (.tuple ds)/\te τ M1 λ y M2=>∃ d j,y=.d d/\lX d ds=true/\rO ds d j/\Q (.d (.int (j:Nat))) M2
theorem zv(hg:Gl X "zip")(hm:X.mg "zip" = none)(ha:Jd (PAd X [a,b] t))(h1:dZ a=false:=by rfl)(h2:([b].all λ e=>!dZ e)=true:=by rfl):Jd (PId X (.Tuple elts x1 tpos) (.Call (.Name "zip" p) [a,b] [] pos) (afS t)):=⟨have ha:=ha.h;uG (p₁:=true) (p₂:=true) rfl hg hm ha h1 h2⟩
theorem vc(hg:Gl X "zip")(hm:X.mg "zip" = none)(ha:Jd (PAd X [a,b] t))(h1:dZ a=false:=by rfl)(h2:([b].all λ e=>!dZ e)=true:=by rfl):Jd (PId X (.Tuple elts x1 tpos) (.Call (.Name "zip" p) [a,b] [] pos) (ab6 t)):=⟨have ha:=ha.h;uG (p₁:=true) (p₂:=false) rfl hg hm ha h1 h2⟩
theorem q9(hr:fO k X.A)(ho:Jd (PD X o td))(he:Jd (PD X e te))
  (hbase:attributeBase o "index" X.env (eval o X.env)=eval o X.env:=by rfl)
  (hfew:((backTo cpos (starEach [e] X.env)).all (λ x=>!x.1)&&(backToKw cpos (keywordEach [] X.env)).all (λ x=>x.1.isSome)
   && decide (([e]:List Expr).length+([]:List Keyword).length+(if ([]:List Keyword).isEmpty then 0 else 1)<30))=true:=by rfl)
  (hline:(apos.endLine==cpos.line)=true:=by rfl)(hs:dZ e=false:=by rfl):Jd (PD X (.Call (.Attribute o "index" apos) [e] [] cpos) (wA td te)):=⟨have ho:=ho.h;have he:=he.h;
 fx (qd PySem.F.plainAttrs_tuple PySem.F.slot_tuple_index PySem.F.type_tuple_index (aaq hr) ho (pac he fh hs) hbase hfew hline (bH e [] X.env hs) rfl) λ σ H Q h=>by obtain⟨τ,M,Qd,A,h,k⟩:=h;refine⟨τ,M,_,A,h,λ x H1 w M1 kp1 r1 m1 hq94=>?_⟩;obtain⟨ds,ew,q1⟩:=hq94;subst ew;have r1':=r1;simp only[aG,aC] at r1';obtain⟨a,vs,ex,hsq,ra⟩:=r1';subst ex;refine⟨.inr (.inl ⟨rfl,vs,hsq⟩),τ,M1,adk (λ y M2=>∃ d j,y=.d d/\lX d ds=true/\rO ds d j/\Qd (.d (.int (j:Nat))) M2),A.go kp1 m1,q1,λ ys H2 wys M2 kp2 r2 m2 q2=>?_⟩;obtain⟨y,ey,d,j,ed,ok,hj,q4⟩:=iM q2;subst ey ed;obtain⟨v,ev,rv⟩:=cK r2;subst ev;exact⟨v,d,ds,j,rfl,r1.keep kp2,.inl rv,ok,hj,k _ _ (.d (.int _)) _ (kp1.trans kp2) (by simp[aG,aC]) m2 q4⟩⟩
section
variable {X:Cx}{K:FG}
theorem zK:eU X (.type "str") (λ xs H Q=>(∃ z,xs=[.str z]/\Q (.str z) H)\/∃ i:Int,xs=[.int i]/\i.natAbs.log2<1920/\Q (.str (Str.ofString (toString i))) H):=by
 intro pins s σ H xs us Q I r h;rcases h with ⟨z,rfl,q⟩ | ⟨i,rfl,hi,q⟩
 ·obtain⟨u,rfl,t,rfl⟩:=vals1 r;exact PySem.P.str_of_str ⟨.str z,H,I,⟨_,rfl⟩,q⟩
 ·obtain⟨u,rfl,t,rfl⟩:=vals1 r;exact PySem.P.str_of_int hi ⟨.str _,H,I.tok _,⟨_,rfl⟩,q⟩
def afk(ws:List W)(M:MH)(Q:QD):Prop:=(∃ z,ws=[.d (.str z)]/\Q (.d (.str z)) M)\/∃ i:Int,ws=[.d (.int i)]/\i.natAbs.log2<1920/\Q (.d (.str (Str.ofString (toString i)))) M
theorem afl:fH K (λ xs H Q=>(∃ z,xs=[.str z]/\Q (.str z) H)\/∃ i:Int,xs=[.int i]/\i.natAbs.log2<1920/\Q (.str (Str.ofString (toString i))) H) afk:=by
 intro vs H ws M Qd Q r m h k;rcases h with ⟨z,e,q⟩ | ⟨i,e,hi,q⟩
 ·subst e;obtain⟨v,e1,r1⟩:=cK r;simp only[aG,aC] at r1;subst r1;exact .inl ⟨z,e1,k _ H (.d (.str z)) M (Kp.refl H) (by simp[aG,aC]) m q⟩
 ·subst e;obtain⟨v,e1,r1⟩:=cK r;simp only[aG,aC] at r1;subst r1;exact .inr ⟨i,e1,hi,k _ H (.d (.str _)) M (Kp.refl H) (by simp[aG,aC]) m q⟩
theorem wx:eU X (.type "int") (λ xs H Q=>∃ z n,xs=[.str z]/\PySem.intText? z=some n/\z.length<=640/\Q (.int n) H):=by intro pins s σ H xs us Q I r h;obtain⟨z,n,rfl,hz,hl,q⟩:=h;obtain⟨u,rfl,t,rfl⟩:=vals1 r;exact W.KIN.call_text hz hl ⟨.int n,H,I.tok _,⟨_,rfl⟩,q⟩
def yr(ws:List W)(M:MH)(Q:QD):Prop:=∃ z n,ws=[.d (.str z)]/\PySem.intText? z=some n/\z.length<=640/\Q (.d (.int n)) M
theorem aeC:fH K (λ xs H Q=>∃ z n,xs=[.str z]/\PySem.intText? z=some n/\z.length<=640/\Q (.int n) H) yr:=by intro vs H ws M Qd Q r m ⟨z,n,e,hz,hl,q⟩ k;subst e;obtain⟨v,e1,r1⟩:=cK r;simp only[aG,aC] at r1;subst r1;exact⟨z,n,e1,hz,hl,k _ H (.d (.int n)) M (Kp.refl H) (by simp[aG,aC]) m q⟩
end
theorem zA(hy:(y.length==0)=false)(hsz:x.length+2<=sizeLine)
  (h:∀ l tk,l.map (·.1)=Txt.split x y->Q (.ref s.heap.objs.size) {s with heap:=s.heap.push {cls:=.type "list",data:=.seq (strValues l).toArray},toks:=tk}) :
  wpAny (model prog w) A (call (.builtin "str.split") [.str x t,.str y u]) Q E s:=by
 have len2:(Builtin.Str.partsBetween x (Builtin.Str.occurrences x y 0 x.length (x.length+1)) y.length).length<=sizeLine\/True:=.inr trivial;cases c1:(decide (x.length<y.length) || decide (Builtin.Str.strKind x<Builtin.Str.strKind y)) with
 | true=>exact call_meets F.slot_str_split (typeIs_str _ _ _) F.entry_str_split (F.args_str_split_2 _ _) (meets_str_split_cannot_occur x y t u c1) (h [(x,t)] _ (if_pos c1).symm)
 | false =>
  cases c2:(Builtin.Str.occurrences x y 0 x.length (x.length+1)).isEmpty with
  | true=>exact call_meets F.slot_str_split (typeIs_str _ _ _) F.entry_str_split (F.args_str_split_2 _ _) (meets_str_split_not_found x y t u c1 hy c2) (h [(x,t)] _ ((if_neg (ne_true_of_eq_false c1)).trans (if_pos c2)).symm)
  | false =>
   have es:Txt.split x y=Builtin.Str.partsBetween x (Builtin.Str.occurrences x y 0 x.length (x.length+1)) y.length:=(if_neg (ne_true_of_eq_false c1)).trans (if_neg (ne_true_of_eq_false c2));have hl:=split_le x y;rw[es] at hl;refine call_meets F.slot_str_split (typeIs_str _ _ _) F.entry_str_split (F.args_str_split_2 _ _) (meets_str_split_sep x y t u c1 hy c2 (by omega) (by omega)) ?_;show wants Q E _ {s with toks:=_,heap:=s.heap.push {cls:=.type "list",data:=.seq (strsFrom s.toks (Builtin.Str.partsBetween x (Builtin.Str.occurrences x y 0 x.length (x.length+1)) y.length)).toArray}};rw[strsFrom_eq];exact h (numbered s.toks _) _ ((numbered_texts _ _).trans es.symm)
section
variable {X:Cx}{K:FG}
theorem mN:∀ (l:List (Str×Tok)),Vals ((l.map (·.1)).map V.str) (strValues l)
 | []=>.nil
 | p::l=>.cons ⟨_,rfl⟩ (mN l)
theorem pM:∀ zs:List Str,bo K H (zs.map PyData.str) (zs.map V.str)
 | []=>by simp[bo]
 | z::zs=>by simp only[List.map_cons,bo];exact⟨_,_,rfl,by simp[aC],pM zs⟩
def afL(K:FG):V->List V->Hp->VK->Prop:=λ x vs H Q=>∃ z y:Str,x=.str z/\vs=[.str y]/\(y.length==0)=false/\z.length+2<=sizeLine/\∀ p,H p=none->Q (.ref p) (upd H p (.lst ((Txt.split z y).map V.str)))
theorem um:MtM X "str.split" (afL X.K):=by
 intro pins s σ H x vs v us Q I rx rv h;obtain⟨z,y,rfl,rfl,hy,hz,q⟩:=h;obtain⟨t,rfl⟩:=rx;obtain⟨u,rfl,t',rfl⟩:=vals1 rv;refine zA hy hz λ l tk el=>?_;have hl:=split_le z y;have e2:=congrArg List.length el;simp only[List.length_map] at e2;have I2:Inv X pins σ (upd H s.heap.objs.size (.lst ((Txt.split z y).map V.str))) {s with heap:=s.heap.push {cls:=.type "list",data:=.seq (strValues l).toArray},toks:=tk}:=
  I.laid (t':=tk) (λ b o e=>Heap.get?_push_of_some _ e) (Nat.le_refl _) (show cF X.prog X.w _ _ _ (.lst _) from⟨by rw[List.length_map];omega,strValues l,0,by rw[<- el];exact mN l,Heap.get?_push_size _ rfl⟩)
 exact⟨.ref s.heap.objs.size,_,I2,rfl,q _ (I.hok.fresh (Nat.le_refl _))⟩
def u6(td te:TD)(τ:DS)(M:MH)(Q:QD):Prop:=td τ M λ w M1=>∃ z,w=.d (.str z)/\te τ M1 λ v M2=>∃ y,v=.d (.str y)/\(y.length==0)=false/\z.length+2<=sizeLine/\Q (.d (.list ((Txt.split z y).map PyData.str))) M2
end
section
variable {X:Cx}{e st:Expr}{te:TE}{ts:TO}{pos p2:Pos}
end
section
variable {X:Cx}{K:FG}{e st:Expr}{te:TD}{ts:TOd}{pos p2:Pos}
end
def ajC(kvs:List (Str×PyData))(ty:TE):TE:=λ σ H Q=>ty σ H λ y H1=>∃ z,y=.str z/\Q (.bl (fC kvs z).isSome) H1
theorem agN(hg:Gl X x)(hm:X.mg x=some (.ref a))(kd:jx X.w X.K a kvs)(he:PE X e ty)(hd:ND x:=by decide):PC X .In e (.Name x p) (ajC kvs ty):=by
 intro pins s σ H Q I h;refine thn (he pins s σ H _ I h) λ iv s1 hq96=>?_;obtain⟨y,H1,I1,ry,z,ey,q1⟩:=hq96;subst ey;refine thn (fI (v:=.ref a) hg hm rfl hd pins s1 σ H1 (λ v H'=>v=.ref a/\H'=H1) I1 ⟨rfl,rfl⟩) λ u s2 hq97=>?_;obtain⟨x1,H2,I2,rx,ex,eH⟩:=hq97;subst ex eH;obtain rfl:u=Value.ref a:=rx;obtain⟨L,vs,rel,dd,pr⟩:=kd.dd I2;have lv:=hU z pr;refine wpAny_in_of (sR (k:=.inr z) ry) kd.ns dd.mapOf ?_;rw[<- (rel.val (.inr z)).wY];have e:(fC kvs z).isSome=(lZ L (.inr z)).isSome:=by
  cases q:fC kvs z with
  | none=>rw[q] at lv;rw[OR.none_of lv];rfl
  | some d=>rw[q] at lv;obtain⟨b,eb,_⟩:=OR.some_of lv;rw[eb];rfl
 rw[<- e];exact⟨.bl _,H2,I2.tok _,rfl,q1⟩
def aiH(kvs:List (Str×PyData))(te:TD)(τ:DS)(M:MH)(Q:QD):Prop:=te τ M λ w M1=>∃ z,w=.d (.str z)/\Q (.d (.bool (fC kvs z).isSome)) M1
theorem adi{K:FG}{σ:St}{H:Hp}{Q:VK}(h:up K (aiH kvs te) σ H Q):ajC kvs (up K te) σ H Q:=by obtain⟨τ,M,Qd,A,h,k⟩:=h;refine⟨τ,M,_,A,h,λ y H1 w M1 kp r m1 hq98=>?_⟩;obtain⟨z,ew,q⟩:=hq98;subst ew;simp only[aG,aC] at r;exact⟨z,r,k _ H1 (.d (.bool _)) M1 kp (by simp[aG,aC]) m1 q⟩
section
variable {X:Cx}{e st:Expr}{a:Addr}{x:Str}{kvs:List (Str×PyData)}{pos p p2:Pos}{te:TD}{ts:TOd}
theorem abF(hg:Gl X x)(hm:X.mg x=some (.ref a))(kd:jx X.w X.K a kvs)(he:Jd (PD X e te))(hb:behindInMarks .In (.Name x p)=false:=by rfl)(hd:ND x:=by decide):Jd (PTd X (.Compare e [.In] [.Name x p] pos) (aJ (aiH kvs te))):=⟨have he:=he.h;
 ae6 (ahe (agN hg hm kd he hd) hb) λ σ H Q h=>jC (λ σ H Q h=>adi h) h⟩
end
theorem lj(ho:Jd (PD X o td))(he:Jd (PD X e te))
  (hbase:attributeBase o "split" X.env (eval o X.env)=eval o X.env:=by rfl)
  (hfew:((backTo cpos (starEach [e] X.env)).all (λ x=>!x.1)&&(backToKw cpos (keywordEach [] X.env)).all (λ x=>x.1.isSome)
   && decide (([e]:List Expr).length+([]:List Keyword).length+(if ([]:List Keyword).isEmpty then 0 else 1)<30))=true:=by rfl)
  (hline:(apos.endLine==cpos.line)=true:=by rfl)(hs:dZ e=false:=by rfl):Jd (PD X (.Call (.Attribute o "split" apos) [e] [] cpos) (u6 td te)):=⟨have ho:=ho.h;have he:=he.h;
 fx (j6 (qd PySem.F.plainAttrs_str PySem.F.slot_str_split PySem.F.type_str_split um ho (pac he fh hs) hbase hfew hline (bH e [] X.env hs) rfl)) λ σ H Q h=>by obtain⟨τ,M,Qd,A,h,k⟩:=h;refine⟨τ,M,_,A,h,λ x H1 w M1 kp1 r1 m1 hq95=>?_⟩;obtain⟨z,ew,q1⟩:=hq95;subst ew;simp only[aG,aC] at r1;subst r1;refine⟨rfl,τ,M1,adk (λ v M2=>∃ y,v=.d (.str y)/\(y.length==0)=false/\z.length+2<=sizeLine/\Qd (.d (.list ((Txt.split z y).map PyData.str))) M2),A.go kp1 m1,q1,λ ys H2 wys M2 kp2 r2 m2 q2=>?_⟩;obtain⟨w',ey,y,ed,hy,hz,q4⟩:=iM q2;subst ey ed;obtain⟨v,ev,rv⟩:=cK r2;simp only[aG,aC] at rv;subst ev rv;exact⟨z,y,rfl,rfl,hy,hz,λ p hp=>kQ hp (pM _) m2 q4 (kgo k (kp1.trans kp2))⟩⟩
end D
namespace XO
open PySem.W
def xno(K:Frag)(C:Addr):Bool:=xmk K C&&(match K.lookup C with
 | some ⟨_,_,.cls cd,_⟩=>tailIn K qJ cd.mro
 | _=>false)
section
variable {prog:Program}{w:World}{A:Around}{E:VP}{K:Frag}{C:Addr}{h:Heap}{g:Array GenState}{d:Drawn}{t:Nat}{os:OsState}
theorem agd(X:K.In h)(q:xno K C=true)(hz:us.length<=sizeLine)(k:∀ h' e,Heap.MadeExcOf h h' e (.ref C) us->Q (.ref e) ⟨h',g,d,t,os⟩) :
  wpAny (model prog w) A (call (.ref C) us) Q E ⟨h,g,d,t,os⟩:=by
 unfold xno at q;rw[Bool.and_eq_true] at q;obtain⟨q1,q2⟩:=q;obtain⟨nm,q',N,bs,bm,hdct,sn,sub,ab,col,dd,k0,k1,k2,k3,k5,hC,T⟩:=zS X q1
 split at q2
 ·rename_i c0 d0 cd sl hk
  have e1:=X _ _ hk;rw[hC] at e1;cases e1;have T2:=tail_of_in X q2;generalize hl:(Value.ref C::bm)=l at T2;cases T2 with
  | base=>cases hl
  | own hA hN hi _ =>
   cases hl;rw[hC] at hA;cases hA;exact wpAny_call_exc_subT PySem.F.excBase_ValueError T hC hN hi k hz
 ·cases q2
end
end XO
namespace D
open L2 XO
section
variable {X:Cx}{pos p cpos np hpos:Pos}{k:Nat}{f C:Addr}{x:Str}{e:Expr}{es:List Expr}{t:TAd}{E:XE}
def n8(C:Addr)(E:XE)(t:TAd)(_:Ed)(τ:DS)(M:MH):Prop:=t τ M λ ws M1=>ws.length<=1000/\∀ a,M1 a=none->E a τ (cn M1 a (.exc C []))
variable {body suite:List Stmt}{b0:Stmt}{hs:List ExceptHandler}{th rest:Addr->TSd}{ts:TSd}
def wR(C:Addr)(sp:SpX)(E:XE)(td:TD)(t:TAd)(τ:DS)(M:MH)(Q:QD):Prop:=td τ M λ w M1=>w=.m C/\t τ M1 λ ws M2=>sp ws M2 Q λ a M'=>E a τ M'
end
section
variable {X:Cx}{K:FG}
def ajo:V->List V->Hp->VK->Prop:=λ x vs H Q=>∃ l xs y,x=.ref l/\vs=[]/\H l=some (.lst (xs++[y]))/\Q y (upd H l (.lst xs))
theorem afs:MtM X "list.pop" ajo:=by
 intro pins s σ H x vs v us Q I rx rv h;obtain⟨l,xs,y,rfl,rfl,hH,q⟩:=h;cases rx;cases rv;obtain⟨z,its,n,r,hl,e⟩:=I.aiq hH;have hlen:=r.length;rw[List.length_append,List.length_singleton] at hlen;have hlt:its.length-1<its.length:=by omega
 obtain⟨u,hu,ry⟩:=r.get (i:=its.length-1) (x:=y) (by
  have ex:its.length-1=xs.length:=by omega
  rw[ex];simp)
 refine call_meets F.slot_list_pop ⟨_,e,rfl⟩ F.entry_list_pop (F.args_list_pop_1 _) (MeetsSeq.list_pop_last l its.toArray n u (by simpa using hu) (by rw[List.size_toArray];have:=z;rw[List.length_append,List.length_singleton] at this;omega)) ⟨e,?_⟩;refine⟨y,_,I.aib (its':=its.dropLast) hH e ?_ ?_ ?_,ry,q⟩
 ·apply Array.toList_inj.mp;simp[List.dropLast_eq_take,List.eraseIdx_eq_take_drop_succ];omega
 ·have r2:=r.take xs.length;rw[List.take_left] at r2;rw[List.dropLast_eq_take,show its.length-1=xs.length by omega];exact r2
 ·rw[List.length_append] at z;omega
variable {o e:Expr}{td te:TD}{apos cpos:Pos}
def ajt(td:TD)(τ:DS)(M:MH)(Q:QD):Prop:=td τ M λ w M1=>∃ a ws x,w=.m a/\M1 a=some (.lst (ws++[x]))/\Q x (cn M1 a (.lst ws))
theorem mF:∀ {ws:List W} {w:W} {vs:List V},ba K H (ws++[w]) vs->∃ us u,vs=us++[u]/\ba K H ws us/\aG K H w u
 | [],w,_,.cons r t=>by cases t;exact⟨[],_,rfl,.nil,r⟩
 | w0::ws,w,_,.cons r t=>by obtain⟨us,u,e,h1,h2⟩:=mF t;subst e;exact⟨_::us,u,rfl,.cons r h1,h2⟩
def zI(td te:TD)(τ:DS)(M:MH)(Q:QD):Prop:=td τ M λ w M1=>∃ z,w=.d (.str z)/\te τ M1 λ v M2=>∃ y,v=.d (.str y)/\(y.length==0)=false/\z.length+2<=sizeLine/\∀ p,M2 p=none->Q (.m p) (cn M2 p (.lst (bG (Txt.split z y))))
theorem wQ:∀ zs:List Str,ba K H (bG zs) (zs.map V.str)
 | []=>.nil
 | z::zs=>.cons (by simp[aG,aC]) (wQ zs)
def aft:V->List V->Hp->VK->Prop:=λ x vs H Q=>∃ z y:Str,x=.str z/\vs=[.str y]/\∀ i:Int,-1<=i->i<=z.length->Q (.int i) H
theorem aea:MtR X "str.find" aft:=by
 intro pins s σ H x vs v us Q I rx rv h;obtain⟨z,y,rfl,rfl,q⟩:=h;obtain⟨t,rfl⟩:=rx;obtain⟨u,rfl,t',rfl⟩:=vals1 rv;refine call_gives F.slot_str_find (typeIs_str _ _ _) F.entry_str_find (F.args_str_find_2 _ _) (gives_str_find z y t t') ?_;refine⟨.int _,H,I.tok _,⟨_,rfl⟩,q _ ?_ ?_⟩
 ·split<;>omega
 ·split
  ·rename_i i r e
   have hm:i∈Builtin.Str.occurrences z y 0 z.length 1:=by rw[e];simp
   have:=(StrLaws.occ_spec z y 0 z.length 1 i hm).1;omega
  ·omega
end
def zC(w:W)(ws:List W)(M:MH)(Q:QD):Prop:=∃ z y:Str,w=.d (.str z)/\ws=[.d (.str y)]/\∀ i:Int,-1<=i->i<=z.length->Q (.d (.int i)) M
theorem aei{K:FG}:MtD K aft zC:=by intro x vs H w ws M Qd Q r1 r2 m ⟨z,y,e1,e2,q⟩ k;subst e1 e2;obtain⟨v,e3,r3⟩:=cK r2;simp only[aG,aC] at r1 r3;subst r3;exact⟨z,y,r1,e3,λ i h0 h1=>k _ H (.d (.int i)) M (Kp.refl H) (by simp[aG,aC]) m (q i h0 h1)⟩
section
variable {X:Cx}{e st:Expr}{te:TE}{ts:TO}{pos p2:Pos}
def aie(z y:Str):Prop:=y.length<=z.length/\∀ c∈y.cps.toList,c∈z.cps.toList
def aiW(te:TE)(ts:TO):TE:=λ σ H Q=>te σ H λ x H1=>ts σ H1 λ o H2=>o=some (-1)/\∃ z,x=.str z/\z.length<=sizeLine/\∀ y,aie z y->Q (.str y) H2
theorem adS(he:PE X e te)(hs:PO X (some st) ts):PE X (.Subscript e (.Slice none none (some st) p2) pos) (aiW te ts):=by
 intro pins s σ H Q I h;refine Subscript_ (thn (he pins s σ H _ I h) λ v s1 hq103=>?_);obtain⟨x,H1,I1,r1,q1⟩:=hq103;refine wpAny_Slice ?_;rw[evalPart_none];refine wpAny_pure (wpAny_pure (thn (hs pins s1 σ H1 _ I1 q1) λ vk s3 hq104=>?_));obtain⟨u,H3,I3,pk,eu,z,ex,hsz,q⟩:=hq104;subst eu ex;obtain⟨t,rfl⟩:=r1;obtain⟨tk,rfl⟩:∃ tk,vk=.int (-1) tk:=by
  cases pk;exact⟨_,rfl⟩
 have I4:Inv X pins σ H3 {s3 with heap:=s3.heap.push {cls:=.type "slice",data:=.fields #[.none,.none,.int (-1) tk]}}:=I3.kept (t':=s3.toks) λ b ob q=>Heap.get?_push_of_some _ q;show wpAny (model X.prog X.w) X.A (subscriptTail e (.Slice none none (some st) p2) (.str z t) (.ref s3.heap.objs.size)) (EP X pins σ Q) X.xe {s3 with heap:=s3.heap.push {cls:=.type "slice",data:=.fields #[.none,.none,.int (-1) tk]}};refine tail_any (ops:=[.str z t,.ref s3.heap.objs.size]) (typeIs_str _ _ _) F.slot_str_getitem.lookup (wpAny_getItem_str_slice (l:=none) (u:=none) (st:=some (-1,tk)) ⟨_,Heap.get?_push_size _ rfl,rfl,rfl⟩ rfl ?_) (by with_unfolding_all rfl);unfold sliceMade;rw[if_neg (by simp)];have hlen:(⟨((slicePicked z none none (some (-1,tk))).filterMap (z.cps[·]?)).toArray⟩:Str).length<=z.length:=by show(((slicePicked z none none (some (-1,tk))).filterMap (z.cps[·]?)).toArray).size<=z.length;rw[List.size_toArray];refine Nat.le_trans (List.length_filterMap_le _ _) ?_;unfold slicePicked;simp only[Option.map_none,Option.map_some];show(sliceRange ((z.length:Int)-1) (-1) (-1)).length<=_;rw[W.krv_sliceRange];simp
 refine⟨Nat.le_trans hlen hsz,.str _,H3,I4.tok _,⟨_,rfl⟩,q _ ⟨hlen,λ c hc=>?_⟩⟩
 ·have hc':c∈(slicePicked z none none (some (-1,tk))).filterMap (z.cps[·]?):=hc;obtain⟨i,_,ei⟩:=List.mem_filterMap.mp hc';have:=Array.mem_of_getElem? ei
  simpa using this
end
section
variable {X:Cx}{e st:Expr}{te:TD}{ts:TOd}{pos p2:Pos}
def agY(te:TD)(ts:TOd)(τ:DS)(M:MH)(Q:QD):Prop:=te τ M λ w M1=>ts τ M1 λ o M2=>o=some (-1)/\∃ z,w=.d (.str z)/\z.length<=sizeLine/\∀ y,aie z y->Q (.d (.str y)) M2
end
section
variable {X:Cx}{K:FG}
def agn:R2:=λ x y H Q=>∃ z,x=.str z/\y=.int 2/\z.length<=10000/\Q (.str (Txt.mul z 2)) H
theorem ad1:OpR X (binaryOp .Mult) agn:=by
 intro pins s σ H x y v u Q I rx ry h;obtain⟨z,rfl,rfl,hz,q⟩:=h;obtain⟨t,rfl⟩:=rx;obtain⟨t',rfl⟩:=ry;refine SB.mul ⟨?_,λ _ _=>?_,λ _ _=>?_⟩ λ t' k=>⟨.str (Txt.mul z 2),H,I.tok _,⟨_,rfl⟩,q⟩
 ·decide
 ·have:(10000:Int)<=(2 ^ 63-1:Int) / 2:=by decide
  omega
 ·have s16':=s16;have e:(2:Int).toNat=2:=rfl;unfold PySem.Builtin.Str.tooLong;rw[e];exact decide_eq_false (by omega)
def acd(w:W)(w':W)(M:MH)(Q:QD):Prop:=∃ z,w=.d (.str z)/\w'=.d (.int 2)/\z.length<=10000/\Q (.d (.str (Txt.mul z 2))) M
theorem aaF:OpD K agn acd:=by intro x y H w w' M Qd Q r1 r2 m ⟨z,e1,e2,hz,q⟩ k;subst e1 e2;simp only[aG,aC] at r1 r2;exact⟨z,r1,r2,hz,k _ _ (.d (.str _)) M (Kp.refl _) (by simp[aG,aC]) m q⟩
theorem vP(z:Str):∀ c∈(Txt.mul z 2).cps.toList,c∈z.cps.toList:=by
 unfold Txt.mul;rw[if_neg (by decide)];intro c hc
 split at hc
 ·exact hc
 ·have e:((⟨(List.replicate (2:Int).toNat z.cps).foldl (· ++ ·) #[]⟩:Str).cps).toList=z.cps.toList++z.cps.toList:=by show((#[]++z.cps)++z.cps).toList=_;simp
  rw[e] at hc
  simpa using hc
theorem aar(z:Str):(Txt.mul z 2).length<=2 * z.length:=by
 unfold Txt.mul;rw[if_neg (by decide)]
 split
 ·omega
 ·show((#[]++z.cps)++z.cps).size<=2 * z.cps.size;simp;omega
end
section
variable {X:Cx}{pos p cpos apos np hpos p2:Pos}{k:Nat}{f C:Addr}{x y:Str}{e o st:Expr}{es:List Expr}{t:TAd}{E:XE}{body suite:List Stmt}{b0:Stmt}{hs:List ExceptHandler}{rest:Addr->TSd}{ts:TSd}{fd:FuncData}{ps:List Str}{sp:SpX}{td te:TD}{to:TOd}
theorem gP(L:Lk X E)(xc:XC X.K C)(xn:xno X.K C=true)(ty:W.typeIn X.K (.ref C)=some (.type "type"))(kc:W.keepIn X.K (.ref C)=true)(hr:fO k X.A)(hg:Gl X x)(hm:X.mg x=some (.ref C))(ha:Jd (PAd X (e::es) t))
  (hdb:ND x:=by decide)(h1:dZ e=false:=by rfl)(h2:(es.all λ e=>!dZ e)=true:=by rfl):Jd (PSd X (.Raise (some (.Call (.Name x p) (e::es) [] cpos)) none pos) (n8 C E t)):=⟨have ha:=ha.h;by
 intro pins s σ H D I h;obtain⟨τ,M,Dd,A,h,_⟩:=h;rw[arm_exec_Raise];refine wpAny_bind (wpAny_standAt (acC (K:=X.K) hr.hd (wpAny_bind ?_)));refine wpAny_Call_Name_kw (gi I hg hm ?_ hdb);refine W.callWith_K (h₀:=X.base) I.ok.mod.kin kc (thn (ha cpos pins s σ H (λ vs H1=>∃ ws M1,Kp H H1/\ba X.K H1 ws vs/\cH X.K H1 M1/\ws.length<=1000/\∀ a,M1 a=none->E a τ (cn M1 a (.exc C []))) I
  ⟨τ,M,_,A,h,λ vs H1 ws M1 kp r m q=>⟨ws,M1,kp,r,m,q⟩⟩) λ us s1 ⟨vs,H1,I1,r,ws,M1,kp,rw1,m1,hz,q⟩=>⟨I1.kIn,?_⟩) (bH e es X.env h1) (cL cpos X.env es h2)
 refine agd (h:=s1.heap) (g:=s1.gens) (d:=s1.drawn) (t:=s1.toks) (os:=s1.os) I1.kIn xn (by show us.length<=_;have:=r.length;have:=rw1.length;have:=s16;omega) λ h' a hq99=>?_;obtain⟨kk,hn,T,oa,_,_⟩:=hq99;refine wpAny_bind (wpAny_standAt (wpAny_pure ?_));have e0:H1 a=none:=sE I1.hok hn;have oa':h'.get? a=some (ju C none #[.ref T,.none,.none,.none,.bool false,.none]):=oa;have I5:Inv X pins σ (upd H1 a (.ext (XF a C none true))) {s1 with heap:=h'}:=Inv.agM (t':=s1.toks) I1 kk hn (abG oa' λ _=>rfl);have k5:Kp H1 (upd H1 a (.ext (XF a C none true))):=Kp.new e0;have m5:cH X.K (upd H1 a (.ext (XF a C none true))) (cn M1 a (.exc C [])):=λ b mo z=>by
  by_cases hb:b=a
  ·subst hb;rw[aA] at z;cases z;exact⟨_,none,ar,λ h ⟨vs,y,c⟩=>⟨vs,y,λ _=>c rfl⟩,.inl ⟨rfl,rfl⟩⟩
  ·rw[aR hb] at z;exact(m1 b mo z).keep k5 λ u y=>by rw[aq hb];exact y
 refine⟨a,C,none,_,rfl,I5.kIn,xc.x,ty,oa',rfl,?_⟩;exact L pins σ _ _ a τ _ I5 ⟨C,none,_,true,ar,oa',.inl rfl,λ _=>rfl⟩ (A.go (kp.trans k5) m5) (q a (m1.free e0))⟩
theorem ac8(hg:Gl X x)(hm:X.mg x=some (.ref C))(hd:ND x:=by decide):Jd (PD X (.Name x p) (dC (.m C))):=⟨abb (w:=.m C) (fI (v:=.ref C) hg hm rfl hd) λ H=>rfl⟩
theorem ail(L:Lk X E)(F:cQ X.prog X.w X.K X.mg X.base (CXE X.prog X.w) k f fd ps (mf X.K sp))(hr:fO k X.A)(hC:X.mg y=some (.ref C))(hm:X.mg y=some (.ref f))(hk:W.keepIn X.K (.ref f)=true)(hb:L2.Binds X.K fd ps [])
  (hv:Jd (PD X (.Name x p) td))(ha:Jd (PAd X (e::es) t))(h1:dZ e=false:=by rfl)(h2:(es.all λ e=>!dZ e)=true:=by rfl):Jd (PD X (.Call (.Name x p) (e::es) [] pos) (wR C sp E td t)):=⟨have hv:=hv.h;have ha:=ha.h;by
 rw[hm] at hC;cases hC;intro pins s σ H Q I h;obtain⟨τ,M,Qd,A,h,k⟩:=h;refine wpAny_Call_Name_kw (thn (hv pins s σ H (λ v H1=>v=.ref f/\∃ M1,Kp H H1/\cH X.K H1 M1/\t τ M1 λ ws M2=>sp ws M2 Qd λ a M'=>E a τ M') I ⟨τ,M,_,A,h,λ v H1 w M1 kp r m ⟨ew,q⟩=>by subst ew;exact⟨r,M1,kp,m,q⟩⟩) λ u s0 hq100=>?_);obtain⟨v,H0,I0,rv,ev,M0,kp0,m0,q0⟩:=hq100;subst ev;obtain rfl:u=Value.ref f:=rv;refine W.callWith_K (h₀:=X.base) I.ok.mod.kin hk (thn (ha pos pins s0 σ H0 (λ vs H1=>∃ ws M1,Kp H0 H1/\ba X.K H1 ws vs/\cH X.K H1 M1/\sp ws M1 Qd λ a M'=>E a τ M') I0 ⟨τ,M0,_,A.go kp0 m0,q0,λ vs H1 ws M1 kp r m q=>⟨ws,M1,kp,r,m,q⟩⟩) λ us s1 ⟨vs,H1,I1,r,ws,M1,kp,rw,m1,q⟩=>⟨I1.kIn,?_⟩) (bH e es X.env h1) (cL pos X.env es h2);exact yW (E:=λ v _ H'=>∃ a M',v=.ref a/\Kp H1 H'/\cH X.K H' M'/\E a τ M') F hr hb I1 r ⟨ws,M1,Qd,_,rw,m1,q,kgo (kgo k kp0) kp,λ a H' M' kp' m' e'=>⟨a,M',rfl,kp',m',e'⟩⟩ λ u s' hx=>zR L I1 ((A.go kp0 m0).go kp m1) (λ v H' z=>z) hx⟩
theorem aeh(ho:Jd (PD X o td))(hbase:attributeBase o "pop" X.env (eval o X.env)=eval o X.env:=by rfl)(hline:(apos.endLine==cpos.line)=true:=by rfl):Jd (PD X (.Call (.Attribute o "pop" apos) [] [] cpos) (ajt td)):=⟨have ho:=ho.h;
 fx (agt PySem.F.plainAttrs_list PySem.F.slot_list_pop PySem.F.type_list_pop afs ho hbase hline) λ σ H Q h=>by obtain⟨τ,M,Qd,A,h,k⟩:=h;refine⟨τ,M,_,A,h,λ x H1 w M1 kp1 r1 m1 hq101=>?_⟩;obtain⟨a,ws,y,ew,hm,q⟩:=hq101;subst ew;cases (show x=.ref a from r1);obtain⟨vs,ea,ra⟩:=m1 _ _ hm;obtain⟨us,u,e,h1,h2⟩:=mF ra;subst e;have kp:Kp H1 (upd H1 a (.lst us)):=Kp.set ea (λ _ z=>nomatch z) λ _ _ z=>nomatch z;exact⟨.inl ⟨rfl,_,.of ea⟩,a,us,u,rfl,rfl,ea,k _ _ y _ (kp1.trans kp) (h2.keep kp) (m1.put (mo:=.lst ws) kp ⟨us,ar,ba.keep kp h1⟩) q⟩⟩
theorem u9(ho:Jd (PD X o td))(he:Jd (PD X e te))
  (hbase:attributeBase o "split" X.env (eval o X.env)=eval o X.env:=by rfl)
  (hfew:((backTo cpos (starEach [e] X.env)).all (λ x=>!x.1)&&(backToKw cpos (keywordEach [] X.env)).all (λ x=>x.1.isSome)
   && decide (([e]:List Expr).length+([]:List Keyword).length+(if ([]:List Keyword).isEmpty then 0 else 1)<30))=true:=by rfl)
  (hline:(apos.endLine==cpos.line)=true:=by rfl)(hs:dZ e=false:=by rfl):Jd (PD X (.Call (.Attribute o "split" apos) [e] [] cpos) (zI td te)):=⟨have ho:=ho.h;have he:=he.h;
 fx (qd PySem.F.plainAttrs_str PySem.F.slot_str_split PySem.F.type_str_split um ho (pac he fh hs) hbase hfew hline (bH e [] X.env hs) rfl) λ σ H Q h=>by obtain⟨τ,M,Qd,A,h,k⟩:=h;refine⟨τ,M,_,A,h,λ x H1 w M1 kp1 r1 m1 hq102=>?_⟩;obtain⟨z,ew,q1⟩:=hq102;subst ew;simp only[aG,aC] at r1;subst r1;refine⟨rfl,τ,M1,adk (λ v M2=>∃ y,v=.d (.str y)/\(y.length==0)=false/\z.length+2<=sizeLine/\∀ p,M2 p=none->Qd (.m p) (cn M2 p (.lst (bG (Txt.split z y))))),A.go kp1 m1,q1,λ ys H2 wys M2 kp2 r2 m2 q2=>?_⟩;obtain⟨w',ey,y,ed,hy,hz,q4⟩:=iM q2;subst ey ed;obtain⟨v,ev,rv⟩:=cK r2;simp only[aG,aC] at rv;subst ev rv;refine⟨z,y,rfl,rfl,hy,hz,λ p hp=>?_⟩;have kp:Kp H2 (upd H2 p (.lst ((Txt.split z y).map V.str))):=Kp.new hp;exact k _ _ (.m p) _ ((kp1.trans kp2).trans kp) rfl (m2.put (mo:=.lst (bG (Txt.split z y))) kp ⟨_,ar,wQ _⟩) (q4 p (m2.free hp))⟩
theorem abw(ho:Jd (PD X o td))(he:Jd (PD X e te))
  (hbase:attributeBase o "find" X.env (eval o X.env)=eval o X.env:=by rfl)(hs:starEach [e] X.env=[(false,eval e X.env)]:=by rfl)
  (hfew:((backTo cpos (starEach [e] X.env)).all (λ x=>!x.1)&&(backToKw cpos (keywordEach [] X.env)).all (λ x=>x.1.isSome)
   && decide (([e]:List Expr).length+([]:List Keyword).length+(if ([]:List Keyword).isEmpty then 0 else 1)<30))=true:=by rfl)
  (hline:(apos.endLine==cpos.line)=true:=by rfl):Jd (PD X (.Call (.Attribute o "find" apos) [e] [] cpos) (dMS zC td (af te aF))):=⟨have ho:=ho.h;have he:=he.h;aeP PySem.F.slot_str_find PySem.F.type_str_find aea aei ho (jE he fh hs) hbase hfew hline hs⟩
theorem aaK(he:Jd (PD X e te))(hs:Jd (POd X (some st) to)):Jd (PD X (.Subscript e (.Slice none none (some st) p2) pos) (agY te to)):=⟨have he:=he.h;have hs:=hs.h;
 fx (adS he hs) λ σ H Q h=>by obtain⟨τ,M,Qd,A,h,k⟩:=h;refine⟨τ,M,_,A,h,λ v H1 w M1 kp1 r1 m1 q1=>⟨τ,M1,_,A.go kp1 m1,q1,λ o H2 M2 kp2 m2 hq105=>?_⟩⟩;obtain⟨eo,z,ew,hz,q⟩:=hq105;subst ew;simp only[aG,aC] at r1;exact⟨eo,z,r1,hz,λ y hy=>k _ H2 (.d (.str y)) M2 (kp1.trans kp2) (by simp[aG,aC]) m2 (q y hy)⟩⟩
end
end D
namespace ZS
structure Zs(h:Heap)(z T O i j b:Addr)(x:Str)(tk:Tok)(f:Value)(k1 k2:Nat)(ys:Array Value)(u v:Value):Prop where
 z:IsZip h z T O f
 t:IsPair h T (.ref i) (.ref j)
 o:IsPair h O u v
 i:h.IsStrIter i "str_ascii_iterator" x tk k1
 j:ZT.TI false h j b k2 ys
theorem next_item(D:ZipApart z T O i j b b)(Z:Zs s.heap z T O i j b x tk .none k k ys u v)(hx:x.cps[k]? =some c0)(hy:ys[k]? =some y)
  (q:∀ h',Zs h' z T O i j b x tk (rawInt s.heap.objs.size) (k+1) (k+1) ys (.str ⟨#[c0]⟩ s.toks) y->IsPair h' s.heap.objs.size (.str ⟨#[c0]⟩ s.toks) y ->
   (∀ c o,c≠z->c≠O->c≠i->c≠j->s.heap.get? c=some o->h'.get? c=some o)->Q (some (.ref s.heap.objs.size)) {s with heap:=h',toks:=s.toks+1}):wpAny (model prog w) A (pyNext (.ref z)) Q E s:=by
 have hT:s.TypeIs (.ref z) "zip":= ⟨_,Z.z,rfl⟩;unfold pyNext;refine wpAny_bind (wpAny_attempt (wpAny_callSpecial?_slot (name:=Str.ofString "__next__") hT F.slot_zip_next (wpAny_call_entry F.slot_zip_next hT F.entry_zip_next ?_ (F.args_zip_next_1 _))));show wpAny _ _ (field (.ref z) 2 >>= _) _ _ _;refine wpAny_bind (wpAny_field Z.z rfl (x:=.bool false) rfl ?_);show wpAny _ _ (field (.ref z) 3 >>= _) _ _ _;refine wpAny_bind (wpAny_field Z.z rfl (x:=.ref T) rfl (wpAny_bind (wpAny_seqItems Z.t rfl ?_)));show wpAny _ _ (Builtin.SmallTypes.ownedTupleIsFree (.ref z) >>= _) _ _ _;refine wpAny_bind ?_;unfold Builtin.SmallTypes.ownedTupleIsFree;refine wpAny_bind (wpAny_field Z.z rfl (x:=.none) rfl (wpAny_pure ?_));simp only[if_true];refine wpAny_bind (wpAny_rule (wpAny_bind (wpAny_field Z.z rfl (x:=.ref O) rfl (wpAny_bind (wpAny_setField_rec Z.z (by simp) λ g1 z1 s1=>?_)))));replace z1:IsZip g1 z T O .ellipsis:=z1;refine wpAny_bind ?_;simp only[List.zipIdx_cons,List.zipIdx_nil,List.forIn_cons,List.forIn_nil];have i1:g1.IsStrIter i "str_ascii_iterator" x tk k:=Z.i.extBut s1.extBut D.i1z;have j1:ZT.TI false g1 j b k ys:=Z.j.at λ c o hc q=>s1.extBut _ _ (by rcases hc with rfl | rfl;exact D.i2z;exact D.l2z) q;refine wpAny_bind (wpAny_bind (wpAny_onRaise ?_));show wpAny _ _ (Builtin.SmallTypes.nextOf (.ref i) >>= _) _ _ _;refine wpAny_bind (wpAny_nextOf_ascii_item i1 hx λ g2 i2 s2=>wpAny_pure ?_);have o2:IsPair g2 O u v:=s2.extBut _ _ D.TOi1 (s1.extBut _ _ D.TOz Z.o);refine wpAny_bind (wpAny_seqItems o2 rfl (wpAny_bind (wpAny_updateSeq_pair o2 λ g3 o3 s3=>wpAny_bind (wpAny_letGo (wpAny_pure ?_)))));replace o3:IsPair g3 O (.str ⟨#[c0]⟩ s.toks) v:=o3;have j3:ZT.TI false g3 j b k ys:=j1.at λ c o hc q=>s3.extBut _ _ (by rcases hc with rfl | rfl;exact D.TOi2.symm;exact D.l2TO) (s2.extBut _ _ (by rcases hc with rfl | rfl;exact D.i12.symm;exact D.l2i1) q);refine wpAny_bind (wpAny_bind (wpAny_onRaise ?_));show wpAny _ _ (Builtin.SmallTypes.nextOf (.ref j) >>= _) _ _ _;refine wpAny_bind (ZT.oK j3 D.l2i2 hy λ g4 j4 s4=>wpAny_pure ?_);have o4:IsPair g4 O (.str ⟨#[c0]⟩ s.toks) v:=s4.extBut _ _ D.TOi2 o3;refine wpAny_bind (wpAny_seqItems o4 rfl (wpAny_bind (wpAny_updateSeq_pair o4 λ g5 o5 s5=>wpAny_bind (wpAny_letGo (wpAny_pure (wpAny_pure ?_))))));replace o5:IsPair g5 O (.str ⟨#[c0]⟩ s.toks) y:=o5;refine wpAny_bind (wpAny_seqItems o5 rfl (wpAny_bind (wpAny_newTuple ?_)));have sz:g5.objs.size=s.heap.objs.size:=by rw[s5.1,s4.1,s3.1,s2.1,s1.1]
 have z5:IsZip g5 z T O .ellipsis:=s5.extBut _ _ D.TOz.symm (s4.extBut _ _ D.i2z.symm (s3.extBut _ _ D.TOz.symm (s2.extBut _ _ D.i1z.symm z1)));have k5:∀ c o,c≠z->c≠O->c≠i->c≠j->s.heap.get? c=some o->g5.get? c=some o:=λ c o c1 c2 c3 c4 e=>s5.extBut _ _ c2 (s4.extBut _ _ c4 (s3.extBut _ _ c2 (s2.extBut _ _ c3 (s1.extBut _ _ c1 e))));have i5:g5.IsStrIter i "str_ascii_iterator" x tk (k+1):=((i2.extBut s3.extBut D.TOi1.symm).extBut s4.extBut D.i12).extBut s5.extBut D.TOi1.symm;have j5:ZT.TI false g5 j b (k+1) ys:=j4.at λ c o hc q=>s5.extBut _ _ (by rcases hc with rfl | rfl;exact D.TOi2.symm;exact D.l2TO) q;have zlt:z<g5.objs.size:=Heap.lt_size z5;show wpAny _ _ (Builtin.SmallTypes.ownedTupleHandOut (.ref z) (.ref g5.objs.size) >>= _) _ _ _;refine wpAny_bind ?_;unfold Builtin.SmallTypes.ownedTupleHandOut;have z6:IsZip (g5.push {cls:=.type "tuple",data:=.seq #[.str ⟨#[c0]⟩ s.toks,y]}) z T O .ellipsis:=Heap.get?_push_of_some _ z5;refine wpAny_bind (wpAny_setField_rec z6 (by simp) λ g7 z7 s7=>?_);replace z7:IsZip g7 z T O (rawInt g5.objs.size):=z7;refine wpAny_setField_rec z7 (by simp) λ g8 z8 s8=>?_;replace z8:IsZip g8 z T O (rawInt g5.objs.size):=z8;have up:∀ c o,c≠z->g5.get? c=some o->g8.get? c=some o:=λ c o c1 e=>s8.extBut _ _ c1 (s7.extBut _ _ c1 (Heap.get?_push_of_some _ e));have t8:IsPair g8 g5.objs.size (.str ⟨#[c0]⟩ s.toks) y:=s8.extBut _ _ (Nat.ne_of_gt zlt) (s7.extBut _ _ (Nat.ne_of_gt zlt) (Heap.get?_push_size _ rfl));rw[sz] at z8 t8;refine wpAny_pure ⟨_,rfl,wpAny_pure ?_⟩;show Q (some (.ref g5.objs.size)) _;rw[sz];exact q g8 ⟨z8,up _ _ D.TIz (k5 T _ D.TIz D.TITO D.TIi1 D.TIi2 Z.t),up _ _ D.TOz o5,(let ⟨o,ho,r⟩:=i5; ⟨o,up _ o D.i1z ho,r⟩),j5.at λ c o hc q=>up _ o (by rcases hc with rfl | rfl;exact D.i2z;exact D.l2z) q⟩ t8 λ c o c1 c2 c3 c4 e=>up c o c1 (k5 c o c1 c2 c3 c4 e)
theorem next_end(hh:A.handled=none)(D:ZipApart z T O i j b b)(Z:Zs s.heap z T O i j b x tk .none k k ys u v)(hx:x.cps[k]? =none\/ys[k]? =none)
  (q:∀ h' k',(∀ c o,c≠z->c≠O->c≠i->c≠j->s.heap.get? c=some o->h'.get? c=some o)->Q none {s with heap:=h',toks:=k'}):wpAny (model prog w) A (pyNext (.ref z)) Q E s:=by
 have hT:s.TypeIs (.ref z) "zip":= ⟨_,Z.z,rfl⟩;have fin:∀ h' k' x,(∀ c o,c≠z->c≠O->c≠i->c≠j->s.heap.get? c=some o->h'.get? c=some o)->(∃ o,h'.get? x=some o/\o.cls=.type "StopIteration") ->
   wpAny (model prog w) A (do if (<- PySem.isInstance (.ref x) (.type "StopIteration")) then pure none else throw (.ref x)) Q E {s with heap:=h',toks:=k'}:=λ h' k' x kp ⟨o,ho,hc⟩ =>
  wpAny_bind (wpAny_isInstance (T:= "StopIteration") (b:=true) ⟨o,ho,hc⟩ isSubtype_stop (wpAny_pure (q _ _ kp)))
 unfold pyNext;refine wpAny_bind (wpAny_attempt (wpAny_callSpecial?_slot (name:=Str.ofString "__next__") hT F.slot_zip_next (wpAny_call_entry F.slot_zip_next hT F.entry_zip_next ?_ (F.args_zip_next_1 _))));show wpAny _ _ (field (.ref z) 2 >>= _) _ _ _;refine wpAny_bind (wpAny_field Z.z rfl (x:=.bool false) rfl ?_);show wpAny _ _ (field (.ref z) 3 >>= _) _ _ _;refine wpAny_bind (wpAny_field Z.z rfl (x:=.ref T) rfl (wpAny_bind (wpAny_seqItems Z.t rfl ?_)));show wpAny _ _ (Builtin.SmallTypes.ownedTupleIsFree (.ref z) >>= _) _ _ _;refine wpAny_bind ?_;unfold Builtin.SmallTypes.ownedTupleIsFree;refine wpAny_bind (wpAny_field Z.z rfl (x:=.none) rfl (wpAny_pure ?_));simp only[if_true];refine wpAny_bind (wpAny_rule (wpAny_bind (wpAny_field Z.z rfl (x:=.ref O) rfl (wpAny_bind (wpAny_setField_rec Z.z (by simp) λ g1 z1 s1=>?_)))));replace z1:IsZip g1 z T O .ellipsis:=z1;refine wpAny_bind ?_;simp only[List.zipIdx_cons,List.zipIdx_nil,List.forIn_cons,List.forIn_nil];have i1:g1.IsStrIter i "str_ascii_iterator" x tk k:=Z.i.extBut s1.extBut D.i1z;have j1:ZT.TI false g1 j b k ys:=Z.j.at λ c o hc q=>s1.extBut _ _ (by rcases hc with rfl | rfl;exact D.i2z;exact D.l2z) q;refine wpAny_bind (wpAny_bind (wpAny_onRaise ?_));show wpAny _ _ (Builtin.SmallTypes.nextOf (.ref i) >>= _) _ _ _;cases ex:x.cps[k]? with
 | none =>
  refine wpAny_bind (wpAny_nextOf_ascii_end hh i1 ex λ g2 x s2 hq106=>?_);obtain⟨ox,hox,hcx⟩:=hq106;have z2:IsZip g2 z T O .ellipsis:=s2 _ _ D.i1z.symm z1;have hxz:x≠z:=λ e=>by subst e;rw[z2] at hox;cases hox;simp at hcx
  refine wpAny_setField_rec z2 (by simp) λ g3 _ s3=>fin g3 _ x (λ c o c1 _ c3 _ e=>s3.extBut _ _ c1 (s2 _ _ c3 (s1.extBut _ _ c1 e))) ⟨ox,s3.extBut _ _ hxz hox,hcx⟩
 | some x0 =>
  have ey:ys[k]? =none:=by rcases hx with h | h;rw[ex] at h;cases h;exact h
  refine wpAny_bind (wpAny_nextOf_ascii_item i1 ex λ g2 i2 s2=>wpAny_pure ?_);have o2:IsPair g2 O u v:=s2.extBut _ _ D.TOi1 (s1.extBut _ _ D.TOz Z.o);refine wpAny_bind (wpAny_seqItems o2 rfl (wpAny_bind (wpAny_updateSeq_pair o2 λ g3 o3 s3=>wpAny_bind (wpAny_letGo (wpAny_pure ?_)))));have j3:ZT.TI false g3 j b k ys:=j1.at λ c o hc q=>s3.extBut _ _ (by rcases hc with rfl | rfl;exact D.TOi2.symm;exact D.l2TO) (s2.extBut _ _ (by rcases hc with rfl | rfl;exact D.i12.symm;exact D.l2i1) q);refine wpAny_bind (wpAny_bind (wpAny_onRaise ?_));show wpAny _ _ (Builtin.SmallTypes.nextOf (.ref j) >>= _) _ _ _;refine wpAny_bind (ZT.yS hh j3 ey λ g4 x s4 hq107=>?_);obtain⟨ox,hox,hcx⟩:=hq107;have z4:IsZip g4 z T O .ellipsis:=s4 _ _ D.i2z.symm (s3.extBut _ _ D.TOz.symm (s2.extBut _ _ D.i1z.symm z1));have hxz:x≠z:=λ e=>by subst e;rw[z4] at hox;cases hox;simp at hcx
  refine wpAny_setField_rec z4 (by simp) λ g5 _ s5=>fin g5 _ x (λ c o c1 c2 c3 c4 e=>s5.extBut _ _ c1 (s4 _ _ c4 (s3.extBut _ _ c2 (s2.extBut _ _ c3 (s1.extBut _ _ c1 e))))) ⟨ox,s5.extBut _ _ hxz hox,hcx⟩
theorem lB(x:Str)(tk:Tok)(hx:x.cps.all (·<128)=true)(b:Addr)(ys:Array Value):Meets (Builtin.«zip.__new__» ⟨[.type "zip",.str x tk,.ref b],[]⟩) (λ _ R s=>s.heap.IsList b ys /\
   R (.ok (.ret (.ref (s.heap.objs.size+4)))) {s with heap:=((((s.heap.push {cls:=.type "str_ascii_iterator",data:=.fields #[.str x tk,.int 0 0]}).push {cls:=.type "list_iterator",data:=.fields #[.ref b,.int 0 0]}).push {cls:=.type "tuple",data:=.seq #[.ref s.heap.objs.size,.ref (s.heap.objs.size+1)]}).push {cls:=.type "tuple",data:=.seq #[.none,.none]}).push {cls:=.type "zip",data:=.fields #[.none,.bool false,.bool false,.ref (s.heap.objs.size+2),.ref (s.heap.objs.size+3)]}}):=
 .of_wp λ prog w A R s h=>by
  obtain⟨hp,g,d,tk',os⟩:=s;obtain⟨hb,h⟩:=h;have hsub:=sub_zip;have h2:Heap.IsList (Shared.heap ⟨hp.push {cls:=.type "str_ascii_iterator",data:=.fields #[.str x tk,.int 0 0]},g,d,tk',os⟩) b ys:=Heap.IsList.push hb _
  wp_walk using wpAny_pyIter_ascii hx,wpAny_pyIter_list h2
  refine⟨_,rfl,?_⟩;simp only[Heap.size_push];exact h
theorem nW(hx:x.cps.all (·<128)=true)(hb:s.heap.IsList b ys)
  (h:∀ h',Zs h' (s.heap.objs.size+4) (s.heap.objs.size+2) (s.heap.objs.size+3) s.heap.objs.size (s.heap.objs.size+1) b x tk .none 0 0 ys .none .none ->
   (∀ c o,s.heap.get? c=some o->h'.get? c=some o)->Q (.ref (s.heap.objs.size+4)) {s with heap:=h'}) :
  wpAny (model prog w) A (call (.type "zip") [.str x tk,.ref b]) Q E s:=by
 refine callType_new F.called_zip (by decide) (F.typeCall_zip_2 _ _) (F.newCall_zip_2 _ _) (λ obj=>F.args_object_init_3 obj _ _) F.entry_zip_new (lB x tk hx b ys) ⟨hb,?_⟩;generalize e1:s.heap.push {cls:=.type "str_ascii_iterator",data:=.fields #[.str x tk,.int 0 0]}=g1;have z1:g1.objs.size=s.heap.objs.size+1:=by rw[<- e1];exact Heap.size_push ..
 have n1:g1.get? s.heap.objs.size=some {cls:=.type "str_ascii_iterator",data:=.fields #[.str x tk,.int 0 0]}:=by rw[<- e1];exact Heap.get?_push_size _ rfl
 have k1:∀ c o,s.heap.get? c=some o->g1.get? c=some o:=λ c o q=>by rw[<- e1];exact Heap.get?_push_of_some _ q
 generalize e2:g1.push {cls:=.type "list_iterator",data:=.fields #[.ref b,.int 0 0]}=g2;have z2:g2.objs.size=s.heap.objs.size+2:=by rw[<- e2,Heap.size_push,z1]
 have n2:g2.get? (s.heap.objs.size+1)=some {cls:=.type "list_iterator",data:=.fields #[.ref b,.int 0 0]}:=by rw[<- e2,<- z1];exact Heap.get?_push_size _ rfl
 have k2:∀ c o,g1.get? c=some o->g2.get? c=some o:=λ c o q=>by rw[<- e2];exact Heap.get?_push_of_some _ q
 generalize e3:g2.push {cls:=.type "tuple",data:=.seq #[.ref s.heap.objs.size,.ref (s.heap.objs.size+1)]}=g3;have z3:g3.objs.size=s.heap.objs.size+3:=by rw[<- e3,Heap.size_push,z2]
 have n3:g3.get? (s.heap.objs.size+2)=some {cls:=.type "tuple",data:=.seq #[.ref s.heap.objs.size,.ref (s.heap.objs.size+1)]}:=by rw[<- e3,<- z2];exact Heap.get?_push_size _ rfl
 have k3:∀ c o,g2.get? c=some o->g3.get? c=some o:=λ c o q=>by rw[<- e3];exact Heap.get?_push_of_some _ q
 generalize e4:g3.push {cls:=.type "tuple",data:=.seq #[.none,.none]}=g4;have z4:g4.objs.size=s.heap.objs.size+4:=by rw[<- e4,Heap.size_push,z3]
 have n4:g4.get? (s.heap.objs.size+3)=some {cls:=.type "tuple",data:=.seq #[.none,.none]}:=by rw[<- e4,<- z3];exact Heap.get?_push_size _ rfl
 have k4:∀ c o,g3.get? c=some o->g4.get? c=some o:=λ c o q=>by rw[<- e4];exact Heap.get?_push_of_some _ q
 generalize e5:g4.push {cls:=.type "zip",data:=.fields #[.none,.bool false,.bool false,.ref (s.heap.objs.size+2),.ref (s.heap.objs.size+3)]}=g5;have n5:g5.get? (s.heap.objs.size+4)=some {cls:=.type "zip",data:=.fields #[.none,.bool false,.bool false,.ref (s.heap.objs.size+2),.ref (s.heap.objs.size+3)]}:=by rw[<- e5,<- z4];exact Heap.get?_push_size _ rfl
 have k5:∀ c o,g4.get? c=some o->g5.get? c=some o:=λ c o q=>by rw[<- e5];exact Heap.get?_push_of_some _ q
 have kk:∀ c o,s.heap.get? c=some o->g5.get? c=some o:=λ c o q=>k5 _ _ (k4 _ _ (k3 _ _ (k2 _ _ (k1 _ _ q))));refine⟨⟨_,n5,rfl⟩,h g5 ⟨n5,k5 _ _ (k4 _ _ n3),k5 _ _ n4,?_,?_,?_⟩ kk⟩
 ·exact⟨_,k5 _ _ (k4 _ _ (k3 _ _ (k2 _ _ n1))),rfl,rfl⟩
 ·exact⟨_,k5 _ _ (k4 _ _ (k3 _ _ n2)),rfl,rfl⟩
 ·obtain⟨o,e,r⟩:=hb;exact⟨o,kk _ _ e,r⟩
end ZS
namespace D
open L2
def ajh(x:Str)(K:FG)(b:Addr):It:=
 ⟨λ i H=>∃ ys c y,SqL K H b ys/\x.cps[i]? =some c/\ys[i]? =some y,
  λ i H v H'=>∃ T c y,H T=none/\v=.ref T/\H'=upd H T (.tup [.str ⟨#[c]⟩,y])/\x.cps[i]? =some c/\∀ ys,SqL K H b ys->ys[i]? =some y,
  λ i H=>∃ ys,SqL K H b ys/\(x.cps.size<=i\/ys.length<=i)⟩
theorem yK{x:Str}{tk:Tok}{P:Program}{w:World}{K:FG}{elts:List Expr}{x1:Nat}{tpos:Pos}{z TI TO i1 i2 b:Addr}(Dz:ZipApart z TI TO i1 i2 b b) :
  Turn P w K (.Tuple elts x1 tpos) (ajh x K b) [z,TI,TO,i1,i2] z (λ i h=>IsZip h z TI TO .none/\IsPair h TI (.ref i1) (.ref i2)/\(∃ u v,IsPair h TO u v)/\h.IsStrIter i1 "str_ascii_iterator" x tk i/\ZT.isIt false h i2 b i) where
 mem:=by simp
 obj:=λ i h ⟨hz,hTI,⟨u,v,hTO⟩,x1,x2⟩ c hc=>by
  obtain⟨o1,e1,_,d1⟩:=x1;obtain⟨o2,e2,d2⟩:=x2.obj;have q:c=z\/c=TI\/c=TO\/c=i1\/c=i2:=by simpa using hc
  rcases q with rfl | rfl | rfl | rfl | rfl
  ·exact⟨_,hz,λ v q=>by cases q⟩
  ·exact⟨_,hTI,λ v q=>by cases q⟩
  ·exact⟨_,hTO,λ v q=>by cases q⟩
  ·exact⟨o1,e1,λ v q=>by rw[d1] at q;cases q⟩
  ·exact⟨o2,e2,λ v q=>by rw[d2] at q;cases q⟩
 keep:=λ i h h' ⟨hz,hTI,⟨u,v,hTO⟩,x1,x2⟩ k=>⟨k z (by simp) _ hz,k TI (by simp) _ hTI,⟨u,v,k TO (by simp) _ hTO⟩,(let ⟨o,e,r⟩:=x1; ⟨o,k i1 (by simp) _ e,r⟩),x2.at λ o e=>k i2 (by simp) _ e⟩
 item:=by
  intro X hP hw hK hc i pins s σ H E I hf ⟨hz,hTI,⟨u0,v0,hTO⟩,l1,l2⟩ ⟨ys,c0,y,hq2,hx,hy⟩;subst hP hw hK;obtain⟨its2,rv2,p2⟩:=Inv.sqB (b:=false) I hq2;obtain⟨v,hv,rv⟩:=rv2.get hy;refine ZS.next_item Dz (ys:=its2.toArray) ⟨hz,hTI,hTO,l1,l2,p2⟩ (y:=v) hx (by simpa using hv) λ h' Z' hT kp=>?_;refine⟨_,rfl,wpAny_letOwnedTupleGo_zip Z'.z λ h'' hz'' sb=>?_⟩;obtain⟨t0,t1,t2,t3,t4,t5⟩:=I.rL (Nat.le_refl _) (I.hok.fresh (Nat.le_refl _));have nT:s.heap.objs.size≠z:=Nat.ne_of_gt (Heap.lt_size hz);have nTO:s.heap.objs.size≠TO:=Nat.ne_of_gt (Heap.lt_size hTO);have n1:s.heap.objs.size≠i1:=by obtain⟨o,e,_⟩:=l1;exact Nat.ne_of_gt (Heap.lt_size e)
  have n2:s.heap.objs.size≠i2:=by obtain⟨o,e,_⟩:=l2.obj;exact Nat.ne_of_gt (Heap.lt_size e)
  have nTI:s.heap.objs.size≠TI:=Nat.ne_of_gt (Heap.lt_size hTI);have I1:Inv X pins σ H {s with heap:=h'',toks:=s.toks+1}:=Inv.nL (t':=s.toks+1) (ch:=[z,TI,TO,i1,i2]) I (λ c ob hc q=>by simp only[List.mem_cons,List.not_mem_nil,or_false,not_or] at hc;exact(sb.2 c hc.1).trans (kp c ob hc.1 hc.2.2.1 hc.2.2.2.1 hc.2.2.2.2 q)) hf
  have eT:h''.get? s.heap.objs.size=some {cls:=.type "tuple",data:=.seq #[.str ⟨#[c0]⟩ s.toks,v]}:=(sb.2 _ nT).trans hT;have I2:=Inv.xZ (us:=[.str ⟨#[c0]⟩ s.toks,v]) (ys:=[.str ⟨#[c0]⟩,y]) I1 eT t0 (.cons ⟨_,rfl⟩ (.cons rv .nil)) (by simp;have:=s16;omega) t3 t1 t4 t5;refine⟨.ref s.heap.objs.size,_,I2,rfl,⟨_,c0,y,t0,rfl,rfl,hx,λ zs hz=>by rw[Inv.sP (b:=false) I hz hq2];exact hy⟩,⟨hz'',(sb.2 _ Dz.TIz).trans Z'.t,⟨_,v,(sb.2 _ Dz.TOz).trans Z'.o⟩,?_,?_⟩,λ c hc=>?_⟩
  ·obtain⟨o,e,r⟩:=Z'.i;exact⟨o,(sb.2 i1 Dz.i1z).trans e,r⟩
  ·exact Z'.j.1.at λ o e=>(sb.2 i2 Dz.i2z).trans e
  ·have q:c=z\/c=TI\/c=TO\/c=i1\/c=i2:=by simpa using hc
   have hn:c≠s.heap.objs.size:=by rcases q with rfl | rfl | rfl | rfl | rfl<;>(intro e;first | exact nT e.symm | exact nTI e.symm | exact nTO e.symm | exact n1 e.symm | exact n2 e.symm)
   rw[aq hn];exact(hf c hc).1
 done:=by
  intro X hP hw hK hc i pins s σ H E I hf ⟨hz,hTI,⟨u0,v0,hTO⟩,l1,l2⟩ ⟨ys,hq2,hx⟩;subst hP hw hK;obtain⟨its2,rv2,p2⟩:=Inv.sqB (b:=false) I hq2;have e2:=rv2.length;refine ZS.next_end (I.ok.hd hc) Dz (ys:=its2.toArray) ⟨hz,hTI,hTO,l1,l2,p2⟩ ?_ λ h' k' eb=>⟨rfl,Inv.nL (t':=k') (ch:=[z,TI,TO,i1,i2]) I (λ c ob hc q=>by simp only[List.mem_cons,List.not_mem_nil,or_false,not_or] at hc;exact eb c ob hc.1 hc.2.2.1 hc.2.2.2.1 hc.2.2.2.2 q) hf⟩
  rcases hx with hx | hx
  ·exact .inl (by simp;omega)
  ·exact .inr (by simp;omega)
 self:=λ _ _ _ _ _ ⟨hz,_⟩ h=>wpAny_pyIter_zip hz h
def aia(K:FG)(ta:TA):TI:=λ σ H R=>ta σ H λ vs H1=>∃ x d ys,vs=[.str x,.ref d]/\x.cps.all (·<128)=true/\SqL K H1 d ys/\R (ajh x K d) H1
theorem adq{elts:List Expr}{x1:Nat}{tpos:Pos}(hg:Gl X "zip")(hm:X.mg "zip" = none)(ha:PA X [a,b] ta)(hs:starEach [a,b] X.env=(false,eval a X.env)::starEach [b] X.env:=by rfl)(hpl:(backTo pos (starEach [b] X.env)).any (·.1)=false:=by rfl) :
  PI X (.Tuple elts x1 tpos) (.Call (.Name "zip" p) [a,b] [] pos) (aia X.K ta):=by
 intro pins s σ H R I h;refine Call_ (lE I hg hm abY (PyProof.Rows.callWith_type1 (thn (ha pos pins s σ H _ I h) λ us s1 ⟨vs,H1,I1,r1,q1⟩=>?_) hs hpl));obtain⟨x,d,ys,e,hx,hq2,q⟩:=q1;subst e;obtain⟨v1,v2,rfl,rr1,rr2⟩:=vals2 r1;obtain⟨tk,ek⟩:=rr1;subst ek;cases (show _=Value.ref d from rr2);obtain⟨its2,rv2,p2⟩:=Inv.sqB (b:=false) I1 hq2;have a2:d<s1.heap.objs.size:=p2.lt;refine ZS.nW hx p2 λ h' Z kp=>?_;have I2:Inv X pins σ H1 {s1 with heap:=h'}:=I1.kept (t':=s1.toks) kp;refine wpAny_pyIter_zip Z.z ?_;refine⟨_,[_,_,_,_,_],_,_,H1,rfl,I2,yK (zipApart_new a2 a2),⟨Z.z,Z.t,⟨_,_,Z.o⟩,Z.i,Z.j.1⟩,λ e he=>?_,q⟩;have z:s1.heap.objs.size<=e:=by
  have z:e=s1.heap.objs.size+4\/e=s1.heap.objs.size+2\/e=s1.heap.objs.size+3\/e=s1.heap.objs.size\/e=s1.heap.objs.size+1:=by simpa using he
  rcases z with z | z | z | z | z<;>rw[z]<;>first | exact Nat.le_refl _ | exact Nat.le_add_right _ _
 exact I1.rL z (I1.hok.fresh z)
def eB(z:Str):List PyData:=z.cps.toList.map λ c=>.str ⟨#[c]⟩
def afG(t:TAd)(τ:DS)(M:MH)(R:List W->MH->Prop):Prop:=t τ M λ ws M1=>∃ z es,ws=[.d (.str z),.d (.list es)]/\dW z=true/\R (rB (eB z) es) M1
section
variable {X:Cx}{K:FG}
def afu(x y:Str):Bool:=!inS x y
def yx(w w':W)(M:MH)(Q:QD):Prop:=rdS afu w w' M Q
theorem abE:OpD K (rS afu) yx:=adl
theorem ad4:OpR X (compareOp .NotIn) (rS afu):=by intro pins s σ H x y v u Q I rx ry h;obtain⟨i,j,rfl,rfl,q⟩:=h;obtain⟨t,rfl⟩:=rx;obtain⟨t',rfl⟩:=ry;exact SB.notContains (bz I q rfl)
def ab1:V->List V->Hp->VK->Prop:=λ x vs H Q=>∃ z y:Str,x=.str z/\vs=[.str y]/\Q (.int (Txt.find z y)) H
theorem abV:MtR X "str.find" ab1:=by intro pins s σ H x vs v us Q I rx rv h;obtain⟨z,y,rfl,rfl,q⟩:=h;obtain⟨t,rfl⟩:=rx;obtain⟨u,rfl,t',rfl⟩:=vals1 rv;exact call_gives F.slot_str_find (typeIs_str _ _ _) F.entry_str_find (F.args_str_find_2 _ _) (gives_str_find z y t t') ⟨.int _,H,I.tok _,⟨_,rfl⟩,q⟩
def nP(w:W)(ws:List W)(M:MH)(Q:QD):Prop:=∃ z y:Str,w=.d (.str z)/\ws=[.d (.str y)]/\Q (.d (.int (Txt.find z y))) M
theorem abx:MtD K ab1 nP:=by intro x vs H w ws M Qd Q r1 r2 m ⟨z,y,e1,e2,q⟩ k;subst e1 e2;obtain⟨v,e3,r3⟩:=cK r2;simp only[aG,aC] at r1 r3;subst r3;exact⟨z,y,r1,e3,k _ H (.d (.int _)) M (Kp.refl H) (by simp[aG,aC]) m q⟩
end
theorem xE(ho:Jd (PD X o td))(he:Jd (PD X e te))
  (hbase:attributeBase o "find" X.env (eval o X.env)=eval o X.env:=by rfl)(hs:starEach [e] X.env=[(false,eval e X.env)]:=by rfl)
  (hfew:((backTo cpos (starEach [e] X.env)).all (λ x=>!x.1)&&(backToKw cpos (keywordEach [] X.env)).all (λ x=>x.1.isSome)
   && decide (([e]:List Expr).length+([]:List Keyword).length+(if ([]:List Keyword).isEmpty then 0 else 1)<30))=true:=by rfl)
  (hline:(apos.endLine==cpos.line)=true:=by rfl):Jd (PD X (.Call (.Attribute o "find" apos) [e] [] cpos) (dMS nP td (af te aF))):=⟨have ho:=ho.h;have he:=he.h;aeP PySem.F.slot_str_find PySem.F.type_str_find abV abx ho (jE he fh hs) hbase hfew hline hs⟩
theorem wJ(hg:Gl X "zip")(hm:X.mg "zip" = none)(ha:Jd (PAd X [a,b] t))(h1:dZ a=false:=by rfl)(h2:([b].all λ e=>!dZ e)=true:=by rfl):Jd (PId X (.Tuple elts x1 tpos) (.Call (.Name "zip" p) [a,b] [] pos) (afG t)):=⟨have ha:=ha.h;afc (adq hg hm ha (bH a [b] X.env h1) (cL pos X.env [b] h2)) λ σ H R hq108=>by
 obtain⟨τ,M,Rd,A,h,k⟩:=hq108;refine⟨τ,M,_,A,h,λ vs H1 ws M1 kp r m hq109=>?_⟩;obtain⟨z,es,ew,hz,q⟩:=hq109;subst ew;obtain⟨v,v',ev,r1,r2⟩:=mw r;simp only[aG,aC] at r1;subst r1;obtain⟨d,ys,e2,hs',ks',ra'⟩:=sC (b:=false) r2;subst e2;have hl':=ra'.length;refine⟨z,d,ys,ev,hz,hs',k _ H1 _ M1 kp m (λ H2 kp2 i=>?_) q⟩;have hs2':=ks' _ kp2;have hls:(eB z).length=z.cps.size:=by simp[eB]
 have hlw:(rB (eB z) es).length=min z.cps.size ys.length:=by simp[rB,hls,hl']
 refine⟨λ hi=>⟨ys,z.cps[i]'(by omega),ys[i]'(by omega),hs2',by simp,by simp⟩,λ hi=>⟨ys,hs2',by omega⟩,λ x H' hi hq110=>?_⟩;obtain⟨T,c,y,hT,ex,eH,hc,hv⟩:=hq110;subst ex eH;have hxv:=hv ys hs2';obtain⟨d2,e4,rd'⟩:=(ra'.keep kp2).get' hxv;have kpn:Kp H2 (upd H2 T (.tup [.str ⟨#[c]⟩,y])):=Kp.new hT;have hid:i<min (eB z).length es.length:=by rw[hlw] at hi;omega
 refine⟨kpn,λ M m=>m.new hT,.d (.tuple [(eB z).getD i .none,es.getD i .none]),by unfold rB;rw[List.getElem?_map,List.getElem?_range hid];rfl,?_⟩;have ed:(eB z).getD i .none=.str ⟨#[c]⟩:=by simp[eB,List.getD,hc]
 have ed':es.getD i .none=d2:=by simp[List.getD,e4]
 rw[ed,ed'];simp only[aG,aC,bo];exact⟨T,_,rfl,.inl (.inl ar),_,_,rfl,rfl,_,_,rfl,rd'.keep kpn,rfl⟩⟩
end D
namespace RT
end RT
namespace D
open L2
theorem s4m:(4000000:Nat)<=sizeLine:=by rw[sizeLine_eq];decide
section
variable {X:Cx}{K:FG}
variable {o e:Expr}{td:TD}{apos cpos:Pos}
variable {a:Expr}{ta:TA}{p p2 pos pos2:Pos}
end
end D
namespace L2
open PySem.W (envX kla_obj kla_fn)
section
variable {X:Cx}{pins:PN}{σ:St}{H:Hp}{s:Shared}{sc:Scope}{x q:Str}{fr:List Nat}{cl:List (Str×Addr)}{f c:Addr}
def ako(H:Hp)(q x:Str)(params:Arguments)(body:Expr)(sc:Scope)(cl:List (Str×Addr))(pm:Value)(f:Addr):Prop:=
 ∃ c ctv oc vs t,H f=some (.frz (kla_obj "<lambda>" q params body sc cl pm c ctv) (.own 0))/\H c=some (.frz oc (.own 0))/\oc.data=.fields vs/\vs[1]? =some (.str q t)
end
section
variable {X:Cx}{pins:PN}{σ:St}{H:Hp}{s:Shared}
end
def akl(X:Cx):Cx:={X with A:=X.A.in1}
end L2
namespace D
open L2
open PySem.W (kla_obj kla_fn)
section
variable {X:Cx}{K:FG}
variable {P cd:Addr}{q x:Str}{lpos pos p kpos:Pos}{params:Arguments}{body o:Expr}{sc:Scope}{fr:List Nat}{to tb:TD}{k:Nat}
end
end D
namespace L2
end L2
namespace D
open L2
section
variable {P:Program}{w:World}{K:FG}{mg:Str->Option Value}{base:Heap}
end
section
variable {X:Cx}{K:FG}
variable {o e:Expr}{to:TE}{td te:TD}{apos cpos p pos:Pos}
def aeE(K:FG):V->List V->Hp->VK->Prop:=λ x vs H Q=>∃ y d ds j,vs=[y]/\i6 K H (.list ds) x/\i6 K H d y/\lX d ds=true/\rO ds d j/\(j:Int)<2 ^ 63-1/\Q (.int (j:Nat)) H
theorem zo(hr:fO k X.A):MtM X "list.index" (aeE X.K):=by
 intro pins s σ H x vs v us Q I rx rv h;obtain⟨y,d,ds,j,rfl,h1,h2,o,⟨j0,j1,j2⟩,hsm,q⟩:=h;obtain⟨u,rfl,ru⟩:=rv.one;simp only[lX,pZ,Bool.and_eq_true,Bool.not_eq_true'] at o;obtain⟨⟨o1,o2⟩,o3,o4⟩:=o;obtain⟨as,r2⟩:=cC I d h2 ru o2;obtain⟨bs,r1⟩:=cC I (.list ds) h1 rx o4;have c3:PyData.canLayAll0 ds=true:=SeqAt.canLay_of_shaped o3;cases r1 with
 | @list a ob its n _ as1 e1 e2 e3 e4 =>
  obtain⟨cls,dd,data,sl⟩:=ob;simp only at e2 e3;subst e2 e3;have em:=SeqAt.readsAll_map ds _ _ c3 e4;have hlen:ds.length=its.size:=by have:=congrArg List.length em;simpa using this.symm
  have hat:∀ m (hm:m<its.size),ds[m]? =some (SeqAt.readOf s.heap its[m]):=λ m hm=>by rw[<- em,List.getElem?_map];simp[hm]
  refine call_meets F.slot_list_index ⟨_,e1,rfl⟩ F.entry_list_index (F.args_list_index_2 _ _) (SeqAt.list_indexAt a its n dd sl u (λ z=>PyData.eqv (SeqAt.readOf s.heap z) d) j (by omega) hsm (j1 _ (hat j (by omega))) (λ m hm hlt=>j2 m _ hlt (hat m hm)))
   ⟨e1,SeqAt.items_eqAt e4 r2 c3 (SeqAt.canLay_of_shaped o1) (i8 hr.h o1),⟨.int _,H,I.tok _,⟨_,rfl⟩,q⟩⟩
def wq(td te:TD)(τ:DS)(M:MH)(Q:QD):Prop:=td τ M λ w M1=>∃ ds,w=.d (.list ds)/\te τ M1 λ y M2=>∃ d j,y=.d d/\lX d ds=true/\rO ds d j/\(j:Int)<2 ^ 63-1/\Q (.d (.int (j:Nat))) M2
end
theorem vR(hr:fO k X.A)(ho:Jd (PD X o td))(he:Jd (PD X e te))
  (hbase:attributeBase o "index" X.env (eval o X.env)=eval o X.env:=by rfl)
  (hfew:((backTo cpos (starEach [e] X.env)).all (λ x=>!x.1)&&(backToKw cpos (keywordEach [] X.env)).all (λ x=>x.1.isSome)
   && decide (([e]:List Expr).length+([]:List Keyword).length+(if ([]:List Keyword).isEmpty then 0 else 1)<30))=true:=by rfl)
  (hline:(apos.endLine==cpos.line)=true:=by rfl)(hs:dZ e=false:=by rfl):Jd (PD X (.Call (.Attribute o "index" apos) [e] [] cpos) (wq td te)):=⟨have ho:=ho.h;have he:=he.h;
 fx (qd PySem.F.plainAttrs_list PySem.F.slot_list_index PySem.F.type_list_index (zo hr) ho (pac he fh hs) hbase hfew hline (bH e [] X.env hs) rfl) λ σ H Q h=>by obtain⟨τ,M,Qd,A,h,k⟩:=h;refine⟨τ,M,_,A,h,λ x H1 w M1 kp1 r1 m1 hq111=>?_⟩;obtain⟨ds,ew,q1⟩:=hq111;subst ew;have r1':=r1;simp only[aG,aC] at r1';obtain⟨a,vs,ex,hsq,ra⟩:=r1';subst ex;refine⟨.inl ⟨rfl,vs,hsq.sq⟩,τ,M1,adk (λ y M2=>∃ d j,y=.d d/\lX d ds=true/\rO ds d j/\(j:Int)<2 ^ 63-1/\Qd (.d (.int (j:Nat))) M2),A.go kp1 m1,q1,λ ys H2 wys M2 kp2 r2 m2 q2=>?_⟩;obtain⟨y,ey,d,j,ed,ok,hj,hsm,q4⟩:=iM q2;subst ey ed;obtain⟨v,ev,rv⟩:=cK r2;subst ev;exact⟨v,d,ds,j,rfl,.inl (r1.keep kp2),.inl rv,ok,hj,hsm,k _ _ (.d (.int _)) _ (kp1.trans kp2) (by simp[aG,aC]) m2 q4⟩⟩
end D
set_option maxHeartbeats 0
namespace D
open L2
section
variable {X:Cx}{a b:Expr}{rest:List Expr}{pos:Pos}{ta tb:TE}
end
def Lst(ns:List Int)(j:Nat)(m:Int):Prop:=m∈ns.take j/\∀ x∈ns.take j,m<=x
section
variable {X:Cx}{K:FG}{e:Expr}{te:TE}{p pos kpos kp:Pos}{j:Nat}
end
section
variable {X:Cx}{a b o e:Expr}{rest:List Expr}{ta tb td te:TD}{apos cpos p pos kpos kp:Pos}{j:Nat}
end
section
variable {X:Cx}{K:FG}{pins:PN}{σ:St}{H:Hp}{s:Shared}
theorem gb(I:Inv X pins σ H s)(e:H a=some (jj o l)):∃ its:List Value,Vals l its/\PlainL s.heap a its.toArray/\l.length<=sizeLine:=by obtain⟨ho,_,z,its,n,r,h1⟩:=I.hok a _ e;exact⟨its,r,⟨_,n,h1,rfl,rfl,rfl⟩,z⟩
end
def aji(a:Addr)(o:Obj)(l:List V):It:=
 ⟨λ i H=>H a=some (jj o l)/\i<l.length,λ i H x H'=>∃ T v,H T=none/\x=.ref T/\H'=upd H T (.tup [.int i,v])/\l[i]? =some v,λ i H=>H a=some (jj o l)/\l.length<=i⟩
theorem vy{P:Program}{w:World}{K:FG}{elts:List Expr}{x1:Nat}{tpos:Pos}(a e it:Addr)(o:Obj)(l:List V)(hne:e≠it) :
  Turn P w K (.Tuple elts x1 tpos) (aji a o l) [e,it] e (λ i h=>(∃ old,IsEnum h e it (i:Nat) old)/\h.IsListIter it a i) where
 mem:=by simp
 obj:=λ i h ⟨⟨old,st⟩,⟨oi,ei,ci,di⟩⟩ b hb=>by
  have z:b=e\/b=it:=by simpa using hb
  rcases z with rfl | rfl
  ·exact⟨_,st,λ v z=>by cases z⟩
  ·exact⟨oi,ei,λ v z=>by rw[di] at z;cases z⟩
 keep:=λ i h h' ⟨⟨old,st⟩,li⟩ k=>⟨⟨old,k e (by simp) _ st⟩,li.at λ o q=>k it (by simp) o q⟩
 item:=by
  intro X hP hw hK hc i pins s σ H E I hf ⟨⟨old,st⟩,li⟩ ⟨hq,hx⟩;subst hP hw hK;have fe:=hf e (by simp);have fi:=hf it (by simp);obtain⟨its,rv,p,hz⟩:=gb I hq;obtain⟨u,hu,ru⟩:=rv.get (List.getElem?_eq_getElem hx);refine wpAny_pyNext_enum_item st li p.isList (x:=u) (by simpa using hu) hne λ h' st' li' ht hsz kp=>?_;refine⟨_,rfl,wpAny_letOwnedTupleGo_enum st' λ h'' st'' sb=>?_⟩;obtain⟨t0,t1,t2,t3,t4,t5⟩:=I.rL (Nat.le_refl _) (I.hok.fresh (Nat.le_refl _));have nT:s.heap.objs.size≠e:=Nat.ne_of_gt (Heap.lt_size st);have I1:Inv X pins σ H {s with heap:=h'',toks:=s.toks+1}:=Inv.ac2 I (λ b ob h1 h2 q=>(sb.2 b h2).trans (kp b ob h2 h1 q)) fi fe;have eT:h''.get? s.heap.objs.size=some {cls:=.type "tuple",data:=.seq #[.int (i:Nat) s.toks,u]}:=(sb.2 _ nT).trans ht;have I2:=Inv.xZ (us:=[.int (i:Nat) s.toks,u]) (ys:=[.int i,l[i]]) I1 eT t0 (.cons ⟨_,rfl⟩ (.cons ru .nil)) (by simp;have:=s16;omega) t3 t1 t4 t5;have li'':h''.IsListIter it a (i+1):=li'.at λ o q=>(sb.2 it hne.symm).trans q;have hit:it<s.heap.objs.size:=by obtain⟨oi,ei,_⟩:=li;exact Heap.lt_size ei
  refine⟨.ref s.heap.objs.size,_,I2,rfl,⟨_,l[i],t0,rfl,rfl,List.getElem?_eq_getElem hx⟩,⟨⟨_,st''⟩,li''⟩,λ b hb=>?_⟩;have z:b=e\/b=it:=by simpa using hb
  rcases z with rfl | rfl
  ·rw[aq nT.symm];exact fe.1
  ·rw[aq (Nat.ne_of_lt hit)];exact fi.1
 done:=by intro X hP hw hK hc i pins s σ H E I hf ⟨⟨old,st⟩,li⟩ ⟨hq,hx⟩;subst hP hw hK;obtain⟨f0,f1,f2,f3,f4,f5⟩:=hf it (by simp);obtain⟨its,rv,p,hz⟩:=gb I hq;have hl:=rv.length;exact wpAny_pyNext_enum_end (I.ok.hd hc) st li p.isList (by simp;omega) λ h' eb=>⟨rfl,I.turned (t':=s.toks) (λ b o hb q=>eb b o hb q) f0 f1 f3 f4 f5⟩
 self:=λ _ _ _ _ _ ⟨⟨old,st⟩,li⟩ h=>wpAny_pyIter_enum st h
def afe(ta:TA):TI:=λ σ H R=>ta σ H λ vs H1=>∃ b o l,vs=[.ref b]/\H1 b=some (jj o l)/\R (aji b o l) H1
theorem aaA{elts:List Expr}{x1:Nat}{tpos:Pos}(hg:Gl X "enumerate")(hm:X.mg "enumerate" = none)(ha:PA X [a] ta)(hs:starEach [a] X.env=[(false,eval a X.env)]:=by rfl) :
  PI X (.Tuple elts x1 tpos) (.Call (.Name "enumerate" p) [a] [] pos) (afe ta):=by
 intro pins s σ H R I h;refine Call_ (lE I hg hm pB (PyProof.Rows.callWith_type1 (thn (ha pos pins s σ H _ I h) λ us s1 ⟨vs,H1,I1,r1,q1⟩=>?_) hs rfl));obtain⟨b,o,l,e,hq,q⟩:=q1;subst e;cases r1 with
 | cons r rr =>
  cases rr;cases (show _=Value.ref b from r);obtain⟨its,rv,pl,hz⟩:=gb I1 hq;refine call_enumerate_list pl.isList λ h' st li hsz kp=>?_;have I2:Inv X pins σ H1 {s1 with heap:=h'}:=I1.kept (t':=s1.toks) kp;refine wpAny_pyIter_enum st ?_;refine⟨_,[_,_],_,_,H1,rfl,I2,vy b _ _ o l (Nat.succ_ne_self _),⟨⟨_,st⟩,li⟩,λ c hc=>?_,q⟩;have z:c=s1.heap.objs.size+1\/c=s1.heap.objs.size:=by simpa using hc
  rcases z with rfl | rfl
  ·exact I1.rL (Nat.le_succ _) (I1.hok.fresh (Nat.le_succ _))
  ·exact I1.rL (Nat.le_refl _) (I1.hok.fresh (Nat.le_refl _))
def acr(t:TAd)(τ:DS)(M:MH)(R:List W->MH->Prop):Prop:=t τ M λ ws M1=>∃ b ds,ws=[.m b]/\M1 b=some (.flst (ds.map W.d))/\R (qe ds) M1
theorem vU(hg:Gl X "enumerate")(hm:X.mg "enumerate" = none)(ha:Jd (PAd X [a] t))(h1:dZ a=false:=by rfl) :
  Jd (PId X (.Tuple elts x1 tpos) (.Call (.Name "enumerate" p) [a] [] pos) (acr t)):=⟨have ha:=ha.h;afc (aaA hg hm ha (by rw[bH a [] X.env h1];rfl)) λ σ H R hq112=>by
 obtain⟨τ,M,Rd,A,h,k⟩:=hq112;refine⟨τ,M,_,A,h,λ vs H1 ws M1 kp r m hq113=>?_⟩;obtain⟨b,ds,ew,hm,q⟩:=hq113;subst ew;obtain⟨v,ev,r1⟩:=cK r;simp only[aG] at r1;subst ev r1;obtain⟨ob,l,e,ra⟩:=m _ _ hm;have hl:ds.length=l.length:=by simpa using ba.length ra
 refine⟨b,ob,l,rfl,e,k _ H1 _ M1 kp m (λ H2 kp2 i=>?_) q⟩;have e2:=kp2.frz b ob _ e;have hlw:(qe ds).length=l.length:=by simp[qe,hl]
 refine⟨λ hi=>⟨e2,by omega⟩,λ hi=>⟨e2,by omega⟩,λ x H' hi hq114=>?_⟩;obtain⟨T,v,hT,ex,eH,hv⟩:=hq114;subst ex eH;have hid:i<ds.length:=by rw[hlw] at hi;omega
 obtain⟨v',e3,rd⟩:=ba.get (ba.keep kp2 ra) (show(ds.map W.d)[i]? =some (W.d ds[i]) by simp[hid]);rw[hv] at e3;cases e3;have kpn:Kp H2 (upd H2 T (.tup [.int i,v])):=Kp.new hT;refine⟨kpn,λ M m=>m.new hT,.d (.tuple [.int (i:Nat),ds.getD i .none]),by simp[qe,hid],?_⟩;have ed:ds.getD i .none=ds[i]:=by simp[List.getD,hid]
 rw[ed];simp only[aG,aC,bo];exact⟨T,_,rfl,.inl (.inl ar),_,_,rfl,rfl,_,_,rfl,aC.keep kpn rd,rfl⟩⟩
section
variable {K:FG}
end
structure MiE(K:FG)(C:Addr)(qual:Str)(st:Stmt)(ps:List Str)(f:Addr)(fd:FuncData):Prop where
 fn:ake K "__init__" qual st f fd
 mi:Mk K C f
 bd:Binds K fd ps []
 bn:Binds K fd ps [.none]
abbrev PFn(K:FG)(x:Str)(st:Stmt):Prop:=∃ (f:Addr) (oc kV dc pm cd ct:Value) (od an:Option Addr) (sl:Array (Option Value)),W.nsIn K mainGlobals x=some (some (.ref f))/\K.lookup f=some ⟨oc,od,.func (W.fnOf x x (bS st) (bj st) (ao st) .none kV dc pm an cd ct),sl⟩/\W.codeIn K cd x=true/\W.keepIn K (.ref f)=true
abbrev PMf(K:FG)(C:Addr)(m x:Str)(st:Stmt):Prop:=∃ (f:Addr) (oc kV dc pm cd ct:Value) (od an:Option Addr) (sl:Array (Option Value)),W.findIn K (.ref C) m=some (some (.ref f))/\W.isFn K (.ref f)=true/\K.lookup f=some ⟨oc,od,.func (W.fnOf m x (bS st) (bj st) (ao st) .none kV dc pm an cd ct),sl⟩/\W.codeIn K cd x=true/\W.keepIn K (.ref f)=true
theorem afw{K:FG}{x:Str}{st:Stmt}{f:Addr}{oc kV dc pm cd ct:Value}{od an:Option Addr}{sl:Array (Option Value)}(a:W.nsIn K mainGlobals x=some (some (.ref f)))(l:K.lookup f=some ⟨oc,od,.func (W.fnOf x x (bS st) (bj st) (ao st) .none kV dc pm an cd ct),sl⟩)(c:W.codeIn K cd x=true)(k:W.keepIn K (.ref f)=true):PFn K x st:=⟨_,_,_,_,_,_,_,_,_,_,a,l,c,k⟩
theorem PFn.fn{K:FG}{h:Heap}{mg:Str->Option Value}{x:Str}{st:Stmt}{ps:List Str}(p:PFn K x st)(X:K.In h)(G:h.Ns mainGlobals mg)
  (b:∀ (kV doc pm:Value) (an:Option Addr) (cdv ct:Value) (us:List Value),us.length=ps.length->bindArgs (W.fnOf x x (bS st) (bj st) (ao st) .none kV doc pm an cdv ct) ⟨us,[]⟩=pure (ps.zip us)):∃ f fd,Fn K mg x st ps f fd:=
 let ⟨f,_,_,_,_,_,_,_,_,_,a,l,c,k⟩:=p; ⟨f,_,zu X G a l c k b⟩
abbrev ZZ(P:Program)(w:World)(K:FG)(mg:Str->Option Value)(base:Heap)(F:Addr->FuncData->Prop)(n:Nat)(ps:List Str)(sp:SpD):Prop:=∃ f fd,F f fd/\cQ P w K mg base CX0 n f fd ps (eX K sp)
end D
namespace L2
structure qY(P:Program)(w:World)(K:FG)(mg:Str->Option Value)(base:Heap)(CX:CXT)(k:Nat)(f:Addr)(fd:FuncData)(ps:List Str)(sp:Sp):Prop where
 len:∀ vs H Q E,sp vs H Q E->vs.length=ps.length
 run:∀ (A:Around) (outer:List Env) (s:Shared) (H:Hp) (args:Args) (us:List Value) (vs:List V) (Q:VK) (E:XK),cX k A->aa1 P w K mg base A outer s H->BindsTo s fd args (ps.zip us)->Vals vs us->sp vs H Q E ->
  codeAny (model P w) A (.call (.ref f) args) (CR CX outer P w H s Q E) s
theorem qY.fn{P:Program}{w:World}{K:FG}{mg:Str->Option Value}{base:Heap}{CX:CXT}{k:Nat}{f:Addr}{fd:FuncData}{ps:List Str}{sp:Sp}(F:qY P w K mg base CX k f fd ps sp) :
  cQ P w K mg base CX k f fd ps sp:=⟨F.len,λ A outer s H args us vs Q E hr=>F.run A outer s H args us vs Q E hr.h⟩
abbrev Cx.loud(X:Cx):Cx:={X with calm:=false}
theorem v9{CX:CXT}{P:Program}{w:World}{K:FG}{mg:Str->Option Value}{base:Heap}{N ps:List Str}{qual:Str}{scope:Scope}{f:Addr}{cd:Value}{A:Around}{outer:List Env}{s s1:Shared}{H:Hp}{E:XK}{us:List Value}{vs:List V}
  (S:aK N ps scope)(e0:aa1 P w K mg base A outer s H)(hl:vs.length=ps.length)(r:Vals vs us)
  (x:InCallC s s.heap.objs.size (bindL (envOfC qual scope s.heap.objs.size f cd).kindOf (ps.zip us) λ _=>none) (cellsFrom (s.heap.objs.size+1) scope.names []) (bindC (envOfC qual scope s.heap.objs.size f cd).kindOf (ps.zip us) λ _=>none) s1) :
  Inv (tm CX P w K mg base N qual scope f cd A outer s H E).loud [] (start N vs) H s1:=by
 have I:=qP (CX:=CX) (E:=E) (A:={A with handled:=none}) S rfl ⟨e0.frames,e0.mod,e0.bs,e0.bsz,e0.oF,e0.frf,e0.hok,e0.bare⟩ hl r x;exact⟨⟨I.ok.mod,I.ok.kind,I.ok.glob,I.ok.blt,I.ok.above,I.ok.inj,I.ok.has,I.ok.cab,(λ z=>nomatch z),I.ok.frames,I.ok.stk,I.ok.exf,I.ok.bs,I.ok.bsz,I.ok.noex,I.ok.exfs,I.ok.oF,I.ok.frf⟩,I.os,I.bare,I.base,I.loc,I.cell,I.free,I.freeC,I.pin,I.hok,I.len⟩
theorem agG{CX:CXT}{P:Program}{w:World}{K:FG}{mg:Str->Option Value}{base:Heap}{k:Nat}{f:Addr}{name qual:Str}{params:Arguments}{body:List Stmt}{scope:Scope}{dV kV doc pm cdv ct oc:Value}{an od:Option Addr}
  {osl:Array (Option Value)}{N ps:List Str}{sp:Sp}(lk:K.lookup f=some ⟨oc,od,.func (W.fnOf name qual params body scope dV kV doc pm an cdv ct),osl⟩)(hcd:W.codeIn K cdv qual=true)(S:aK N ps scope)
  (len:∀ vs H Q E,sp vs H Q E->vs.length=ps.length)
  (hbody:∀ (A:Around) (outer:List Env) (s:Shared) (H:Hp) (vs:List V) (Q:VK) (E:XK),cX k (A.deeper (envOfC qual scope s.heap.objs.size f cdv))->sp vs H Q E ->
   ∃ t,PSs (tm CX P w K mg base N qual scope f cdv A outer s H E).loud body t/\t {nx:=λ _ H'=>Q .non H',rt:=Q} (start N vs) H) :
  qY P w K mg base CX (k+1) f (W.fnOf name qual params body scope dV kV doc pm an cdv ct) ps sp:=by
 refine⟨len,λ A outer s H args us vs Q E hr e0 hb r hsp=>?_⟩;have hl:=len _ _ _ _ hsp;have KX:K.In s.heap:=e0.mod.kin.keeps λ b o e=>(e0.bs b o e).1;have lim:s.heap.NoLimit:=e0.mod.nolimit.keeps λ b o e=>(e0.bs b o e).1;have hkind:∀ y∈ps.zip us,scope.names.lookup y.1=some .local\/(scope.names.lookup y.1=some .cell/\((cellsFrom (s.heap.objs.size+1) scope.names []).lookup y.1).isSome=true):=λ⟨n,v⟩ hy=>by
  rcases S.par n (List.of_mem_zip hy).1 with q | q
  ·exact .inl q
  ·exact .inr ⟨q,W.cellsFrom_some _ _ _ (.inl q)⟩
 refine codeAny_call_function hr.depth (KX _ _ lk) rfl S.co S.gen rfl (W.codeRec_of KX hcd) (hb _ _ _ _ ?_);refine wpAny_newFunctionEnv_cells S.kind hkind λ env he s1 x=>?_;subst he;refine⟨lim.keeps x.toInCall.keep,codeAny_func ?_⟩;obtain⟨t,ht,hq⟩:=hbody A outer s H vs Q E (hr.deeper _) hsp;have I:=v9 (CX:=CX) (E:=E) S e0 hl r x;refine wpAny_mono (ht [] s1 (start N vs) H _ I hq) (λ fl s' hs=>?_) λ e s' hs=>hs;have fin:∀ {σ':St} {H':Hp} {v:V} {u:Value},Inv (tm CX P w K mg base N qual scope f cdv A outer s H E).loud [] σ' H' s'->RelV v u->Q v H'->CE outer P w H s Q u s':=
  λ {σ' H' v u} J rv q=>⟨v,H',J.os,J.bare,J.base,J.hok,rv,q⟩
 cases fl with
 | ret u =>
  obtain⟨v,σ',H',J,rv,q⟩:=hs;exact fin J rv q
 | next =>
  obtain⟨σ',H',J,q⟩:=hs;exact fin (v:=V.non) (u:=Value.none) J rfl q
 | brk =>
  obtain⟨_,_,_,q⟩:=hs;exact False.elim q
 | cont =>
  obtain⟨_,_,_,q⟩:=hs;exact False.elim q
section
variable {P:Program}{w:World}{K:FG}{mg:Str->Option Value}{base:Heap}
theorem Fun.okH{x qual:Str}{st:Stmt}{f:Addr}{fd:FuncData}{N ps:List Str}{k:Nat}{sp:Sp}(F:Fun K x qual st f fd)(S:aK N ps (ao st))(len:∀ vs H Q E,sp vs H Q E->vs.length=ps.length)
  (hbody:∀ (cdv:Value) (A:Around) (outer:List Env) (s:Shared) (H:Hp) (vs:List V) (Q:VK) (E:XK),cX k (A.deeper (envOfC qual (ao st) s.heap.objs.size f cdv))->sp vs H Q E ->
   ∃ t,PSs (tm CX0 P w K mg base N qual (ao st) f cdv A outer s H E).loud.nox (bj st) t/\t {nx:=λ _ H'=>Q .non H',rt:=Q} (start N vs) H):qY P w K mg base CX0 (k+1) f fd ps sp:=by
 obtain⟨oc,od,kV,doc,pm,an,cdv,ct,osl,rfl,lk,hcd⟩:=F.ex;refine agG lk hcd S len λ A outer s H vs Q E hr hsp=>?_;obtain⟨t,h,q⟩:=hbody cdv A outer s H vs Q E hr hsp;exact⟨t,h.nox,q⟩
end
end L2
namespace D
open L2
section
variable {P:Program}{w:World}{K:FG}{mg:Str->Option Value}{base:Heap}
end
open XO
section
variable {X:Cx}{K:FG}
end
end D
namespace PySem.AutoSeq1
open PySem.MeetsSeq PySem.MeetsSeq2 PySem.MeetsSeq3 PyProof.Rows
end PySem.AutoSeq1
namespace D
open L2
def KB1(K:FG)(fd:FuncData)(ps:List Str)(kn:Str):Prop:=∀ (s:Shared) (a u:Value),K.In s.heap->BindsTo s fd ⟨[a],[(kn,u)]⟩ (ps.zip [a,u])
structure MiF(K:FG)(C:Addr)(qual:Str)(st:Stmt)(ps:List Str)(kn:Str)(f:Addr)(fd:FuncData):Prop where
 e:MiE K C qual st ps f fd
 bk:KB1 K fd ps kn
section
variable {P:Program}{w:World}{K:FG}{mg:Str->Option Value}{base:Heap}
end
end D
namespace PySem.AutoSeq1
open PySem.MeetsSeq PySem.MeetsSeq2 PySem.MeetsSeq3 PyProof.Rows
end PySem.AutoSeq1
namespace D
open L2
section
variable {X:Cx}{K:FG}
end
end D
namespace XO
open PySem.W
theorem oZ:entryFor table "proto.unchain" = some Builtin.«proto.unchain»:=by rfl
theorem oW:plainId "proto.unchain" = true:=by decide +kernel
section
variable {prog:Program}{w:World}{A:Around}{E:VP}{s:Shared}{K:Frag}{env:PySem.Env}{e h0 C0:Addr}{dct0:Option Addr}{vs0:Array Value}
theorem aak{Q:VP}(hh:s.heap.get? h0=some (ju C0 dct0 vs0))(h2:vs0[2]? =some .none)(q:∀ v,Q v s):wpAny (model prog w) A (runValue (.builtin "proto.unchain" ⟨[.ref e,.ref h0,.ref h0,.bool false],[]⟩)) Q E s:=by refine wpAny_runValue (codeAny_builtin oZ ?_);rw[Around.under_plainId oW];show wpAny _ _ (field (.ref h0) 2 >>= _) _ _ _;refine wpAny_bind (wpAny_field hh rfl h2 ?_);rw[if_pos (by rfl)];exact wpAny_pure (q _)
theorem aeW{x c:Sem Value}{Q:Flow->Shared->Prop}(hh:A.handled=some (.ref h0))(hc:∀ s1 (R:VP),R .none s1->wpAny (model prog w) A c R E s1)
  (h:wpAny (model prog w) A x (λ v s1=>∃ e C dct vs C0 dct0 vs0,v=.ref e/\(∀ h',(∀ b,b≠e->h'.get? b=s1.heap.get? b)->K.In h')/\aap K C=true/\typeIn K (.ref C)=some (.type "type")/\s1.heap.get? e=some (ju C dct vs)/\vs[1]? =some .none/\vs.size=6/\e≠h0/\s1.heap.get? h0=some (ju C0 dct0 vs0)/\vs0[2]? =some .none /\
   ∀ h',h'.get? e=some (ju C dct (((vs.setIfInBounds 3 .none).setIfInBounds 4 (.bool true)).setIfInBounds 2 (.ref h0)))->(∀ b,b≠e->h'.get? b=s1.heap.get? b)->E (.ref e) {s1 with heap:=h'}) E s) :
  wpAny (model prog w) A (raiseStmt env (some x) (some c)) Q E s:=by
 unfold raiseStmt;refine wpAny_bind (wpAny_mono h (λ v s1 z=>?_) λ _ _ z=>z);obtain⟨e,C,dct,vs,C0,dct0,vs0,rfl,X,c',ty,he,h1,hz,ne,hh0,h02,q⟩:=z;refine wpAny_bind (wpAny_holding (hc _ _ (wpAny_bind (wpAny_pure ?_))));obtain⟨hp,g,d,tk,os⟩:=s1;have so:∀ (f:Obj->Obj) (h:Heap),∀ b,b≠e->(h.update e f).get? b=h.get? b:=λ f h b hb=>Heap.get?_update_other _ _ (Ne.symm hb);have L:∀ (hp':Heap) vs',hp'.get? e=some (ju C dct vs')->Looks (model prog w) hp' (isType (.ref e)) false:=λ hp' vs' he A' Q' E' s' k q=>by
  unfold isType loadHead;exact wpAny_bind (wpAny_loadPart (k _ _ he) (wpAny_pure q))
 have T:∀ (hp':Heap) vs',hp'.get? e=some (ju C dct vs')->Looks (model prog w) hp' (typeOf (.ref e)) (.ref C):=λ hp' vs' he=>(Looks.ld he).andThen .now;obtain⟨cd,hcd,_,hm⟩:=fm c';have S:Looks (model prog w) hp (isInstance (.ref e) (.type "BaseException")) true:=(T hp vs he).andThen (looks_mroIn (X hp λ _ _=>rfl) (by
  unfold mroIn;rw[hcd,Option.bind_some,if_neg (by rw[jy hm];decide),jA "BaseException" (by decide) hm]))
 have N:Looks (model prog w) hp (isExcClass (.ref e)) false:=(L hp vs he).andThen .now;have Z:Looks (model prog w) hp (excFromValue (.ref e) "exceptions must derive from BaseException") (.ref e):=by
  unfold excFromValue;refine N.andThen ?_;rw[if_neg Bool.false_ne_true];refine S.andThen ?_;rw[if_pos rfl];exact .now
 refine wpAny_bind (wpAny_holding (Z.at ?_));dsimp only;rw[if_pos (by rfl)];refine wpAny_bind (wpAny_pure (wpAny_bind (wpAny_setField he rfl (by omega) (wpAny_bind ?_))));have e3:(hp.update e (Obj.mapFields (·.setIfInBounds 3 .none))).get? e=some (ju C dct (vs.setIfInBounds 3 .none)):=Heap.get?_update_self _ he rfl;refine wpAny_setField e3 rfl (by simp;omega) ?_;have e4:((hp.update e (Obj.mapFields (·.setIfInBounds 3 .none))).update e (Obj.mapFields (·.setIfInBounds 4 (.bool true)))).get? e=some (ju C dct ((vs.setIfInBounds 3 .none).setIfInBounds 4 (.bool true))):=Heap.get?_update_self _ e3 rfl;have k4:∀ b,b≠e->((hp.update e (Obj.mapFields (·.setIfInBounds 3 .none))).update e (Obj.mapFields (·.setIfInBounds 4 (.bool true)))).get? b=hp.get? b:=λ b hb=>(so _ _ b hb).trans (so _ _ b hb);generalize (hp.update e (Obj.mapFields (·.setIfInBounds 3 .none))).update e (Obj.mapFields (·.setIfInBounds 4 (.bool true)))=h4 at e4 k4;refine wpAny_bind ((L h4 _ e4).at ?_);rw[if_neg Bool.false_ne_true];have Y:=looks_typeIn (M:=model prog w) (X h4 k4) ty;have R:Looks (model prog w) h4 (raisedInstance (.ref e)) (.ref e):=(T h4 _ e4).andThen (Y.andThen (by rw[if_pos (by decide)];exact .now));refine wpAny_bind (R.at ?_);unfold setFlight;have v1:((vs.setIfInBounds 3 .none).setIfInBounds 4 (.bool true))[1]? =some .none:=by simpa using h1
 refine wpAny_bind (wpAny_bind (wpAny_field e4 rfl v1 ?_));rw[if_neg (by decide)];refine wpAny_pure ?_;unfold raiseNew;refine wpAny_bind (wpAny_handled ?_);rw[hh];dsimp only;rw[if_pos (show(Value.ref h0 != Value.ref e)=true from by simp;exact Ne.symm ne)];refine wpAny_bind (wpAny_holding (aak ((k4 h0 (Ne.symm ne)).trans hh0) h02 λ _=>?_));unfold updateField;refine wpAny_bind (wpAny_bind (wpAny_load e4 ?_));dsimp only;rw[if_pos (by simp;omega)];refine wpAny_update e4 (wpAny_throw (q _ (Heap.get?_update_self _ e4 rfl) λ b hb=>(so _ _ b hb).trans (k4 b hb)))
end
end XO
namespace L2
open XO
theorem cX.make{k:Nat}{A:Around}(r:cX (k+1) A)(C:Addr)(us:List Value)(kw:List (Str×Value)):cX k (A.under (.builtin "type.__call__" ⟨.ref C::us,kw⟩)):=
 ⟨(by first | exact r.gd | (simpa [Around.under,Code.isGuard,Code.frames,Code.isFrame,guardIds] using r.gd)),by have:=r.dp;rw[mP];omega,by have:=r.un;rw[mK];omega⟩
abbrev Cx.gq(X:Cx)(a:Addr):Cx:={X with A:=X.A.mark (some (.ref a)),calm:=false}
theorem Inv.gq(I:Inv X pins σ H s)(a:Addr):Inv (X.gq a) pins σ H s:=
 ⟨⟨I.ok.mod,I.ok.kind,I.ok.glob,I.ok.blt,I.ok.above,I.ok.inj,I.ok.has,I.ok.cab,(λ z=>nomatch z),I.ok.frames,I.ok.stk,I.ok.exf,I.ok.bs,I.ok.bsz,I.ok.noex,I.ok.exfs,I.ok.oF,I.ok.frf⟩,I.os,I.bare,I.base,I.loc,I.cell,I.free,I.freeC,I.pin,I.hok,I.len⟩
theorem Inv.fY{a:Addr}(ok:X.Ok)(I:Inv (X.gq a) pins σ H s):Inv X pins σ H s:=⟨ok,I.os,I.bare,I.base,I.loc,I.cell,I.free,I.freeC,I.pin,I.hok,I.len⟩
section
variable {P:Program}{w:World}{K:FG}{mg:Str->Option Value}{base:Heap}{C f:Addr}{fd:FuncData}{qual:Str}{st:Stmt}
theorem ahf{p g:Str}{p1 p2 p3 p4:Pos}(F:Fun K "__init__" qual st f fd)(S:aK ["self",p] ["self",p] (ao st))(c:XC K C)(n:qD K C g)
  (hb:bj st=[.Assign [.Attribute (.Name "self" p1) g p2] (.Name p p3) p4])(hs:∀ env,swapsWith (.Name p p3) (some (.Attribute (.Name "self" p1) g p2)) p4.line env=pure false)(hp:(p==("__debug__" : Str))=false)(hc:(p==("__classdict__" : Str))=false):qY P w K mg base CX0 1 f fd ["self",p] (yn C [g]):=by
 refine F.okH (k:=0) S (λ vs H Q E ⟨e,ys,us,h1,h2,_⟩=>by rw[h1,List.length_cons,h2];rfl) λ cdv A outer s H vs Q E hr h=>?_;obtain⟨e,ys,us,rfl,h2,h3,q⟩:=h;obtain⟨y,rfl⟩:∃ y,ys=[y]:=by
  match ys,h2 with
  | [y],_=>exact⟨y,rfl⟩
 rw[hb];have v1:=S.par "self" (by simp);have v2:=S.par p (by simp);refine⟨_,zO (aiR c n (xX (i:=0) rfl (v1.elim .inl λ z=>.inr (.inl z)) (by decide) (by decide)) (xX (i:=1) rfl (v2.elim .inl λ z=>.inr (.inl z)) hp hc) (hs _)),?_⟩;exact⟨y,rfl,.ref e,rfl,e,us,rfl,h3,λ dx hd ne=>q dx hd ne⟩
end
end L2
namespace D
open L2 XO
section
variable {X:Cx}{pos p cpos:Pos}{k:Nat}{f C:Addr}{fd:FuncData}{ps fs:List Str}{x:Str}{e:Expr}{es:List Expr}{t:TAd}{E:XE}
def zV(C:Addr)(fs:List Str)(E:XE)(a0:Addr)(t:TAd)(_:Ed)(τ:DS)(M:MH):Prop:=t τ M λ ws M1=>ws.length=fs.length/\ws.length<=1000/\(∃ C0,M1 a0=some (.exc C0 []))/\∀ a,M1 a=none->E a τ (cn M1 a (.exc C (fs.zip ws)))
variable {body suite:List Stmt}{b0:Stmt}{hs:List ExceptHandler}{th rest:Addr->TSd}{np hpos:Pos}
def xu(tab:Addr->Option Bool)(ts:Addr->TSd)(rest:Addr->TSd)(a:Addr)(D:Ed)(τ:DS)(M:MH):Prop:=∃ C fs b,M a=some (.exc C fs)/\tab C=some b/\if b=true then ts a D τ M else rest a D τ M
theorem acQ{E:XE}{tsx:Addr->TSd}(L:Lk X E)(hPA:∀ hd,PassesOwnAt (model X.prog X.w) (X.A.mark hd) X.A X.env X.xe){Dc:Addr}{tab:Addr->Option Bool}(hg:Gl X x)(hm:X.mg x=some (.ref Dc))(ht:∀ C b,tab C=some b->W.exmOne X.K (.ref C) (.ref Dc)=some b)
  (hsu:∀ a,Lk (X.gq a) E->lO (X.gq a) (b0::suite) (tsx a))(hr:PHd X hs rest)(hdb:ND x:=by decide):PHd X (.ExceptHandler (some (.Name x np)) none (b0::suite) hpos::hs) (xu tab tsx rest):=by
 intro pins σ H s a Dn I air h;obtain⟨τ,M,Dd,A,⟨C,fs,b,hma,htb,h⟩,k1,k2,k3,k4⟩:=h;obtain⟨dct,vs,he⟩:=Air.cls air A.mem hma;refine wpAny_handleBy_cons (xH I hg hm he (ht C b htb) hdb ?_) (by intro q;cases q);cases b with
 | false=>exact hr pins σ H s a Dn I air ⟨τ,M,Dd,A,h,k1,k2,k3,k4⟩
 | true =>
  rw[if_pos rfl] at h;refine codeAny_handlers_suite (air.acy ?_);refine wpAny_mono (hsu a (λ pins σ H s b τ M J air ab e=>L pins σ H s b τ M (J.fY I.ok) air ab e) pins s σ H Dn (I.gq a) ⟨τ,M,Dd,A,h,k1,k2,k3,k4⟩) (λ f s3 q=>?_) λ _ _ z=>hPA _ _ _ z;cases f with
  | next=>obtain⟨σ3,H3,J3,q⟩:=q;exact⟨_,H3,J3.fY I.ok,q⟩
  | brk=>obtain⟨σ3,H3,J3,q⟩:=q;exact⟨_,H3,J3.fY I.ok,q⟩
  | cont=>obtain⟨σ3,H3,J3,q⟩:=q;exact⟨_,H3,J3.fY I.ok,q⟩
  | ret u=>obtain⟨v,σ3,H3,J3,r,q⟩:=q;exact⟨v,_,H3,J3.fY I.ok,r,q⟩
end
section
variable {X:Cx}{pos p cpos:Pos}{k:Nat}{f C:Addr}{fd:FuncData}{ps fs:List Str}{x:Str}{e:Expr}{es:List Expr}{t:TAd}{E:XE}
theorem sQ{a0:Addr}{cx:Expr}(hh:X.A.handled=some (.ref a0))(hne:fs≠[])(hcv:eval cx X.env=pure Value.none)(L:Lk X E)(c:Xm X.K C f)(F:qY X.prog X.w X.K X.mg X.base CX0 k f fd ps (yn C fs))(hr:cX (k+1) X.A)(hg:Gl X x)(hm:X.mg x=some (.ref C))(hb:L2.Binds X.K fd ps [])(ha:Jd (PAd X (e::es) t))
  (hdb:ND x:=by decide)(h1:dZ e=false:=by rfl)(h2:(es.all λ e=>!dZ e)=true:=by rfl):Jd (PSd X (.Raise (some (.Call (.Name x p) (e::es) [] cpos)) (some cx) pos) (zV C fs E a0 t)):=⟨have ha:=ha.h;by
 intro pins s σ H D I h;obtain⟨τ,M,Dd,A,h,_⟩:=h;rw[arm_exec_Raise];refine wpAny_bind (wpAny_standAt (aeW (K:=X.K) hh (λ s1 R q=>by show wpAny _ _ (eval cx X.env >>= _) _ _ _;rw[hcv];exact wpAny_bind (wpAny_pure (wpAny_bind (wpAny_standAt (wpAny_pure q))))) (wpAny_bind ?_)));refine wpAny_Call_Name_kw (gi I hg hm ?_ hdb);refine W.callWith_K (h₀:=X.base) I.ok.mod.kin c.kp (thn (ha cpos pins s σ H (λ vs H1=>∃ ws M1,Kp H H1/\ba X.K H1 ws vs/\cH X.K H1 M1/\ws.length=fs.length/\ws.length<=1000/\(∃ C0,M1 a0=some (.exc C0 []))/\∀ a,M1 a=none->E a τ (cn M1 a (.exc C (fs.zip ws)))) I
  ⟨τ,M,_,A,h,λ vs H1 ws M1 kp r m q=>⟨ws,M1,kp,r,m,q⟩⟩) λ us s1 ⟨vs,H1,I1,r,ws,M1,kp,rw1,m1,hl,hz,⟨C0,hM0⟩,q⟩=>⟨I1.kIn,?_⟩) (bH e es X.env h1) (cL cpos X.env es h2)
 have hlv:vs.length=fs.length:=by rw[<- rw1.length];exact hl
 have e0:H1 (s1.heap.objs.size+1)=none:=I1.hok.fresh (Nat.le_succ _);have J:Inv X pins σ (upd H1 (s1.heap.objs.size+1) (.ext (XV (s1.heap.objs.size+1) C none #[.ref s1.heap.objs.size,.none,.none,.none,.bool false,.none]))) {s1 with heap:=(s1.heap.push {cls:=.type "tuple",data:=.seq us.toArray}).push (rq C s1.heap.objs.size)}:=by
  have I2:=I1.kept (t':=s1.toks) (h':=s1.heap.push {cls:=.type "tuple",data:=.seq us.toArray}) λ b u z=>Heap.get?_push_of_some _ z;refine I2.laid (t':=s1.toks) (λ b u z=>Heap.get?_push_of_some _ z) (by show(s1.heap.push _).objs.size<=_;rw[Heap.size_push];exact Nat.le_refl _) (aek ?_);have:=Heap.get?_push_size (s1.heap.push {cls:=.type "tuple",data:=.seq us.toArray}) (o:=rq C s1.heap.objs.size) rfl
  rwa[Heap.size_push] at this
 have r2:Vals (V.ref (s1.heap.objs.size+1)::vs) (Value.ref (s1.heap.objs.size+1)::us):=.cons rfl r;refine agA (h:=s1.heap) (g:=s1.gens) (d:=s1.drawn) (t:=s1.toks) (os:=s1.os) I1.kIn c.xc c.xm c.hi c.hf (by show us.length<=_;have:=r.length;have:=rw1.length;have:=s16;omega) ?_;have hq:=F.len (V.ref (s1.heap.objs.size+1)::vs) (upd H1 (s1.heap.objs.size+1) (.ext (XV (s1.heap.objs.size+1) C none #[.ref s1.heap.objs.size,.none,.none,.none,.bool false,.none])))
  (λ v H3=>v=.non/\∃ dx,(upd H1 (s1.heap.objs.size+1) (.ext (XV (s1.heap.objs.size+1) C none #[.ref s1.heap.objs.size,.none,.none,.none,.bool false,.none]))) dx=none/\dx≠s1.heap.objs.size+1 /\
   H3=upd (upd (upd H1 (s1.heap.objs.size+1) (.ext (XV (s1.heap.objs.size+1) C none #[.ref s1.heap.objs.size,.none,.none,.none,.bool false,.none]))) dx (.ext (DX dx (fs.zip vs)))) (s1.heap.objs.size+1) (.ext (XV (s1.heap.objs.size+1) C (some dx) #[.ref s1.heap.objs.size,.none,.none,.none,.bool false,.none]))) E0
  ⟨_,vs,_,rfl,hlv,ar,λ dx hd ne=>⟨rfl,dx,hd,ne,rfl⟩⟩
 have bnd:=hb {s1 with heap:=(s1.heap.push {cls:=.type "tuple",data:=.seq us.toArray}).push (rq C s1.heap.objs.size)} (Value.ref (s1.heap.objs.size+1)::us) J.kIn (by rw[List.append_nil,<- r2.length];exact hq);rw[List.append_nil] at bnd;refine wpAny_call (codeAny_mono (F.run _ X.stack {s1 with heap:=(s1.heap.push {cls:=.type "tuple",data:=.seq us.toArray}).push (rq C s1.heap.objs.size)} _ ⟨Value.ref (s1.heap.objs.size+1)::us,[]⟩ _ _ (λ v H3=>v=.non/\∃ dx,(upd H1 (s1.heap.objs.size+1) (.ext (XV (s1.heap.objs.size+1) C none #[.ref s1.heap.objs.size,.none,.none,.none,.bool false,.none]))) dx=none/\dx≠s1.heap.objs.size+1 /\
   H3=upd (upd (upd H1 (s1.heap.objs.size+1) (.ext (XV (s1.heap.objs.size+1) C none #[.ref s1.heap.objs.size,.none,.none,.none,.bool false,.none]))) dx (.ext (DX dx (fs.zip vs)))) (s1.heap.objs.size+1) (.ext (XV (s1.heap.objs.size+1) C (some dx) #[.ref s1.heap.objs.size,.none,.none,.none,.bool false,.none]))) E0
  (hr.make C us []) (J.ahp.make C us []) bnd r2 ⟨_,vs,_,rfl,hlv,ar,λ dx hd ne=>⟨rfl,dx,hd,ne,rfl⟩⟩) λ rr s' hq'=>?_)
 cases rr with
 | error e=>exact False.elim hq'
 | ok fl =>
  cases fl with
  | next=>exact False.elim hq'
  | brk=>exact False.elim hq'
  | cont=>exact False.elim hq'
  | ret u =>
   obtain⟨v,H3,I3,rv,ev,dx,hd,ne,eH⟩:=J.after hq';subst ev;refine⟨rv,wpAny_bind (wpAny_standAt (wpAny_pure ?_))⟩;generalize ha0:s1.heap.objs.size+1=a at *;generalize hu0:(#[.ref s1.heap.objs.size,.none,.none,.none,.bool false,.none]:Array Value)=u0 at *;have e3a:H3 a=some (.ext (XV a C (some dx) u0)):=by rw[eH,ar]
   have e3d:H3 dx=some (.ext (DX dx (fs.zip vs))):=by rw[eH,aq ne,ar]
   have oa:s'.heap.get? a=some (ju C (some dx) u0):=(I3.hok a _ e3a).1;obtain⟨⟨mA,n1,r1,w1⟩,⟨od,hod⟩,_⟩:=I3.hok dx _ e3d;have I4:=I3.write (x:=dx) (e:=dx) (o:=.frz od (.xd (fs.zip vs))) (h':=s'.heap) (t':=s'.toks) (by rw[e3d];exact True.intro) (.inl rfl) (λ b q _ z=>z) ⟨od,hod⟩ ⟨hod,mA,n1,r1⟩;have e4a:(upd H3 dx (.frz od (.xd (fs.zip vs)))) a=some (.ext (XV a C (some dx) u0)):=by rw[aq (Ne.symm ne)];exact e3a
   have e0':H1 a=none:=e0;obtain⟨φ0,dct0,h01,h02,h03⟩:=m1 a0 _ hM0;have ne0:a≠a0:=λ z=>by rw[z] at e0';rw[e0'] at h01;cases h01
   have hdx:H1 dx=none:=by rw[aq ne] at hd;exact hd
   have ne1:dx≠a0:=λ z=>by rw[z] at hdx;rw[hdx] at h01;cases h01
   have h04:H3 a0=some (.ext φ0):=by rw[eH,aq (Ne.symm ne0),aq (Ne.symm ne1),aq (Ne.symm ne0)];exact h01
   obtain⟨vs0,g01,g02⟩:=h02 s'.heap (I3.hok a0 _ h04).1;have ka:∀ o,X.K.lookup a≠some o:=λ o z=>by have h1:a<s1.heap.objs.size:=Heap.lt_size (I1.kIn a o z);exact Nat.lt_irrefl _ (Nat.lt_of_lt_of_le h1 (ha0 ▸ Nat.le_succ _))
   refine⟨a,C,some dx,u0,C0,dct0,vs0,rfl,λ h' g b o hb=>?_,c.xc.x,c.ty,oa,by rw[<- hu0];rfl,by rw[<- hu0];rfl,ne0,g01,g02 rfl,λ h' g1 g2=>?_⟩
   ·have hba:b≠a:=λ z=>ka o (z ▸ hb);exact(g b hba).trans (I3.kIn b o hb)
   have I5:=I4.write (x:=a) (e:=a) (o:=.ext (XF a C (some dx) false)) (h':=h') (t':=s'.toks) (by rw[e4a];exact True.intro) (.inl rfl) (λ b q hb z=>(g2 b hb).trans z) ⟨_,g1⟩ (abG g1 λ z=>nomatch z);have at5:∀ b,b≠a->b≠dx->(upd (upd H3 dx (.frz od (.xd (fs.zip vs)))) a (.ext (XF a C (some dx) false))) b=H1 b:=λ b z1 z2=>by rw[aq z1,aq z2,eH,aq z1,aq z2,aq z1]
   have st:∀ b u,H1 b=some u->(upd (upd H3 dx (.frz od (.xd (fs.zip vs)))) a (.ext (XF a C (some dx) false))) b=some u:=λ b u z=>by rw[at5 b (λ y=>by rw[y,e0] at z;cases z) (λ y=>by rw[y,hdx] at z;cases z)];exact z
   have k5:Kp H1 (upd (upd H3 dx (.frz od (.xd (fs.zip vs)))) a (.ext (XF a C (some dx) false))):=⟨λ b xs z=>st b _ z,λ b o u z=>st b _ z⟩;have hnz:fs.zip ws≠[]:=λ z=>by
    have:=congrArg List.length z;rw[List.length_zip,hl] at this;cases fs with
    | nil=>exact hne rfl
    | cons _ _=>simp at this
   have m5:cH X.K (upd (upd H3 dx (.frz od (.xd (fs.zip vs)))) a (.ext (XF a C (some dx) false))) (cn M1 a (.exc C (fs.zip ws))):=λ b mo z=>by
    by_cases hb:b=a
    ·subst hb;rw[aA] at z;cases z;exact⟨_,some dx,ar,λ h ⟨vs,y,_⟩=>⟨vs,y,λ z=>absurd z hnz⟩,.inr ⟨dx,od,fs.zip vs,rfl,by rw[aq ne,ar],oJ fs (rw1.keep k5)⟩⟩
    ·rw[aR hb] at z;exact(m1 b mo z).keep k5 λ u y=>st b u y
   exact L pins σ _ _ a τ _ I5 ⟨C,some dx,_,false,ar,g1,.inl (by rw[<- hu0];rfl),λ z=>nomatch z⟩ (A.go (kp.trans k5) m5) (q a (m1.free e0))⟩
variable {suite:List Stmt}{b0:Stmt}{hs:List ExceptHandler}{rest:Addr->TSd}{np hpos:Pos}
theorem adW{tsx:Addr->TSd}{Dc:Addr}{l:List (Addr×Bool)}(L:Lk X E)(hPA:∀ hd,PassesOwnAt (model X.prog X.w) (X.A.mark hd) X.A X.env X.xe)(hg:Gl X x)(hm:X.mg x=some (.ref Dc))(ht:m8 (λ C b=>W.exmOne X.K (.ref C) (.ref Dc)=some b) l)
  (hsu:∀ a,Lk (X.gq a) E->Jd (lO (X.gq a) (b0::suite) (tsx a)))(hr:Jd (PHd X hs rest))(hdb:ND x:=by decide):Jd (PHd X (.ExceptHandler (some (.Name x np)) none (b0::suite) hpos::hs) (xu (wj l) tsx rest)):=⟨D.acQ L hPA hg hm ht.of (λ a h=>(hsu a h).h) hr.h hdb⟩
end
end D
namespace K16
open L2 D Rc Stc
abbrev kD:Addr:=34
abbrev hV:Addr:=47
abbrev dw:Addr:=55
abbrev cT:Addr:=86
abbrev aV:Addr:=99
abbrev aN:Addr:=118
abbrev iw:Addr:=137
abbrev dr:Addr:=161
def fF:List (Str×PyData):=[("share",.tuple [.int (1),.int (9)]),("copies",.tuple [.int (0),.int (6)]),("keep",.tuple [.int (0),.int (5)]),("start",.tuple [.int (0),.int (2)]),("hands",.tuple [.int (1),.int (3)]),("place",.tuple [.int (0),.int (7)]),("asks",.tuple [.int (1),.int (20)])]
def f9:List (Str×PyData):=[("group",.tuple [.str "word",.str "share"]),("wish",.tuple [.str "word",.str "word",.str "copies",.str "keep",.str "start",.str "hands"]),("copies",.tuple [.str "word",.str "copies",.str "keep"]),("edition",.tuple [.str "word",.str "start",.str "hands"]),("back",.tuple [.str "word"]),("rank",.tuple [.str "word",.str "place"]),("store",.tuple [.str "word",.str "word"]),("door",.tuple [.str "word",.str "word"]),("rule",.tuple [.str "word",.str "word",.str "asks",.str "copies",.str "keep"]),("empty",.tuple [.str "word"]),("fill",.tuple [.str "word"]),("end",.tuple [.str "sort",.str "word"])]
abbrev pH:List Str:=["_law_found"]
def qf:TSd:=
  aW (cv (uY [(dC (.d (.str "group")),dC (.d (.str "ws"))),(dC (.d (.str "wish")),dC (.d (.str "wwckth"))),(dC (.d (.str "copies")),dC (.d (.str "wck"))),(dC (.d (.str "edition")),dC (.d (.str "wth"))),(dC (.d (.str "back")),dC (.d (.str "w"))),(dC (.d (.str "rank")),dC (.d (.str "wp")))]) (gN 0)) <|
  aW (jq (agZ (aj 0) (aeq [(dC (.d (.str "store")),dC (.d (.str "ww"))),(dC (.d (.str "door")),dC (.d (.str "ww"))),(dC (.d (.str "rule")),dC (.d (.str "wwack"))),(dC (.d (.str "empty")),dC (.d (.str "w"))),(dC (.d (.str "fill")),dC (.d (.str "w"))),(dC (.d (.str "end")),dC (.d (.str "ew")))]))) <|
  bR (aj 0)
abbrev m7:List Str:=["_law_bag_here", "_law_low", "_law_high"]
def mz(az:SpD):TSd:=
  bR (dOp dQ (wm (af (aj 1) (af (aj 2) (af (dOp bA (aj 1) (aU az (af (aj 0) (af (dOp bA (dOp qa (aj 2) (aj 1)) (dC (.d (.int 1)))) (aF))))) (aF))))) (dCB ab3 (af (dC (.d (.int 2))) (af (aU az (af (aj 0) (af (dC (.d (.int 4))) (aF)))) (aF)))))
abbrev oI:List Str:=["_law_bag_here", "_law_some", "_law_letters"]
def n9(az:SpD):TSd:=
  aW (cv (wm (af (dC (.d (.str "a"))) (af (dC (.d (.str "b"))) (af (dC (.d (.str "web"))) (af (dC (.d (.str "hand"))) (af (dC (.d (.str "wish"))) (af (dC (.d (.str "end"))) (af (dC (.d (.str "copies"))) (af (dC (.d (.str "abcdefgh"))) (af (dC (.d (.str "store"))) (af (dC (.d (.str "ab"))) (aF)))))))))))) (gN 1)) <|
  aW (cv (dC (.d (.str "abcdefghijklmnopqrstuvwxyz"))) (gN 2)) <|
  aW (dIf (aJ (dOp aa5 (aU az (af (aj 0) (af (dC (.d (.int 3))) (aF)))) (dC (.d (.int 0)))))
   (bR (dOp dQ (aj 1) (aU az (af (aj 0) (af (dC (.d (.int 10))) (aF))))))
   (bh)) <|
  bR (dMS ie (dC (.d (.str ""))) (af (dLC (sY (af (dOp bA (dC (.d (.int 1))) (aU az (af (aj 0) (af (dC (.d (.int 8))) (aF))))) (aF))) (gN 0) (pb) (dOp dQ (aj 1) (aU az (af (aj 2) (af (dC (.d (.int 26))) (aF))))) 1 [2,0]) aF))
abbrev my:List Str:=["_law_code"]
def mO:TSd:=
  bR (aau (uY [(dC (.d (.str "s")),iI (af (dC (.d (.int 1))) (af (dC (.d (.int 9))) (aF)))),(dC (.d (.str "c")),iI (af (dC (.d (.int 0))) (af (dC (.d (.int 6))) (aF)))),(dC (.d (.str "k")),iI (af (dC (.d (.int 0))) (af (dC (.d (.int 5))) (aF)))),(dC (.d (.str "t")),iI (af (dC (.d (.int 0))) (af (dC (.d (.int 2))) (aF)))),(dC (.d (.str "h")),iI (af (dC (.d (.int 1))) (af (dC (.d (.int 3))) (aF)))),(dC (.d (.str "p")),iI (af (dC (.d (.int 0))) (af (dC (.d (.int 7))) (aF)))),(dC (.d (.str "a")),iI (af (dC (.d (.int 1))) (af (dC (.d (.int 20))) (aF))))]) (aj 0))
abbrev tM:List Str:=["_law_bag_here", "_law_code", "_law_low", "_law_high"]
def uK(de:SpD)(az:SpD)(bw:SpD)(bu:SpD):TSd:=
  aW (dIf (aJ (dOp dh (aj 1) (dC (.d (.str "w")))))
   (bR (aU de (af (aj 0) (aF))))
   (bh)) <|
  aW (dIf (aJ (dOp dh (aj 1) (dC (.d (.str "e")))))
   (bR (dOp dQ (wm (af (dC (.d (.str "wish"))) (af (dC (.d (.str "store"))) (af (dC (.d (.str "door"))) (af (dC (.d (.str "rule"))) (aF)))))) (aU az (af (aj 0) (af (dC (.d (.int 4))) (aF))))))
   (bh)) <|
  aW (cv (aU bw (af (aj 1) (aF))) (gT 2 (dU (gN 2) (dU (gN 3) (qK))))) <|
  bR (aU bu (af (aj 0) (af (aj 2) (af (aj 3) (aF)))))
abbrev tJ:List Str:=["_law_bag_here", "_law_codes_here", "_law_word_here", "_law_found", "_law_code"]
def uv(bf:SpD)(az:SpD)(bu:SpD)(dH:SpD):TSd:=
  aW (cv (aU bf aF) (gN 1)) <|
  aW (cv (dOp dQ (abO (dCB xA (af (aj 1) (aF)))) (aU az (af (aj 0) (af (dC (.d (.int 12))) (aF))))) (gN 2)) <|
  aW (cv (vC (af (aj 2) (aF))) (gN 3)) <|
  aW (yP (dI (aau (aj 1) (aj 2))) (gN 4)
   (dIf (aJ (dOp dh (aj 4) (dC (.d (.str "k")))))
    (jq (gx (aj 3) (aU bu (af (aj 0) (af (dC (.d (.int 0))) (af (dCB ub (af (dC (.d (.int 0))) (af (dOp qa (dOp dQ (aj 3) (dUn vS (dC (.d (.int 1))))) (dC (.d (.int 1)))) (aF)))) (aF)))))))
    (jq (gx (aj 3) (aU dH (af (aj 0) (af (aj 4) (aF)))))))) <|
  bR (dCB gp (af (aj 3) (aF)))
abbrev k7:List Str:=["_law_number_here", "_law_found"]
def jS:TSd:=
  aW (cv (dC (.d (.str ""))) (gN 1)) <|
  aW (acn (aJ (dOp aa5 (aj 0) (dC (.d (.int 9)))))
   (aW (cv (dOp bA (dOp dQ (dC (.d (.str "0123456789"))) (dOp fE (aj 0) (dC (.d (.int 10))))) (aj 1)) (gN 1)) <|
   cv (dOp v8 (aj 0) (dC (.d (.int 10)))) (gN 0))) <|
  bR (dOp bA (dOp dQ (dC (.d (.str "0123456789"))) (aj 0)) (aj 1))
abbrev kj:List Str:=["_law_thing", "_law_found", "_law_part_here"]
def lu(bY:SpD):TSd:=
  aW (cv (dOp dQ (aj 0) (dC (.d (.int 0)))) (gN 1)) <|
  aW (yP (dI (dSl (aj 0) (dq (dC (.d (.int 1)))) (bJ))) (gN 2)
   (dIf (aJ (dCB cS (af (aj 2) (af (dC (.t "str")) (aF)))))
    (cv (dOp bA (dOp bA (aj 1) (dC (.d (.str " ")))) (aj 2)) (gN 1))
    (cv (dOp bA (dOp bA (aj 1) (dC (.d (.str " ")))) (aU bY (af (aj 2) (aF)))) (gN 1)))) <|
  bR (aj 1)
abbrev jf:List Str:=["parts"]
def jk:TSd:=
  bR (dMS ie (dC (.d (.str " "))) (af (dLC (dI (aj 0)) (gN 0) (pb) (dCB afk (af (aj 0) (aF))) 1 []) aF))
abbrev kE:List Str:=["deed"]
def lK(bN:SpD):TSd:=
  bR (aU bN (af (aj 0) (aF)))
abbrev jn:List Str:=["deeds"]
def jc(cb:SpD):TSd:=
  bR (dMS ie (dC (.d (.str ""))) (af (dLC (dI (aj 0)) (gN 0) (pb) (dOp bA (aU cb (af (aj 0) (aF))) (dC (.d (.str "\n")))) 1 []) aF))
abbrev qX:List Str:=["self", "at"]
abbrev iH:List Str:=["text"]
def iE:TSd:=
  aW (dIf (lN (aJ (fq o9 o9 (dC (.d (.int 1))) (dCB dJ (af (aj 0) (aF))) (dC (.d (.int 10))))))
   (bR (dC (.d .none)))
   (bh)) <|
  aW (dIf (lN (aJ (dCB vV (af (dLC (dI (aj 0)) (gN 0) (pb) (dOp aaV (aj 0) (dC (.d (.str "0123456789")))) 1 []) (aF)))))
   (bR (dC (.d .none)))
   (bh)) <|
  aW (dIf (ae9 (aJ (dOp dh (dOp dQ (aj 0) (dC (.d (.int 0)))) (dC (.d (.str "0"))))) (aJ (dOp iD (aj 0) (dC (.d (.str "0"))))))
   (bR (dC (.d .none)))
   (bh)) <|
  bR (dCB yr (af (aj 0) (aF)))
abbrev lH:List Str:=["form", "text"]
def lq(bB:SpD):TSd:=
  bR (aiA (aJ (aiH fF (aj 0))) (aU bB (af (aj 1) (aF))) (aj 1))
abbrev j9:List Str:=["thing"]
def kY:TSd:=
  aW (dIf (dOr (lN (aJ (dCB cS (af (aj 0) (af (dC (.t "str")) (aF)))))) (lN (aJ (fq o9 o9 (dC (.d (.int 1))) (dCB dJ (af (aj 0) (aF))) (dC (.d (.int 8)))))))
   (bR (dC (.d (.bool false))))
   (bh)) <|
  bR (dCB vV (af (dLC (dI (aj 0)) (gN 0) (pb) (fq o9 o9 (dC (.d (.str "a"))) (aj 0) (dC (.d (.str "z")))) 1 []) (aF)))
abbrev iN:List Str:=["thing"]
def iP:TSd:=
  bR (jo (dCB cS (af (aj 0) (af (dC (.t "int")) (aF)))) (xk (dCB cS (af (aj 0) (af (dC (.t "bool")) (aF))))))
abbrev gO:List Str:=["thing", "low", "high"]
def gU(bI:SpD):TSd:=
  bR (jo (aU bI (af (aj 0) (aF))) (fq o9 o9 (aj 1) (aj 0) (aj 2)))
abbrev rf:List Str:=["form", "part", "low", "high"]
def p7(cG:SpD)(bP:SpD):TSd:=
  aW (dIf (aJ (dOp dh (aj 0) (dC (.d (.str "word")))))
   (bR (aU cG (af (aj 1) (aF))))
   (bh)) <|
  aW (dIf (aJ (dOp dh (aj 0) (dC (.d (.str "sort")))))
   (bR (jo (dCB cS (af (aj 1) (af (dC (.t "str")) (aF)))) (dOp (vQ false) (aj 1) (dC (.d (.tuple [.str "wish", .str "store", .str "door", .str "rule"]))))))
   (bh)) <|
  aW (cv (aiY fF (aj 0)) (gT 2 (dU (gN 2) (dU (gN 3) (qK))))) <|
  bR (aU bP (af (aj 1) (af (aj 2) (af (aj 3) (aF)))))
abbrev k9:List Str:=["forms", "deed", "copies", "keep"]
def lG:TSd:=
  aW (cv (dOp dQ (aj 1) (dOp bA (wA (aj 0) (dC (.d (.str "copies")))) (dC (.d (.int 1))))) (gN 2)) <|
  aW (cv (dOp dQ (aj 1) (dOp bA (wA (aj 0) (dC (.d (.str "keep")))) (dC (.d (.int 1))))) (gN 3)) <|
  bR (dOp o9 (aj 3) (dCB ub (af (dOp qa (aj 2) (dC (.d (.int 1)))) (af (dC (.d (.int 0))) (aF)))))
abbrev qw:List Str:=["thing", "forms", "form", "part"]
def pW(cU:SpD)(cm:SpD):TSd:=
  aW (dIf (dOr (lN (aJ (dCB cS (af (aj 0) (af (dC (.t "tuple")) (aF)))))) (dOr (lN (aiL (aj 0))) (lN (aJ (dCB cS (af (dOp dQ (aj 0) (dC (.d (.int 0)))) (af (dC (.t "str")) (aF))))))))
   (bR (dC (.d (.bool false))))
   (bh)) <|
  aW (cv (abT f9 (dOp dQ (aj 0) (dC (.d (.int 0))))) (gN 1)) <|
  aW (dIf (dOr (aJ (dOp (ye false) (aj 1) (dC (.d .none)))) (aJ (dOp iD (dCB dJ (af (aj 0) (aF))) (dOp bA (dCB dJ (af (aj 1) (aF))) (dC (.d (.int 1)))))))
   (bR (dC (.d (.bool false))))
   (bh)) <|
  aW (yP (afS (af (aj 1) (af (dSl (aj 0) (dq (dC (.d (.int 1)))) (bJ)) (aF)))) (gT 2 (dU (gN 2) (dU (gN 3) (qK))))
   (dIf (lN (aJ (aU cU (af (aj 2) (af (aj 3) (aF))))))
    (bR (dC (.d (.bool false))))
    (bh))) <|
  bR (ahE (dOp (vQ true) (dC (.d (.str "keep"))) (aj 1)) (aU cm (af (aj 1) (af (aj 0) (aF)))))
abbrev k6:List Str:=["text", "parts", "forms", "deed"]
def jL(Ex:XE)(cf:SpD)(cV:SpD):TSd:=
  aW (dIf (lN (aJ (dCB cS (af (aj 0) (af (dC (.t "str")) (aF))))))
   (n8 aV Ex (af (dC (.d (.str "this is no text"))) (aF)))
   (bh)) <|
  aW (cv (u6 (aj 0) (dC (.d (.str " ")))) (gN 1)) <|
  aW (cv (abT f9 (dOp dQ (aj 1) (dC (.d (.int 0))))) (gN 2)) <|
  aW (dIf (dOr (aJ (dOp (ye false) (aj 2) (dC (.d .none)))) (aJ (dOp iD (dCB dJ (af (aj 1) (aF))) (dOp bA (dCB dJ (af (aj 2) (aF))) (dC (.d (.int 1)))))))
   (n8 aV Ex (af (dC (.d (.str "this has not the parts of a deed"))) (aF)))
   (bh)) <|
  aW (cv (dCB gp (af (aiD (dSl (aj 1) (bJ) (dq (dC (.d (.int 1))))) (dLC (ab6 (af (aj 2) (af (dSl (aj 1) (dq (dC (.d (.int 1)))) (bJ)) (aF)))) (gT 2 (dU (gN 0) (dU (gN 1) (qK)))) (pb) (aU cf (af (aj 0) (af (aj 1) (aF)))) 2 [])) (aF))) (gN 3)) <|
  aW (dIf (lN (aJ (aU cV (af (aj 3) (aF)))))
   (n8 aV Ex (af (dC (.d (.str "this is no deed's text"))) (aF)))
   (bh)) <|
  bR (aj 3)
abbrev lg:List Str:=["text", "read", "rows", "rest", "things", "at", "row"]
def km(Ex:XE)(bW:SpX):TSd:=
  aW (dIf (lN (aJ (dCB cS (af (aj 0) (af (dC (.t "str")) (aF))))))
   (zH aN ["at"] Ex (af (dC (.d (.int 0))) (aF)))
   (bh)) <|
  aW (cv (zI (aj 0) (dC (.d (.str "\n")))) (gN 2)) <|
  aW (cv (ajt (aj 2)) (gN 3)) <|
  aW (cv (vC (aF)) (gN 4)) <|
  aW (tZ (yP (acr (af (aj 2) (aF))) (gT 2 (dU (gN 5) (dU (gN 6) (qK))))
   (ahy (λ Ex =>
    jq (gx (aj 4) (wR dr bW Ex (aj 1) (af (aj 6) (aF))))) (xu (wj [(aV, true)]) (λ xa =>
    zV aN ["at"] Ex xa (af (aj 5) (aF))) (λ _ _ _ _=>False))))) <|
  aW (dIf (aJ (dOp iD (aj 3) (dC (.d (.str "")))))
   (zH aN ["at"] Ex (af (dCB dJ (af (aj 2) (aF))) (aF)))
   (bh)) <|
  bR (aj 4)
abbrev jg:List Str:=["text"]
def jh(Ex:XE)(ck:SpX):TSd:=
  bR (px ck Ex (af (aj 0) (af (dC (.m dr)) (aF))))
abbrev uF:List Str:=["_law_bag_here", "_law_text", "_law_signs", "_law_sign", "_law_at", "_law_way", "_law_rest", "_law_far"]
def uB(az:SpD):TSd:=
  aW (cv (dC (.d (.str " 0123456789abcdefghijklmnopqrstuvwxyz\n.-+A:_"))) (gN 2)) <|
  aW (cv (dOp dQ (aj 2) (aU az (af (aj 0) (af (dCB dJ (af (aj 2) (aF))) (aF))))) (gN 3)) <|
  aW (cv (aU az (af (aj 0) (af (dOp bA (dCB dJ (af (aj 1) (aF))) (dC (.d (.int 1)))) (aF)))) (gN 4)) <|
  aW (cv (aU az (af (aj 0) (af (dC (.d (.int 7))) (aF)))) (gN 5)) <|
  aW (dIf (aJ (dOp adO (aj 5) (dC (.d (.int 2)))))
   (bR (dOp bA (dOp bA (dSl (aj 1) (bJ) (dq (aj 4))) (aj 3)) (dSl (aj 1) (dq (aj 4)) (bJ))))
   (bh)) <|
  aW (dIf (aJ (dOp dh (aj 5) (dC (.d (.int 2)))))
   (bR (dOp bA (dOp bA (dSl (aj 1) (bJ) (dq (aj 4))) (aj 3)) (dSl (aj 1) (dq (dOp bA (aj 4) (dC (.d (.int 1))))) (bJ))))
   (bh)) <|
  aW (dIf (aJ (dOp dh (aj 5) (dC (.d (.int 3)))))
   (bR (dOp bA (dSl (aj 1) (bJ) (dq (aj 4))) (dSl (aj 1) (dq (dOp bA (aj 4) (dC (.d (.int 1))))) (bJ))))
   (bh)) <|
  aW (dIf (aJ (dOp dh (aj 5) (dC (.d (.int 4)))))
   (bR (dOp bA (dOp bA (dSl (aj 1) (bJ) (dq (aj 4))) (agY (dSl (aj 1) (dq (aj 4)) (dq (dOp bA (aj 4) (dC (.d (.int 2)))))) (dq (dUn vS (dC (.d (.int 1))))))) (dSl (aj 1) (dq (dOp bA (aj 4) (dC (.d (.int 2))))) (bJ))))
   (bh)) <|
  aW (dIf (aJ (dOp dh (aj 5) (dC (.d (.int 5)))))
   (bR (dOp bA (dOp bA (dSl (aj 1) (bJ) (dq (aj 4))) (dC (.d (.str " ")))) (dSl (aj 1) (dq (aj 4)) (bJ))))
   (bh)) <|
  aW (cv (dSl (aj 1) (dq (aj 4)) (bJ)) (gN 6)) <|
  aW (cv (dOp bA (dMS zC (aj 6) (af (dC (.d (.str " "))) aF)) (dC (.d (.int 1)))) (gN 7)) <|
  bR (dOp bA (dOp bA (dSl (aj 1) (bJ) (dq (aj 4))) (dOp acd (dSl (aj 6) (bJ) (dq (aj 7))) (dC (.d (.int 2))))) (dSl (aj 6) (dq (aj 7)) (bJ)))
abbrev ni:List Str:=["_law_bag_here", "_law_rows", "_law_way", "_law_at", "_law_text"]
def mj(az:SpD)(cY:SpD):TSd:=
  aW (cv (dCB nQ (af (aj 1) (aF))) (gN 1)) <|
  aW (cv (aU az (af (aj 0) (af (dC (.d (.int 8))) (aF)))) (gN 2)) <|
  aW (cv (aU az (af (aj 0) (af (dOp bA (dCB dJ (af (aj 1) (aF))) (dC (.d (.int 1)))) (aF)))) (gN 3)) <|
  aW (dIf (ae9 (aJ (dOp adO (aj 2) (dC (.d (.int 2))))) (aJ (dOp adO (aj 3) (dCB dJ (af (aj 1) (aF))))))
   (cv (aU cY (af (aj 0) (af (dOp dQ (aj 1) (aj 3)) (aF)))) (z9 (aj 1) (aj 3)))
   (dIf (aJ (dOp dh (aj 2) (dC (.d (.int 2)))))
    (jq (ny (aj 1) (af (aj 3) (af (dC (.d (.str ""))) (aF)))))
    (dIf (ae9 (aJ (dOp dh (aj 2) (dC (.d (.int 3))))) (aJ (dOp adO (aj 3) (dCB dJ (af (aj 1) (aF))))))
     (jq (ny (aj 1) (af (aj 3) (af (dOp dQ (aj 1) (aj 3)) (aF)))))
     (dIf (aJ (dOp dh (aj 2) (dC (.d (.int 4)))))
      (jq (ny (aj 1) (af (aj 3) (af (dOp dQ (wm (af (dC (.d (.str "wish"))) (af (dC (.d (.str "back"))) (af (dC (.d (.str "fill m "))) (af (dC (.d (.str " fill m"))) (af (dC (.d (.str "end group a"))) (af (dC (.d (.str "rank a 8"))) (aF)))))))) (aU az (af (aj 0) (af (dC (.d (.int 6))) (aF))))) (aF)))))
      (bh))))) <|
  aW (cv (dMS ie (dC (.d (.str ""))) (af (wN (dLC (yk (aj 1)) (gN 0) (pb) (dOp bA (aj 0) (dC (.d (.str "\n")))) 1 [])) aF)) (gN 4)) <|
  aW (dIf (aJ (dOp dh (aj 2) (dC (.d (.int 5)))))
   (bR (dSl (aj 4) (bJ) (dq (dUn vS (dC (.d (.int 1)))))))
   (bh)) <|
  aW (dIf (aJ (dOp dh (aj 2) (dC (.d (.int 6)))))
   (bR (dOp bA (aj 4) (dOp dQ (wm (af (dC (.d (.str "back a"))) (af (dC (.d (.str " "))) (af (dC (.d (.str "a"))) (af (dC (.d (.str ":"))) (aF)))))) (aU az (af (aj 0) (af (dC (.d (.int 4))) (aF)))))))
   (bh)) <|
  aW (dIf (aJ (dOp dh (aj 2) (dC (.d (.int 7)))))
   (bR (aU cY (af (aj 0) (af (aj 4) (aF)))))
   (bh)) <|
  bR (aj 4)
abbrev ua:List Str:=["_law_thing", "e"]
def tU(aP:SpX):TSd:=
  ahy (λ Ex =>
   bR (iI (af (dC (.d (.str "told"))) (af (dCB gX (af (px aP Ex (af (aj 0) (aF))) (aF))) (aF))))) (acK (wj [(aN, true)]) 1
   (aW (dIf (dOr (lN (aJ (ae1 (wj [(aN, true)]) (aj 1)))) (dOr (lN (aJ (ae1 (wj [(aN, true)]) (aj 1)))) (aJ (ae1 (wj [(aN, false)]) (aj 1)))))
     (bR (iI (af (dC (.d (.str "odd"))) (af (dC (.d (.int 0))) (aF)))))
     (bh)) <|
    bR (iI (af (dC (.d (.str "refused"))) (af (aeZ [aN] (aj 1) "at") (aF))))) (λ _ _ _ _=>False))
abbrev fG:List Str:=["_law_text", "_law_total", "_law_sign"]
def iG:TSd:=
  aW (dIf (dOr (aJ (dOp dh (aj 0) (dC (.d (.str ""))))) (dOr (aJ (dOp aa5 (dCB dJ (af (aj 0) (aF))) (dC (.d (.int 2))))) (ae9 (aJ (dOp dh (dCB dJ (af (aj 0) (aF))) (dC (.d (.int 2))))) (aJ (dOp dh (dOp dQ (aj 0) (dC (.d (.int 0)))) (dC (.d (.str "0"))))))))
   (bR (dC (.d .none)))
   (bh)) <|
  aW (cv (dC (.d (.int 0))) (gN 1)) <|
  aW (yP (dI (aj 0)) (gN 2)
   (aW (dIf (aJ (dOp yx (aj 2) (dC (.d (.str "0123456789")))))
    (bR (dC (.d .none)))
    (bh)) <|
   cv (dOp bA (dOp gy (dC (.d (.int 10))) (aj 1)) (dMS nP (dC (.d (.str "0123456789"))) (af (aj 2) aF))) (gN 1))) <|
  bR (aj 1)
abbrev jW:List Str:=["_law_thing"]
def kO:TSd:=
  aW (dIf (dOr (lN (aJ (dCB cS (af (aj 0) (af (dC (.t "str")) (aF)))))) (dOr (aJ (dOp adO (dCB dJ (af (aj 0) (aF))) (dC (.d (.int 1))))) (aJ (dOp aa5 (dCB dJ (af (aj 0) (aF))) (dC (.d (.int 8)))))))
   (bR (dC (.d (.bool false))))
   (bh)) <|
  bR (dCB vV (af (dLC (dI (aj 0)) (gN 0) (pb) (dOp aaV (aj 0) (dC (.d (.str "abcdefghijklmnopqrstuvwxyz")))) 1 []) (aF)))
abbrev kh:List Str:=["_law_thing", "_law_low", "_law_high"]
def kT:TSd:=
  bR (jo (dCB cS (af (aj 0) (af (dC (.t "int")) (aF)))) (jo (xk (dCB cS (af (aj 0) (af (dC (.t "bool")) (aF))))) (fq o9 o9 (aj 1) (aj 0) (aj 2))))
abbrev u5:List Str:=["_law_code", "_law_thing", "_law_ahead", "_law_low", "_law_high"]
def uz(bV:SpD)(bw:SpD)(bD:SpD):TSd:=
  aW (dIf (aJ (dOp dh (aj 0) (dC (.d (.str "w")))))
   (bR (aU bV (af (aj 1) (aF))))
   (bh)) <|
  aW (dIf (aJ (dOp dh (aj 0) (dC (.d (.str "e")))))
   (bR (jo (dCB cS (af (aj 1) (af (dC (.t "str")) (aF)))) (dOp (vQ false) (aj 1) (wm (af (dC (.d (.str "wish"))) (af (dC (.d (.str "store"))) (af (dC (.d (.str "door"))) (af (dC (.d (.str "rule"))) (aF)))))))))
   (bh)) <|
  aW (cv (aU bw (af (aj 0) (aF))) (gT 2 (dU (gN 3) (dU (gN 4) (qK))))) <|
  aW (dIf (aJ (dOp dh (aj 0) (dC (.d (.str "k")))))
   (bR (jo (aU bD (af (aj 2) (af (dC (.d (.int 0))) (af (dC (.d (.int 6))) (aF))))) (aU bD (af (aj 1) (af (dC (.d (.int 0))) (af (dCB ub (af (dC (.d (.int 0))) (af (dOp qa (aj 2) (dC (.d (.int 1)))) (aF)))) (aF)))))))
   (bh)) <|
  bR (aU bD (af (aj 1) (af (aj 3) (af (aj 4) (aF)))))
abbrev tQ:List Str:=["_law_thing", "_law_codes_here"]
def u4(bf:SpD)(dP:SpD):TSd:=
  aW (dIf (dOr (lN (aJ (dCB cS (af (aj 0) (af (dC (.t "tuple")) (aF)))))) (dOr (aJ (dOp dh (dCB dJ (af (aj 0) (aF))) (dC (.d (.int 0))))) (lN (aJ (dCB cS (af (dOp dQ (aj 0) (dC (.d (.int 0)))) (af (dC (.t "str")) (aF))))))))
   (bR (dC (.d (.bool false))))
   (bh)) <|
  aW (cv (aah (aU bf aF) (dOp dQ (aj 0) (dC (.d (.int 0))))) (gN 1)) <|
  aW (dIf (dOr (aJ (dOp (ye false) (aj 1) (dC (.d .none)))) (aJ (dOp iD (dCB dJ (af (aj 1) (aF))) (dOp qa (dCB dJ (af (aj 0) (aF))) (dC (.d (.int 1)))))))
   (bR (dC (.d (.bool false))))
   (bh)) <|
  bR (dCB vV (af (dLC (sY (af (dCB dJ (af (aj 1) (aF))) (aF))) (gN 0) (pb) (aU dP (af (dOp dQ (aj 1) (aj 0)) (af (dOp dQ (aj 2) (dOp bA (aj 0) (dC (.d (.int 1))))) (af (dOp dQ (aj 2) (aj 0)) (aF))))) 1 [1, 0]) (aF)))
abbrev tN:List Str:=["_law_text", "_law_parts", "_law_codes_here", "_law_found", "_law_code", "_law_part_here"]
def uX(bf:SpD)(bE:SpD)(dN:SpD):TSd:=
  aW (cv (u6 (aj 0) (dC (.d (.str " ")))) (gN 1)) <|
  aW (cv (aah (aU bf aF) (dOp dQ (aj 1) (dC (.d (.int 0))))) (gN 2)) <|
  aW (dIf (dOr (aJ (dOp (ye false) (aj 2) (dC (.d .none)))) (aJ (dOp iD (dCB dJ (af (aj 2) (aF))) (dOp qa (dCB dJ (af (aj 1) (aF))) (dC (.d (.int 1)))))))
   (bR (dC (.d .none)))
   (bh)) <|
  aW (cv (vC (af (dOp dQ (aj 1) (dC (.d (.int 0)))) (aF))) (gN 3)) <|
  aW (yP (afG (af (aj 2) (af (dSl (aj 1) (dq (dC (.d (.int 1)))) (bJ)) (aF)))) (gT 2 (dU (gN 4) (dU (gN 5) (qK))))
   (dIf (aJ (dOp aaV (aj 4) (dC (.d (.str "we")))))
    (jq (gx (aj 3) (aj 5)))
    (jq (gx (aj 3) (aU bE (af (aj 5) (aF))))))) <|
  aW (dIf (lN (aJ (aU dN (af (dCB gp (af (aj 3) (aF))) (aF)))))
   (bR (dC (.d .none)))
   (bh)) <|
  bR (dCB gp (af (aj 3) (aF)))
abbrev xv:List Str:=["_law_thing", "_law_rows", "_law_found"]
def xI(dO:SpD):TSd:=
  aW (dIf (lN (aJ (dCB cS (af (aj 0) (af (dC (.t "str")) (aF))))))
   (bR (iI (af (dC (.d (.str "refused"))) (af (dC (.d (.int 0))) (aF)))))
   (bh)) <|
  aW (cv (u6 (aj 0) (dC (.d (.str "\n")))) (gN 1)) <|
  aW (cv (dLC (dI (dSl (aj 1) (bJ) (dq (dUn vS (dC (.d (.int 1))))))) (gN 0) (pb) (aU dO (af (aj 0) (aF))) 1 []) (gN 2)) <|
  aW (dIf (aJ (dOp (vQ false) (dC (.d .none)) (aj 2)))
   (bR (iI (af (dC (.d (.str "refused"))) (af (wq (aj 2) (dC (.d .none))) (aF)))))
   (bh)) <|
  aW (dIf (aJ (dOp iD (dOp dQ (aj 1) (dUn vS (dC (.d (.int 1))))) (dC (.d (.str "")))))
   (bR (iI (af (dC (.d (.str "refused"))) (af (dOp qa (dCB dJ (af (aj 1) (aF))) (dC (.d (.int 1)))) (aF)))))
   (bh)) <|
  bR (iI (af (dC (.d (.str "told"))) (af (dCB gX (af (aj 2) (aF))) (aF))))
abbrev agg:List Str:=["_law_script", "_law_bag_here", "_law_k", "_law_some", "_law_rows", "_law_text", "_law_handed", "_law_told_here", "_law_spoilt_here", "_law_odd", "_law_thing"]
def agL(e9:SpD)(dE:SpD)(az:SpD)(bX:SpD)(bM:SpD)(aP:SpX)(cA:SpD)(cB:SpD)(eV:SpD):TSd:=
  aW (cv (aU e9 (af (aj 0) (aF))) (gN 1)) <|
  aW (yP (sY (af (dC (.d (.int 8))) (aF))) (gN 2)
   (aW (cv (dLC (sY (af (aU az (af (aj 1) (af (dC (.d (.int 9))) (aF)))) (aF))) (gN 0) (pb) (aU dE (af (aj 1) (aF))) 1 [1]) (gN 3)) <|
   aW (cv (dLC (dI (aj 3)) (gN 0) (pb) (aU bX (af (aj 0) (aF))) 1 []) (gN 4)) <|
   aW (cv (dMS ie (dC (.d (.str ""))) (af (dLC (dI (aj 4)) (gN 0) (pb) (dOp bA (aj 0) (dC (.d (.str "\n")))) 1 []) aF)) (gN 5)) <|
   aW (cv (abO (dCB nQ (af (aj 3) (aF)))) (gN 6)) <|
   aW (dIf (dOr (aJ (dOp iD (dCB gX (af (aU bM (af (aj 6) (aF))) (aF))) (dCB gX (af (aj 5) (aF))))) (aJ (dOp iD (aj 6) (aj 3))))
    (bR (dC (.d (.bool false))))
    (bh)) <|
   aW (cv (px aP (λ _ _ _=>False) (af (aj 5) (aF))) (gN 7)) <|
   aW (dIf (aJ (dOp iD (dCB gX (af (aj 7) (aF))) (dCB gX (af (aj 3) (aF)))))
    (bR (dC (.d (.bool false))))
    (bh)) <|
   aW (jq (gx (aj 7) (iI (af (dC (.d (.str "back"))) (af (dC (.d (.str "a"))) (aF)))))) <|
   aW (cv (aU cA (af (aj 1) (af (aj 4) (aF)))) (gN 8)) <|
   aW (cv (dOp dQ (wm (af (dC (.d .none)) (af (dC (.d (.int 5))) (af (dC (.d (.bool true))) (af (wm (af (aj 5) (aF))) (af (iI (af (aj 5) (aF))) (af (aj 3) (af (ab4) (aF))))))))) (aU az (af (aj 1) (af (dC (.d (.int 7))) (aF))))) (gN 9)) <|
   yP (dI (wm (af (aj 8) (af (aj 5) (af (aj 9) (af (aj 8) (af (aj 5) (aF)))))))) (gN 10)
    (dIf (aJ (dOp iD (aU cB (af (aj 10) (aF))) (aU eV (af (aj 10) (aF)))))
     (bR (dC (.d (.bool false))))
     (bh)))) <|
  aW (dIf (dOr (aJ (dOp iD (aU cB (af (dC (.d (.str "\n\n"))) (aF))) (iI (af (dC (.d (.str "refused"))) (af (dC (.d (.int 0))) (aF)))))) (aJ (dOp iD (aU cB (af (dC (.d (.str "back a\n\n"))) (aF))) (iI (af (dC (.d (.str "refused"))) (af (dC (.d (.int 1))) (aF)))))))
   (bR (dC (.d (.bool false))))
   (bh)) <|
  bR (jo (dOp dh (px aP (λ _ _ _=>False) (af (dC (.d (.str ""))) (aF))) (wm (aF))) (dOp dh (aU cB (af (dC (.d (.str "\n"))) (aF))) (iI (af (dC (.d (.str "refused"))) (af (dC (.d (.int 0))) (aF))))))
def btw(i lo hi:Int):Bool:=decide (lo<=i)&&decide (i<=hi)
def afy:List (Str×Int×Int):=[("s", 1, 9), ("c", 0, 6), ("k", 0, 5), ("t", 0, 2), ("h", 1, 3), ("p", 0, 7), ("a",1,20)]
def ajj:List (Key×W):=afy.map λ x=>(.inr x.1,.d (.tuple [.int x.2.1,.int x.2.2]))
def bw:SpD:=λ ws M Q=>∃ (z:Str) (lo hi:Int),ws=[.d (.str z)]/\(z,lo,hi)∈afy/\∀ M',Ext M M'->Q (.d (.tuple [.int lo,.int hi])) M'
theorem pj:∀ ws M Q,bw ws M Q->ws.length=1:=by rintro ws M Q ⟨z,lo,hi,rfl,_⟩;rfl
theorem aef:∀ x∈afy,mv ajj (.inr x.1)=some (.d (.tuple [.int x.2.1,.int x.2.2])):=by intro x hx;simp only[afy,List.mem_cons,List.not_mem_nil,or_false] at hx;rcases hx with rfl | rfl | rfl | rfl | rfl | rfl | rfl<;>rfl
theorem oV:∀ ws M Q,bw ws M Q->mO {nx:=λ _ M'=>Q (.d .none) M',rt:=Q} (aT my ws) M:=by
 rintro ws M Q ⟨z,lo,hi,rfl,hz,k⟩;refine λ p hp=>?_;refine⟨_,rfl,few (by simp),_,rfl,few (by simp),_,rfl,few (by simp),_,rfl,few (by simp),_,rfl,few (by simp),_,rfl,few (by simp),_,rfl,few (by simp),aA,ajj,rfl,by decide,by decide +kernel,?_⟩;rw[gn];exact⟨_,rfl,p,_,.inr z,_,rfl,.inl aA,rfl,aef _ hz,k _ (Ext.new hp)⟩
def codes:List (Str×Str):=[("group", "ws"),("wish", "wwckth"),("copies", "wck"),("edition", "wth"),("back", "w"),("rank", "wp"),("store", "ww"),("door", "ww"),("rule", "wwack"),("empty", "w"),("fill", "w"),("end", "ew")]
def oX:List (Key×PyData):=codes.map λ x=>(.inr x.1,.str x.2)
def bf:SpD:=λ ws M Q=>ws=[]/\∀ p M',M p=none->M' p=some (.dic (fS oX))->(∀ q o,M q=some o->M' q=some o)->Q (.m p) M'
theorem sM:∀ ws M Q,bf ws M Q->ws.length=0:=by rintro ws M Q ⟨rfl,_⟩;rfl
theorem pz:∀ ws M Q,bf ws M Q->qf {nx:=λ _ M'=>Q (.d .none) M',rt:=Q} (aT pH ws) M:=by
 rintro ws M Q ⟨rfl,k⟩;have s16':=s16;refine λ p hp=>?_;refine⟨aA,fS (oX.take 6),rfl,by decide,by decide +kernel,?_⟩;rw[gn];refine⟨_,rfl,p,_,rfl,aA,λ q hq=>⟨rfl,oX.drop 6,rfl,by decide,by decide +kernel,?_⟩⟩;refine⟨fS (oX.take 6),oX.drop 6,aA,rfl,by decide +kernel,by show 6+6<=sizeLine;omega,?_⟩;rw[gn];refine⟨_,rfl,k p _ hp ?_ λ q o e=>?_⟩
 ·rw[aA];rfl
 ·rw[aR (iC e hp)];exact e
def sorts:List Str:=["wish", "store", "door", "rule"]
def yi(z:Str):Bool:=decide (z∈sorts)
theorem w5:inA (.str z) (sorts.map PyData.str)=yi z:=by
 unfold inA yi;rw[List.any_map]
 by_cases h:z∈sorts
 ·rw[decide_eq_true h];exact List.any_eq_true.mpr ⟨z,h,by show PyData.eqv (.str z) (.str z)=true;rw[bq,decide_eq_true rfl]⟩
 ·rw[decide_eq_false h];refine List.any_eq_false.mpr λ y hy=>?_;show ¬ PyData.eqv (.str y) (.str z)=true;rw[bq];simp only[decide_eq_true_eq];intro e;exact h (e ▸ hy)
theorem zM(h:dW z=true):lX (.str z) (sorts.map PyData.str)=true:=by
 have e1:okD 1 (.str z)=true:=by simp only[okD];exact h
 have e2:okD 1 (.list (sorts.map PyData.str))=true:=by decide +kernel
 unfold lX;rw[gk (by decide) e1,gk (by decide) e2];rfl
theorem mH:∀ (cs:List Nat) (acc:Array Nat),((cs.map λ c=>(⟨#[c]⟩:Str)).foldl (λ acc p=>acc++("" : Str).cps++p.cps) acc).toList=acc.toList++cs
 | [],acc=>by simp
 | c::cs,acc=>by
  have e:("" : Str).cps = #[]:=by decide +kernel
  rw[List.map_cons,List.foldl_cons,mH cs];rw[e];simp
theorem ve(cs:List Nat):(Txt.join "" (cs.map λ c=>(⟨#[c]⟩:Str))).cps.toList=cs:=by
 cases cs with
 | nil=>simp[Txt.join,Builtin.Str.glued,Str.empty]
 | cons c cs =>
  show(((cs.map λ c=>(⟨#[c]⟩:Str)).foldl (λ acc p=>acc++("" : Str).cps++p.cps) #[c])).toList=_;rw[mH];rfl
theorem ae2{cs:List Nat}(h0:1<=cs.length)(h1:cs.length<=8)(h:∀ c∈cs,dX c=true):wd (Txt.join "" (cs.map λ c=>(⟨#[c]⟩:Str)))=true:=by
 have e:=ve cs;have el:(Txt.join "" (cs.map λ c=>(⟨#[c]⟩:Str))).length=cs.length:=by rw[<- str_len,e]
 unfold wd;rw[el,e,decide_eq_true h0,decide_eq_true h1]
 simpa using h
theorem su:∀ c∈uS.cps.toList,dX c=true:=by decide +kernel
theorem xf(cs:List Nat):((cs.map λ c=>(⟨#[c]⟩:Str)).map (·.length)).sum=cs.length:=by
 induction cs with
 | nil=>rfl
 | cons c cs ih =>
  simp only[List.map_cons,List.sum_cons,ih,List.length_cons];show 1+cs.length=_;omega
def rF:List Str:=["a", "b", "web", "hand", "wish", "end", "copies", "abcdefgh", "store", "ab"]
theorem vm:∀ z∈rF,wd z=true:=by decide +kernel
def de:SpD:=λ ws M Q=>∃ p:Addr,ws=[.m p]/\Bag M p/\∀ (z:Str) M',wd z=true->Bag M' p->(∀ q,q≠p->M' q=M q)->Q (.d (.str z)) M'
theorem vJ:∀ ws M Q,de ws M Q->ws.length=1:=by rintro ws M Q ⟨p,rfl,_⟩;rfl
theorem tq:∀ ws M Q,de ws M Q->n9 az {nx:=λ _ M'=>Q (.d .none) M',rt:=Q} (aT oI ws) M:=by
 rintro ws M Q ⟨p,rfl,hb,k⟩;have s16':=s16;refine⟨_,rfl,few (by simp),⟨_,rfl,p,3,rfl,hb,by decide,by decide,λ x M1 _ _ b1 f1=>⟨_,_,rfl,rfl,_,rfl,dY (λ _=>?_) (λ _=>?_)⟩⟩⟩
 ·refine⟨_,rfl,_,rfl,p,10,rfl,b1,by decide,by decide,λ r M2 r0 r1 b2 f2=>?_⟩;obtain⟨z,ez,hz⟩:=kS (M:=M2) (zs:=rF) r0 (by simpa [rF] using r1);exact⟨r,_,rfl,ez,rfl,k z M2 (vm z hz) b2 λ q hq=>(f2 q hq).trans (f1 q hq)⟩
 ·refine⟨⟨_,rfl⟩,_,rfl,p,8,rfl,b1,by decide,by decide,λ n M2 n0 n1 b2 f2=>.inl ⟨_,_,rfl,rfl,1+n,rfl,by omega,by omega,?_⟩⟩;dsimp only;refine⟨λ i acc τ M'=>Bag M' p/\(∀ q,q≠p->M' q=M q)/\(∃ cs:List Nat,acc=cs.map (λ c=>PyData.str ⟨#[c]⟩)/\cs.length=i/\∀ c∈cs,dX c=true)/\∃ x,τ=[x,some (.d (.str uS)),some (.m p)],⟨b2,λ q hq=>(f2 q hq).trans (f1 q hq),⟨[],rfl,rfl,λ _ h=>nomatch h⟩,_,rfl⟩,?_,?_⟩
  ·rintro i w acc τ M' hw ⟨b,f,⟨cs,rfl,hl,hc⟩,x,rfl⟩;obtain⟨hi,rfl⟩:=zr hw;refine⟨by rw[List.length_map];omega,_,rfl,_,rfl,p,26,rfl,b,by decide,by decide,λ r M3 r0 r1 b3 f3=>?_⟩;obtain⟨c,hc1,hm⟩:=pd (M:=M3) (z:=uS) r0 (by rw[agV];exact r1);refine⟨r,_,rfl,hc1,by decide +kernel,_,rfl,b3,λ q hq=>(f3 q hq).trans (f q hq),⟨cs++[c],by simp,by simp[hl],λ c' h'=>?_⟩,_,rfl⟩;rcases List.mem_append.mp h' with h' | h'
   ·exact hc c' h'
   ·rw[List.mem_singleton.mp h'];exact su c hm
  ·rintro acc τ M' ⟨b,f,⟨cs,rfl,hl,hc⟩,x,rfl⟩;simp only[jQ,List.length_map,List.length_range] at hl;refine⟨"",cs.map λ c=>⟨#[c]⟩,rfl,by rw[List.map_map];rfl,?_,k _ M' (ae2 (by omega) (by omega) hc) b f⟩;rw[xf];have e0:("" : Str).length=0:=by decide +kernel
   rw[e0];omega
inductive Cd | w | e | s | c | k | t | h | p | a
deriving DecidableEq
def cdN:Cd->Nat
 | .w=>119 | .e=>101 | .s=>115 | .c=>99 | .k=>107 | .t=>116 | .h=>104 | .p=>112 | .a=>97
def cdS(c:Cd):Str:=⟨#[cdN c]⟩
def cdF:Cd->Str
 | .w => "word" | .e => "sort" | .s => "share" | .c => "copies" | .k => "keep" | .t => "start" | .h => "hands" | .p => "place" | .a => "asks"
def cdL:Cd->Int
 | .s=>1 | .h=>1 | .a=>1 | _=>0
def cdH:Cd->Int
 | .s=>9 | .c=>6 | .k=>5 | .t=>2 | .h=>3 | .p=>7 | .a=>20 | _=>0
def tabS:List (Str×Str×List Cd):=[("group", "ws",[.w,.s]),("wish", "wwckth",[.w,.w,.c,.k,.t,.h]),("copies", "wck",[.w,.c,.k]),("edition", "wth",[.w,.t,.h]),("back", "w",[.w]),("rank", "wp",[.w,.p]),("store", "ww",[.w,.w]),("door", "ww",[.w,.w]),("rule", "wwack",[.w,.w,.a,.c,.k]),("empty", "w",[.w]),("fill", "w",[.w]),("end", "ew",[.e,.w])]
theorem uA:∀ x∈tabS,mv (fS oX) (.inr x.1)=some (.d (.str x.2.1)):=by intro x hx;simp only[tabS,List.mem_cons,List.not_mem_nil,or_false] at hx;rcases hx with rfl | rfl | rfl | rfl | rfl | rfl | rfl | rfl | rfl | rfl | rfl | rfl<;>rfl
theorem gh:∀ x∈tabS,x.2.1.cps.toList=x.2.2.map cdN:=by decide +kernel
theorem fK:∀ x∈tabS,x.2.2.length<=6/\1<=x.2.2.length:=by decide +kernel
theorem wH:∀ x∈tabS,fC f9 x.1=some (.tuple (x.2.2.map λ c=>.str (cdF c))):=by intro x hx;simp only[tabS,List.mem_cons,List.not_mem_nil,or_false] at hx;rcases hx with rfl | rfl | rfl | rfl | rfl | rfl | rfl | rfl | rfl | rfl | rfl | rfl<;>rfl
theorem eZ:∀ x∈tabS,wd x.1=true:=by decide +kernel
theorem aik:∀ x∈tabS,∀ i<x.2.2.length,x.2.2[i]? =some .k->1<=i/\x.2.2[i-1]? =some .c:=by decide +kernel
def acb:List Str:=codes.map (·.1)
theorem ac9:∀ z∈acb,∃ x∈tabS,x.1=z:=by decide +kernel
theorem adt(c:Cd):(decide (cdS c = "w")=decide (c=.w))/\(decide (cdS c = "e")=decide (c=.e))/\decide (cdS c = "k")=decide (c=.k):=by cases c<;>decide +kernel
theorem aci(c:Cd)(h1:c ≠ .w)(h2:c ≠ .e):(cdS c,cdL c,cdH c)∈afy:=by cases c<;>first | exact absurd rfl h1 | exact absurd rfl h2 | decide +kernel
theorem oB(c:Cd):c ≠ .w->c ≠ .e->0<=cdL c/\cdL c<=cdH c/\cdH c<=1000:=by cases c<;>decide +kernel
def six:List Str:=["wish", "store", "door", "rule", "group", "copies"]
theorem ad6:∀ z∈six,dW z=true:=by decide +kernel
def Pt(c:Cd)(d:PyData):Prop:=(c=.w/\∃ y:Str,d=.str y/\wd y=true)\/(c=.e/\∃ y:Str,d=.str y/\y∈six)\/(c ≠ .w/\c ≠ .e/\∃ i:Int,d=.int i/\-1<=i/\i<=1001)
def Pts(cs:List Cd)(ds:List PyData):Prop:=∀ (j:Nat) c d,cs[j]? =some c->ds[j]? =some d->Pt c d
def Fr(M M':MH)(p:Addr):Prop:=∀ q o,q≠p->M q=some o->M' q=some o
theorem Fr.trans(h:Fr A B p)(k:Fr B C p):Fr A C p:=λ q o n e=>k q o n (h q o n e)
theorem Fr.of(h:∀ q,q≠p->M' q=M q):Fr M M' p:=λ q o n e=>by rw[h q n];exact e
theorem Fr.ext(h:Ext M M'):Fr M M' p:=λ q o _ e=>h q o e
def dd(z:Str)(ds:List PyData):PyData:=.tuple (.str z::ds)
theorem zb(zs:List Str):bG zs=(zs.map PyData.str).map W.d:=by rw[List.map_map];rfl
def isW:PyData->Bool
 | .str z=>wd z
 | _=>false
def inB(lo hi:Int):PyData->Bool
 | .int i=>btw i lo hi
 | _=>false
def Fl(d:PyData):Prop:=(∃ y:Str,d=.str y/\dW y=true/\y.length<=100000)\/(∃ i:Int,d=.int i)\/d=.none
def agy:PyData->Bool
 | .int _=>true
 | _=>false
def bI:SpD:=λ ws M Q=>∃ d,ws=[.d d]/\Fl d/\Q (.d (.bool (agy d))) M
theorem qh:∀ ws M Q,bI ws M Q->ws.length=1:=by rintro ws M Q ⟨d,rfl,_⟩;rfl
theorem nz:∀ ws M Q,bI ws M Q->iP {nx:=λ _ M'=>Q (.d .none) M',rt:=Q} (aT iN ws) M:=by
 rintro ws M Q ⟨d,rfl,hf,k⟩;refine⟨_,rfl,_,_,_,rfl,.d,.int,_,rfl,?_⟩;rcases hf with ⟨y,rfl,_⟩ | ⟨i,rfl⟩ | rfl
 ·exact dB k
 ·exact fV ⟨_,rfl,_,_,_,rfl,.d,.bool,_,rfl,k⟩
 ·exact dB k
def bP:SpD:=λ ws M Q=>∃ (d:PyData) (lo hi:Int),ws=[.d d,.d (.int lo),.d (.int hi)]/\Fl d/\Q (.d (.bool (inB lo hi d))) M
theorem oe:∀ ws M Q,bP ws M Q->ws.length=3:=by rintro ws M Q ⟨i,lo,hi,rfl,_⟩;rfl
theorem l8:∀ ws M Q,bP ws M Q->gU bI {nx:=λ _ M'=>Q (.d .none) M',rt:=Q} (aT gO ws) M:=by
 rintro ws M Q ⟨d,lo,hi,rfl,hf,k⟩;refine⟨_,rfl,d,rfl,hf,_,rfl,?_⟩;rcases hf with ⟨y,rfl,_⟩ | ⟨i,rfl⟩ | rfl
 ·exact dB k
 ·refine fV ⟨_,rfl,_,rfl,.inl ⟨_,_,rfl,rfl,_,rfl,?_⟩⟩;have k':Q (.d (.bool (btw i lo hi))) M:=k;unfold btw at k'
  by_cases h:lo<=i
  ·rw[decide_eq_true h] at k' ⊢;exact fV ⟨_,rfl,.inl ⟨_,_,rfl,rfl,k'⟩⟩
  ·rw[decide_eq_false h] at k' ⊢;exact dB k'
 ·exact dB k
def cG:SpD:=λ ws M Q=>∃ d,ws=[.d d]/\Fl d/\Q (.d (.bool (isW d))) M
theorem sv:∀ ws M Q,cG ws M Q->ws.length=1:=by rintro ws M Q ⟨d,rfl,_⟩;rfl
theorem ahM(c:Nat):(!decide ((⟨#[c]⟩:Str).cps.toList<("a" : Str).cps.toList))=decide (97<=c)/\(!decide (("z" : Str).cps.toList<(⟨#[c]⟩:Str).cps.toList))=decide (c<=122):=by
 have ea:("a" : Str).cps.toList=[97]:=by decide +kernel
 have ez:("z" : Str).cps.toList=[122]:=by decide +kernel
 have ec:(⟨#[c]⟩:Str).cps.toList=[c]:=rfl;rw[ea,ez,ec,lt1,lt1];constructor
 ·by_cases h:c<97
  ·rw[decide_eq_true h,decide_eq_false (by omega)];rfl
  ·rw[decide_eq_false h,decide_eq_true (by omega)];rfl
 ·by_cases h:122<c
  ·rw[decide_eq_true h,decide_eq_false (by omega)];rfl
  ·rw[decide_eq_false h,decide_eq_true (by omega)];rfl
theorem q8:∀ ws M Q,cG ws M Q->kY {nx:=λ _ M'=>Q (.d .none) M',rt:=Q} (aT j9 ws) M:=by
 rintro ws M Q ⟨d,rfl,hf,k⟩;have s16':=s16;refine⟨_,rfl,_,_,_,rfl,.d,.str,_,rfl,?_⟩;rcases hf with ⟨z,rfl,_,hl⟩ | ⟨i,rfl⟩ | rfl
 ·have hfit:u3 (.d (.str z))=true:=decide_eq_true (by omega);have k':Q (.d (.bool (wd z))) M:=k;refine eI (by rw[lb];rfl) ⟨_,rfl,_,_,rfl,rfl,hfit,.inl ⟨_,_,rfl,rfl,_,rfl,?_⟩⟩;have no:¬ (1<=z.length/\z.length<=8)->Q (.d (.bool false)) M:=λ h=>by
   have e:wd z=false:=by
    unfold wd
    by_cases h1:1<=z.length
    ·rw[decide_eq_false (show ¬ z.length<=8 from λ h2=>h ⟨h1,h2⟩)];simp
    ·rw[decide_eq_false h1];simp
   rw[e] at k';exact k'
  by_cases h1:1<=z.length
  ·refine eJ (decide_eq_true (show(1:Int)<=(z.length:Nat) by omega)) (.inl ⟨_,_,rfl,rfl,_,rfl,?_⟩)
   by_cases h2:z.length<=8
   ·refine eI (by rw[decide_eq_true (show((z.length:Nat):Int)<=8 by omega)];rfl) ⟨_,rfl,_,rfl,?_⟩;dsimp only;refine gv z.cps.toList (λ c=>W.d (.str ⟨#[c]⟩)) (λ c=>.bool (dX c)) (λ τ=>∃ x,τ=[x]) (by rw[str_len];omega) ⟨_,rfl⟩ (λ c hc τ hτ R h=>?_) (λ τ=>?_)
    ·obtain⟨x,rfl⟩:=hτ;obtain⟨q1,q2⟩:=ahM c;have go:=h [some (.d (.str ⟨#[c]⟩))] ⟨_,rfl⟩;unfold dX at go;refine⟨_,rfl,.inr ⟨_,_,rfl,rfl,_,rfl,?_⟩⟩;refine dY (λ h0=>?_) (λ h0=>?_)
     ·rw[q1.symm.trans h0,Bool.true_and,<- q2] at go;exact .inr ⟨_,_,rfl,rfl,_,rfl,go⟩
     ·rw[q1.symm.trans h0,Bool.false_and] at go;exact⟨_,rfl,go⟩
    ·refine⟨z.cps.toList.map dX,by rw[List.map_map];rfl,?_⟩;have e:wd z=(z.cps.toList.map dX).all id:=by
      unfold wd;rw[decide_eq_true h1,decide_eq_true h2,List.all_map];rfl
     rw[e] at k';exact k'
   ·refine eJ (by rw[decide_eq_false (show ¬ ((z.length:Nat):Int)<=8 by omega)];rfl) (no λ h=>h2 h.2)
  ·refine eI (decide_eq_false (show ¬ (1:Int)<=(z.length:Nat) by omega)) ?_;exact⟨_,rfl,eJ rfl (no λ h=>h1 h.1)⟩
 ·exact eJ rfl k
 ·exact eJ rfl k
def pG(c:Cd)(d:PyData):Bool:=if c=.w then isW d else if c=.e then (match d with | .str y=>yi y | _=>false) else inB (cdL c) (cdH c) d
theorem abU(c:Cd):c ≠ .w->c ≠ .e->fC fF (cdF c)=some (.tuple [.int (cdL c),.int (cdH c)])/\cdF c ≠ "word" /\ cdF c ≠ "sort":= by intro h1 h2;cases c<;>first | exact absurd rfl h1 | exact absurd rfl h2 | exact⟨rfl,by decide +kernel,by decide +kernel⟩
def cU:SpD:=λ ws M Q=>∃ (c:Cd) (d:PyData),ws=[.d (.str (cdF c)),.d d]/\Fl d/\Q (.d (.bool (pG c d))) M
theorem s9:∀ ws M Q,cU ws M Q->ws.length=2:=by rintro ws M Q ⟨c,d,rfl,_⟩;rfl
theorem qA:∀ ws M Q,cU ws M Q->p7 cG bP {nx:=λ _ M'=>Q (.d .none) M',rt:=Q} (aT rf ws) M:=by
 rintro ws M Q ⟨c,d,rfl,hf,k⟩
 by_cases h1:c=.w
 ·subst h1;refine⟨_,rfl,_,_,.d,.d,rfl,_,rfl,?_⟩;rw[bq,decide_eq_true (show cdF .w = "word" from rfl)];exact fV ⟨_,rfl,d,rfl,hf,k⟩
 by_cases h2:c=.e
 ·subst h2;refine⟨_,rfl,_,_,.d,.d,rfl,_,rfl,?_⟩;rw[bq,decide_eq_false (show ¬ cdF .e = "word" by decide +kernel)];refine dB ⟨_,rfl,_,_,.d,.d,rfl,_,rfl,?_⟩;rw[bq,decide_eq_true (show cdF .e = "sort" from rfl)];refine fV ⟨_,rfl,_,_,_,rfl,.d,.str,_,rfl,?_⟩;rcases hf with ⟨y,rfl,ha,_⟩ | ⟨i,rfl⟩ | rfl
  ·refine fV ⟨_,rfl,_,sorts.map PyData.str,.d,.inr rfl,zM ha,?_⟩;rw[Bool.false_xor,w5];exact k
  ·exact dB k
  ·exact dB k
 ·obtain⟨g1,g2,g3⟩:=abU c h1 h2;refine⟨_,rfl,_,_,.d,.d,rfl,_,rfl,?_⟩;rw[bq,decide_eq_false g2];refine dB ⟨_,rfl,_,_,.d,.d,rfl,_,rfl,?_⟩;rw[bq,decide_eq_false g3];refine dB ⟨_,rfl,cdF c,_,rfl,g1,_,rfl,rfl,_,_,rfl,_,_,rfl,rfl,?_⟩;have e:pG c d=inB (cdL c) (cdH c) d:=by unfold pG;rw[if_neg h1,if_neg h2]
  rw[e] at k;exact⟨_,rfl,_,rfl,_,rfl,d,cdL c,cdH c,rfl,hf,k⟩
theorem qi{z:Str}{ds:List PyData}{j:Nat}{d:PyData}(h:((.str z:PyData)::ds)[j]? =some d):ixW M (.d (dd z ds)) (j:Int)=some (.d d):=by simp only[dd,ixW,iX h,Option.map_some]
theorem agS:ixW M (.d (dd z ds)) 0=some (.d (.str z)):=qi (j:=0) rfl
def ahA(ds:List PyData)(d:PyData)(j:Nat):Bool:=decide (j<ds.length)&&PyData.eqv (ds.getD j .none) d&&(List.range j).all λ m=>!PyData.eqv (ds.getD m .none) d
theorem wt(h:ahA ds d j=true):rO ds d j:=by
 simp only[ahA,Bool.and_eq_true,decide_eq_true_eq,List.all_eq_true,List.mem_range,Bool.not_eq_true'] at h;obtain⟨⟨h1,h2⟩,h3⟩:=h;refine⟨h1,λ y e=>?_,λ m y hm e=>?_⟩
 ·simpa [List.getD,e] using h2
 ·simpa [List.getD,e] using h3 m hm
def bU(x:Str×Str×List Cd):List PyData:=x.2.2.map λ c=>.str (cdF c)
def kC(x:Str×Str×List Cd):Nat:=x.2.2.idxOf .c
def kK(x:Str×Str×List Cd):Nat:=x.2.2.idxOf .k
theorem k_is:∀ x∈tabS,Cd.k∈x.2.2->ahA (bU x) (.str "copies") (kC x)=true/\ahA (bU x) (.str "keep") (kK x)=true/\x.2.2[kC x]? =some .c/\x.2.2[kK x]? =some .k/\kC x+1=kK x:=by decide +kernel
theorem ag4:∀ x∈tabS,∀ j<x.2.2.length,x.2.2[j]? =some .k->j=kK x:=by decide +kernel
theorem ajk:∀ x∈tabS,lX (.str "copies") (bU x)=true/\lX (.str "keep") (bU x)=true/\inA (.str "keep") (bU x)=decide (Cd.k∈x.2.2):=by decide +kernel
def leK(a i:Int):Bool:=decide (i<=if 0 > a-1 then 0 else a-1)
def cm:SpD:=λ ws M Q=>∃ x∈tabS,Cd.k∈x.2.2/\∃ (ds:List PyData) (a i:Int),ws=[.d (.tuple (bU x)),.d (dd x.1 ds)]/\ds[kC x]? =some (.int a)/\ds[kK x]? =some (.int i)/\Q (.d (.bool (leK a i))) M
theorem oY:∀ ws M Q,cm ws M Q->ws.length=2:=by rintro ws M Q ⟨x,_,_,ds,a,i,rfl,_⟩;rfl
theorem l5:∀ ws M Q,cm ws M Q->lG {nx:=λ _ M'=>Q (.d .none) M',rt:=Q} (aT k9 ws) M:=by
 rintro ws M Q ⟨x,hx,hk,ds,a,i,rfl,ha,hi,k⟩;obtain⟨h1,h2,_⟩:=k_is x hx hk;obtain⟨o1,o2,_⟩:=ajk x hx;have e1:ixW M (.d (dd x.1 ds)) (((kC x:Nat):Int)+1)=some (.d (.int a)):=qi (j:=kC x+1) (by simpa using ha);have e2:ixW M (.d (dd x.1 ds)) (((kK x:Nat):Int)+1)=some (.d (.int i)):=qi (j:=kK x+1) (by simpa using hi);refine⟨_,rfl,_,rfl,_,rfl,_,_,rfl,o1,wt h1,.inl ⟨_,_,rfl,rfl,_,_,rfl,e1,rfl,?_⟩⟩;refine⟨_,rfl,_,rfl,_,rfl,_,_,rfl,o2,wt h2,.inl ⟨_,_,rfl,rfl,_,_,rfl,e2,rfl,?_⟩⟩;exact⟨_,rfl,_,rfl,_,_,rfl,rfl,_,_,rfl,.inl ⟨_,_,rfl,rfl,k⟩⟩
def kf(x:Str×Str×List Cd)(ds:List PyData):Bool:=match ds.getD (kC x) .none,ds.getD (kK x) .none with
 | .int a,.int i=>leK a i
 | _,_=>false
def pJ(x:Str×Str×List Cd)(ds:List PyData)(j:Nat):Bool:=pG (x.2.2.getD j .w) (ds.getD j .none)
def gg(x:Str×Str×List Cd)(ds:List PyData):Bool:=(List.range x.2.2.length).all (pJ x ds)&&(!decide (Cd.k∈x.2.2) || kf x ds)
def cV:SpD:=λ ws M Q=>∃ x∈tabS,∃ ds:List PyData,ws=[.d (dd x.1 ds)]/\ds.length=x.2.2.length/\(∀ d∈ds,Fl d)/\Q (.d (.bool (gg x ds))) M
theorem rC:∀ ws M Q,cV ws M Q->ws.length=1:=by rintro ws M Q ⟨x,_,ds,rfl,_⟩;rfl
theorem agJ(hj:j<n)(h:f j=false):(List.range n).all f=false:=by rw[List.all_eq_false];exact⟨j,List.mem_range.mpr hj,by simp[h]⟩
theorem uV(hl:ds.length=x.2.2.length)(h:pJ x ds j=true)(hc:x.2.2[j]? =some c)(h1:c ≠ .w)(h2:c ≠ .e):∃ i:Int,ds[j]? =some (.int i):=by
 have hj:j<ds.length:=by rw[hl];exact(List.getElem?_eq_some_iff.mp hc).1
 have hd:ds[j]? =some ds[j]:=List.getElem?_eq_getElem hj;have e:pJ x ds j=inB (cdL c) (cdH c) ds[j]:=by simp only[pJ,List.getD,hc,hd,Option.getD_some];unfold pG;rw[if_neg h1,if_neg h2]
 rw[e] at h;rw[hd];cases hq:ds[j] with
 | int i=>exact⟨i,rfl⟩
 | _=>rw[hq] at h;cases h
theorem qU:∀ ws M Q,cV ws M Q->pW cU cm {nx:=λ _ M'=>Q (.d .none) M',rt:=Q} (aT qw ws) M:=by
 rintro ws M Q ⟨x,hx,ds,rfl,hl,hfl,k⟩;have s16':=s16;obtain⟨n6,n1⟩:=fK x hx;refine⟨_,rfl,_,_,_,rfl,.d,.tuple,_,rfl,?_⟩;rw[show gF (dd x.1 ds) "tuple" = true from agB _];refine dB ⟨_,rfl,_,.t,dB ?_⟩;refine⟨_,rfl,_,_,rfl,agS,rfl,_,_,_,rfl,.d,.str,_,rfl,?_⟩;rw[show gF (.str x.1) "str" = true from lb _];refine dB ⟨_,rfl,_,_,rfl,agS,rfl,x.1,rfl,?_⟩;rw[wH x hx];have hfm:(bU x).length=x.2.2.length:=by simp[bU]
 have z2:(!PyData.eqv (.int ((ds.length+1:Nat):Int)) (.int (((bU x).length:Int)+1)))=false:=by rw[cN,decide_eq_true (by omega)];rfl
 refine⟨_,rfl,rfl,_,rfl,dB ⟨_,rfl,_,_,rfl,rfl,rfl,_,rfl,_,_,rfl,rfl,rfl,.inl ⟨_,_,rfl,rfl,_,_,.d,.d,rfl,_,rfl,eI (c:=!PyData.eqv (.int ((ds.length+1:Nat):Int)) (.int (((bU x).length:Int)+1))) z2 ?_⟩⟩⟩;have hs:slW (.d (dd x.1 ds)) (some 1) none=some (.d (.tuple ds)):=by
  have e1:HT.sIx (ds.length+1) 0 (some 1)=1:=by
   simp only[HT.sIx]
   split<;>omega
  have e2:HT.sIx (ds.length+1) (ds.length+1) none=ds.length+1:=rfl;simp only[slW,dd,uu,D.cutD,List.length_cons,e1,e2];simp
 refine⟨_,rfl,_,rfl,_,rfl,_,hs,rfl,bU x,ds,rfl,?_⟩;refine⟨λ i τ M'=>M'=M/\(∀ j<i,pJ x ds j=true)/\∃ y1 y2,τ=[some (.d (dd x.1 ds)),some (.d (.tuple (bU x))),y1,y2],⟨rfl,λ j h=>by omega,_,_,rfl⟩,?_,?_⟩
 ·rintro i w τ M' hw ⟨rfl,hall,y1,y2,rfl⟩;obtain⟨j,hj,rfl⟩:=gM hw;obtain⟨hlt,hj2⟩:=List.getElem?_eq_some_iff.mp hj;rw[List.getElem_range] at hj2;subst hj2;have hi:i<x.2.2.length:=by simpa [hfm,hl] using hlt
  obtain⟨c,hc⟩:∃ c,x.2.2[i]? =some c:=⟨_,List.getElem?_eq_getElem hi⟩;obtain⟨d',hd'⟩:∃ d',ds[i]? =some d':=⟨_,List.getElem?_eq_getElem (by omega)⟩;have ef:(bU x).getD i .none=.str (cdF c):=by simp[bU,List.getD,hc]
  have ed:ds.getD i .none=d':=by simp[List.getD,hd']
  rw[ef,ed];have hpj:pJ x ds i=pG c d':=by simp only[pJ,List.getD,hc,hd',Option.getD_some]
  refine⟨_,rfl,rfl,_,_,rfl,_,_,rfl,rfl,_,rfl,_,rfl,c,d',rfl,hfl d' (List.mem_of_getElem? hd'),_,rfl,?_⟩;cases hb:pG c d' with
  | true =>
   refine dB ⟨rfl,λ j hj=>?_,_,_,rfl⟩
   by_cases hji:j=i
   ·rw[hji,hpj,hb]
   ·exact hall j (by omega)
  | false =>
   refine fV ?_;have:gg x ds=false:=by
    unfold gg;rw[agJ hi (by rw[hpj,hb])];rfl
   rw[this] at k;exact k
 ·rintro τ M' ⟨rfl,hall,y1,y2,rfl⟩;have hlen:(rB (bU x) ds).length=x.2.2.length:=by simp[rB,hfm,hl]
  rw[hlen] at hall;have hA:(List.range x.2.2.length).all (pJ x ds)=true:=by rw[List.all_eq_true];intro j hj;exact hall j (List.mem_range.mp hj)
  obtain⟨_,o2,o3⟩:=ajk x hx;refine⟨_,rfl,_,_,.d,.inr rfl,o2,_,rfl,?_⟩;rw[o3,Bool.true_xor];unfold gg at k;rw[hA,Bool.true_and] at k
  by_cases hk:Cd.k∈x.2.2
  ·rw[decide_eq_true hk] at k ⊢;obtain⟨_,_,c1,c2,_⟩:=k_is x hx hk;obtain⟨a,ea⟩:=uV hl (hall _ (List.getElem?_eq_some_iff.mp c1).1) c1 (by decide) (by decide);obtain⟨i,ei⟩:=uV hl (hall _ (List.getElem?_eq_some_iff.mp c2).1) c2 (by decide) (by decide);refine dB ⟨_,rfl,_,rfl,x,hx,hk,ds,a,i,rfl,ea,ei,?_⟩;have:kf x ds=leK a i:=by simp only[kf,List.getD,ea,ei,Option.getD_some]
   rw[this] at k;exact k
  ·rw[decide_eq_false hk] at k ⊢;exact fV k
def bu:SpD:=λ ws M Q=>∃ (p:Addr) (lo hi:Int),ws=[.m p,.d (.int lo),.d (.int hi)]/\Bag M p/\0<=lo/\lo<=hi/\hi<=1000/\∀ (i:Int) M',lo<=i->i<=hi->Bag M' p->(∀ q,q≠p->M' q=M q)->Q (.d (.int i)) M'
theorem p6:∀ ws M Q,bu ws M Q->ws.length=3:=by rintro ws M Q ⟨p,lo,hi,rfl,_⟩;rfl
theorem oh:∀ ws M Q,bu ws M Q->mz az {nx:=λ _ M'=>Q (.d .none) M',rt:=Q} (aT m7 ws) M:=by
 rintro ws M Q ⟨p,lo,hi,rfl,hb,h0,h1,h2,k⟩;refine⟨_,rfl,_,rfl,_,rfl,_,rfl,_,rfl,_,rfl,_,_,rfl,rfl,.inl ⟨_,_,rfl,rfl,p,hi-lo+1,rfl,hb,by omega,by omega,λ r M1 r0 r1 b1 f1=>.inl ⟨_,_,rfl,rfl,_,rfl,few (by simp),?_⟩⟩⟩;refine⟨_,rfl,p,4,rfl,b1,by decide,by decide,λ c M2 c0 c1 b2 f2=>⟨_,_,rfl,?_⟩⟩;have f:∀ q,q≠p->M2 q=M q:=λ q hq=>by rw[f2 q hq,f1 q hq]
 obtain⟨d,ed,hd⟩:=yD (M:=M2) (ds:=[.int lo,.int hi,.int (lo+r)]) (r:=if c<2 then c else 2) (by split<;>omega) (by simp;split<;>omega);simp only[List.mem_cons,List.not_mem_nil,or_false] at hd;rcases hd with rfl | rfl | rfl<;>exact⟨_,_,rfl,ed,rfl,k _ M2 (by omega) (by omega) b2 f⟩
def Vp(c:Cd)(d:PyData):Prop:=(c=.w/\∃ y:Str,d=.str y/\wd y=true)\/(c=.e/\∃ y:Str,d=.str y/\y∈sorts)\/(c ≠ .w/\c ≠ .e/\∃ i:Int,d=.int i/\cdL c<=i/\i<=cdH c)
theorem yc:∀ y∈sorts,y∈six:=by decide +kernel
theorem Vp.pt(h:Vp c d):Pt c d:=by
 rcases h with ⟨h,y,e,hy⟩ | ⟨h,y,e,hy⟩ | ⟨h1,h2,i,e,i0,i1⟩
 ·exact .inl ⟨h,y,e,hy⟩
 ·exact .inr (.inl ⟨h,y,e,yc y hy⟩)
 ·obtain⟨a,b,c'⟩:=oB c h1 h2;exact .inr (.inr ⟨h1,h2,i,e,by omega,by omega⟩)
def ahB(a:Int):Int:=if 0 > a-1 then 0 else a-1
structure Vd(cs:List Cd)(ds:List PyData):Prop where
 part:∀ (j:Nat) c d,cs[j]? =some c->ds[j]? =some d->Vp c d
 keep:∀ j,cs[j]? =some .k->∀ i:Int,ds[j]? =some (.int i)->∃ a:Int,ds[j-1]? =some (.int a)/\i<=ahB a
theorem Vd.pts(h:Vd cs ds):Pts cs ds:=λ j c d h1 h2=>(h.part j c d h1 h2).pt
theorem wX(h:(ds++[d])[j]? =some d'):(j<ds.length/\ds[j]? =some d')\/(j=ds.length/\d'=d):=by
 by_cases hj:j<ds.length
 ·rw[List.getElem?_append_left hj] at h;exact .inl ⟨hj,h⟩
 ·have hlt:=(List.getElem?_eq_some_iff.mp h).1;simp at hlt;have e:j=ds.length:=by omega
  subst e;simp at h;exact .inr ⟨rfl,h.symm⟩
theorem Vd.snoc(h:Vd cs ds)(hc:cs[ds.length]? =some c)(hd:Vp c d)(hk:c=.k->∀ i:Int,d=.int i->∃ a:Int,ds[ds.length-1]? =some (.int a)/\i<=ahB a)(h1:c=.k->1<=ds.length):Vd cs (ds++[d]):=by
 refine⟨λ j c' d' e1 e2=>?_,λ j e1 i e2=>?_⟩
 ·rcases wX e2 with ⟨_,e⟩ | ⟨rfl,rfl⟩
  ·exact h.part j c' d' e1 e
  ·rw[hc] at e1;cases e1;exact hd
 ·rcases wX e2 with ⟨hj,e⟩ | ⟨rfl,rfl⟩
  ·obtain⟨a,ea,hi⟩:=h.keep j e1 i e;exact⟨a,by rw[List.getElem?_append_left (by omega)];exact ea,hi⟩
  ·rw[hc] at e1;cases e1;obtain⟨a,ea,hi⟩:=hk rfl i rfl;have:=h1 rfl;exact⟨a,by rw[List.getElem?_append_left (by omega)];exact ea,hi⟩
def dH:SpD:=λ ws M Q=>∃ (p:Addr) (c:Cd),ws=[.m p,.d (.str (cdS c))]/\c ≠ .k/\Bag M p/\∀ (d:PyData) M',Vp c d->Bag M' p->Fr M M' p->Q (.d d) M'
theorem v7:∀ ws M Q,dH ws M Q->ws.length=2:=by rintro ws M Q ⟨p,c,rfl,_⟩;rfl
theorem se:∀ ws M Q,dH ws M Q->uK de az bw bu {nx:=λ _ M'=>Q (.d .none) M',rt:=Q} (aT tM ws) M:=by
 rintro ws M Q ⟨p,c,rfl,hk,hb,k⟩;obtain⟨q1,q2,q3⟩:=adt c;refine⟨_,rfl,_,_,.d,.d,rfl,_,rfl,?_⟩;rw[bq,q1];refine dY (λ h=>?_) (λ h=>?_)
 ·exact⟨_,rfl,p,rfl,hb,λ z M2 hz b2 f2=>k _ M2 (.inl ⟨of_decide_eq_true h,z,rfl,hz⟩) b2 (Fr.of f2)⟩
 have n1:c ≠ .w:=of_decide_eq_false h;refine⟨_,rfl,_,_,.d,.d,rfl,_,rfl,?_⟩;rw[bq,q2];refine dY (λ h=>?_) (λ h=>?_)
 ·refine⟨_,rfl,few (by simp),_,rfl,p,4,rfl,hb,by decide,by decide,λ r M2 r0 r1 b2 f2=>?_⟩;obtain⟨z,ez,hz⟩:=kS (M:=M2) (zs:=sorts) r0 (by simpa [sorts] using r1);exact⟨r,_,rfl,ez,rfl,k _ M2 (.inr (.inl ⟨of_decide_eq_true h,z,rfl,hz⟩)) b2 (Fr.of f2)⟩
 have n2:c ≠ .e:=of_decide_eq_false h;obtain⟨l0,l1,l2⟩:=oB c n1 n2;refine⟨_,rfl,cdS c,cdL c,cdH c,rfl,aci c n1 n2,λ M2 x2=>⟨_,rfl,rfl,_,_,rfl,_,_,rfl,rfl,?_⟩⟩;exact⟨_,rfl,_,rfl,_,rfl,p,cdL c,cdH c,rfl,Ext.bag x2 hb,l0,l1,l2,λ v M3 v0 v1 b3 f3=>k _ M3 (.inr (.inr ⟨n1,n2,v,rfl,v0,v1⟩)) b3 ((Fr.ext x2).trans (Fr.of f3))⟩
def dE:SpD:=λ ws M Q=>∃ p:Addr,ws=[.m p]/\Bag M p/\∀ x∈tabS,∀ (ds:List PyData) M',ds.length=x.2.2.length->Vd x.2.2 ds->Bag M' p->Fr M M' p->Q (.d (dd x.1 ds)) M'
theorem vn:∀ ws M Q,dE ws M Q->ws.length=1:=by rintro ws M Q ⟨p,rfl,_⟩;rfl
theorem rH:∀ ws M Q,dE ws M Q->uv bf az bu dH {nx:=λ _ M'=>Q (.d .none) M',rt:=Q} (aT tJ ws) M:=by
 rintro ws M Q ⟨p,rfl,hb,k⟩;have s16':=s16;refine⟨rfl,λ d M1 hd1 hM1 x1=>?_⟩;have b1:Bag M1 p:=Ext.bag x1 hb;refine⟨_,rfl,d,_,acb,rfl,hM1,by decide,by decide,λ zs' perm _ l hl=>⟨l,zs'.map PyData.str,rfl,by rw[aA,zb],?_⟩⟩;have x2:Ext M1 (wU (cn M1 l (.lst (bG zs'))) l):=sealed hl;generalize wU (cn M1 l (.lst (bG zs'))) l=M2 at x2;refine⟨_,rfl,p,12,rfl,Ext.bag x2 b1,by decide,by decide,λ r M3 r0 r1 b3 f3=>?_⟩;have hlz:zs'.length=12:=perm.length_eq;obtain⟨z,ez,hz⟩:=kS (M:=M3) (zs:=zs') r0 (by omega);obtain⟨x,hx,rfl⟩:=ac9 z (perm.mem_iff.mp hz);refine⟨r,_,rfl,ez,rfl,?_⟩;refine⟨_,rfl,few (by simp),λ a ha=>?_⟩;have dp:d≠p:=λ e=>by obtain⟨o,ho⟩:=ach hb;rw[e,ho] at hd1;cases hd1
 have hM3:M3 d=some (.dic (fS oX)):=by rw[f3 d dp];exact x2 _ _ hM1
 have F3:Fr M M3 p:=((Fr.ext x1).trans (Fr.ext x2)).trans (Fr.of f3);have pa:p≠a:=λ e=>by obtain⟨o,ho⟩:=ach b3;rw[e,ha] at ho;cases ho
 refine⟨_,rfl,_,rfl,d,_,.inr x.1,_,rfl,.inl (zB hM3 ha),rfl,uA x hx,_,rfl,?_⟩;have hsg:(x.2.1.cps.toList.map λ c=>W.d (.str ⟨#[c]⟩))=x.2.2.map λ c=>W.d (.str (cdS c)):=by rw[gh x hx,List.map_map];rfl
 rw[hsg];have tl:=fK x hx;refine⟨λ i τ M'=>∃ ds,Bag M' p/\Fr M M' p/\M' a=some (.lst (((.str x.1:PyData)::ds).map W.d))/\ds.length=i/\Vd x.2.2 ds/\∃ y1,τ=[some (.m p),some (.m d),some (.d (.str x.1)),some (.m a),y1],⟨[],ff b3 (aR pa),F3.trans (Fr.ext (Ext.new ha)),aA,rfl,⟨λ j c d' h1 h2=>by simp at h2,λ j h1 i h2=>by simp at h2⟩,_,rfl⟩,?_,?_⟩
 ·rintro i w τ M' hw ⟨ds,b,f,hm,hl,hp,y1,rfl⟩;obtain⟨c,hc,rfl⟩:=gM hw;have hi:i<x.2.2.length:=(List.getElem?_eq_some_iff.mp hc).1;obtain⟨q1,q2,q3⟩:=adt c;have app:∀ (M'':MH) (d':PyData),Bag M'' p->Fr M' M'' p->Vp c d'->(c=.k->∀ i:Int,d'=.int i->∃ a:Int,ds[ds.length-1]? =some (.int a)/\i<=ahB a)->(c=.k->1<=ds.length)->∃ ws',M'' a=some (.lst ws')/\ws'.length<sizeLine/\∃ ds,Bag (cn M'' a (.lst (ws'++[.d d']))) p/\Fr M (cn M'' a (.lst (ws'++[.d d']))) p/\(cn M'' a (.lst (ws'++[.d d']))) a=some (.lst (((.str x.1:PyData)::ds).map W.d))/\ds.length=i+1/\Vd x.2.2 ds/\∃ z1,[some (.m p),some (.m d),some (.d (.str x.1)),some (.m a),some (W.d (.str (cdS c)))]=[some (.m p),some (.m d),some (.d (.str x.1)),some (.m a),z1]:=by
   intro M'' d' b' f' hpt hk1 hk2;refine⟨_,f' a _ pa.symm hm,by simp;omega,ds++[d'],ff b' (aR pa),λ q o n e=>?_,by rw[aA];simp,by simp[hl],hp.snoc (by rw[hl];exact hc) hpt hk1 hk2,_,rfl⟩;have hqa:q≠a:=λ e'=>by have h3:=F3 q o n e;rw[e',ha] at h3;cases h3
   rw[aR hqa];exact f' q o n (f q o n e)
  refine⟨_,rfl,_,_,.d,.d,rfl,_,rfl,?_⟩;rw[bq,q3];refine dY (λ h=>?_) (λ h=>?_)
  ·have h:c=.k:=of_decide_eq_true h;obtain⟨i1,ek⟩:=aik x hx i hi (by rw[hc,h]);obtain⟨v,ds0,eds,hv0,hv1⟩:∃ (v:Int) (ds0:List PyData),ds=ds0++[.int v]/\0<=v/\v<=6:=by
    have hne:ds≠[]:=λ e=>by rw[e] at hl;simp at hl;omega
    have hg:=hp.part (i-1) .c (ds.getLast hne) ek (by rw[<- hl,List.getElem?_eq_getElem (by omega)];rw[List.getLast_eq_getElem]);rcases hg with ⟨h',_⟩ | ⟨h',_⟩ | ⟨_,_,v,ev,h0,h1⟩
    ·cases h'
    ·cases h'
    ·exact⟨v,ds.dropLast,by rw[<- ev];exact(List.dropLast_concat_getLast hne).symm,h0,h1⟩
   have ex:ixW M' (.m a) (-1)=some (W.d (.int v)):=by
    simp only[ixW,hm];rw[eds];have:=aaO (((.str x.1:PyData)::ds0).map W.d) (W.d (.int v))
    simpa using this
   refine⟨_,rfl,a,_,rfl,hm,_,rfl,_,rfl,_,rfl,-1,W.d (.int v),rfl,ex,rfl,_,_,rfl,rfl,_,_,rfl,p,0,_,rfl,b,by omega,?_,?_,λ n M2 n0 n1 b2 f2=>?_⟩
   ·split<;>omega
   ·split<;>omega
   ·refine app M2 _ b2 (Fr.of f2) (.inr (.inr ⟨by rw[h];decide,by rw[h];decide,n,rfl,?_,?_⟩)) (λ _ i' ei=>?_) (λ _=>by omega)
    ·rw[h];exact n0
    ·rw[h];show n<=5
     split at n1<;>omega
    ·cases ei;refine⟨v,by rw[eds];simp,?_⟩;unfold ahB
     split at n1<;>split<;>omega
  have nk:c ≠ .k:=of_decide_eq_false h;refine⟨_,rfl,a,_,rfl,hm,_,rfl,_,rfl,p,c,rfl,nk,b,λ d' M2 hv b2 f2=>?_⟩;exact app M2 _ b2 f2 hv (λ h=>absurd h nk) (λ h=>absurd h nk)
 ·rintro τ M' ⟨ds,b,f,hm,hl,hp,y1,rfl⟩;rw[List.length_map] at hl;exact⟨_,rfl,_,(.str x.1::ds),rfl,.m hm,k x hx ds M' hl hp b f⟩
def pE(i:Int):Str:=Str.ofString (toString i)
def dtx:PyData->Str
 | .str y=>y
 | .int i=>pE i
 | _ => ""
def txD(x:Str×Str×List Cd)(ds:List PyData):Str:=Txt.join " " (x.1::ds.map dtx)
theorem join_snoc(sep y0 y:Str)(ys:List Str):Txt.join sep ((y0::ys)++[y])=Txt.join sep (y0::ys)++sep++y:=by
 have e:∀ zs:List Str,(Txt.join sep (y0::zs)).cps=zs.foldl (λ acc p=>acc++sep.cps++p.cps) y0.cps:=λ zs=>rfl;have e2:(Txt.join sep (y0::(ys++[y]))).cps=(Txt.join sep (y0::ys)++sep++y).cps:=by rw[e,List.foldl_append];show _=((Txt.join sep (y0::ys)).cps++sep.cps)++y.cps;rw[e];rfl
 cases h1:Txt.join sep (y0::(ys++[y])) with
 | mk a =>
  cases h2:Txt.join sep (y0::ys)++sep++y with
  | mk b =>
   rw[h1,h2] at e2;have e3:a=b:=e2;rw[List.cons_append,h1,e3]
theorem nj:∀ n<21,(pE ((n:Nat):Int)).length<=2/\1<=(pE ((n:Nat):Int)).length/\dW (pE ((n:Nat):Int))=true/\(32 ∉ (pE ((n:Nat):Int)).cps.toList):=by decide +kernel
theorem lM(c:Cd):cdH c<=20:=by cases c<;>decide
theorem oo:∀ y∈sorts,wd y=true:=by decide +kernel
theorem abk:∀ c,dX c=true->c≠32:=λ c h e=>by subst e;revert h;decide
theorem aeN(h:wd z=true):32 ∉ z.cps.toList:=λ hm=>abk 32 (zp h 32 hm) rfl
theorem wG(h:Vp c d):(dtx d).length<=8/\dW (dtx d)=true/\32 ∉ (dtx d).cps.toList:=by
 rcases h with ⟨_,y,rfl,hy⟩ | ⟨_,y,rfl,hy⟩ | ⟨h1,h2,i,rfl,i0,i1⟩
 ·exact⟨(ji hy).2,lL hy,aeN hy⟩
 ·have hy:=oo y hy;exact⟨(ji hy).2,lL hy,aeN hy⟩
 ·have c0:=(oB c h1 h2).1;have c1:=lM c;obtain⟨n,rfl⟩:=Int.eq_ofNat_of_zero_le (show 0<=i by omega);obtain⟨a,_,b,d'⟩:=nj n (by omega);exact⟨by show(pE (n:Int)).length<=8;omega,b,d'⟩
theorem j7(h:Vd cs ds)(hl:ds.length=cs.length)(hd:d∈ds):∃ c,Vp c d:=by obtain⟨j,hj,e⟩:=List.mem_iff_getElem.mp hd;exact⟨cs[j]'(by omega),h.part j _ d (List.getElem?_eq_getElem (by omega)) (by rw[<- e];exact List.getElem?_eq_getElem hj)⟩
theorem aij:∀ (ys:List Str),(∀ y∈ys,y.length<=8)->(ys.map (·.length)).sum<=8 * ys.length
 | [],_=>by simp
 | y::ys,h=>by have h1:=h y (by simp);have h2:=aij ys λ z hz=>h z (by simp[hz]);simp only[List.map_cons,List.sum_cons,List.length_cons];omega
theorem aeA(z:Str)(ds:List PyData):slW (.d (dd z ds)) (some 1) none=some (.d (.tuple ds)):=by
 have e1:HT.sIx (ds.length+1) 0 (some 1)=1:=by
  simp only[HT.sIx]
  split<;>omega
 have e2:HT.sIx (ds.length+1) (ds.length+1) none=ds.length+1:=rfl;simp only[slW,dd,uu,D.cutD,List.length_cons,e1,e2];simp
theorem acx(hx:x∈tabS)(hl:ds.length<=x.2.2.length)(hv:Vd x.2.2 ds):(txD x ds).length<=100:=by
 obtain⟨n6,n1⟩:=fK x hx;have hw:=eZ x hx;have h:=StrLaws.join_length_le " " (x.1::ds.map dtx);have e1:(" " : Str).length=1:=by decide +kernel
 have hs:=aij (x.1::ds.map dtx) λ y hy=>by
  rcases List.mem_cons.mp hy with rfl | hy
  ·exact(ji hw).2
  ·obtain⟨d,hd,rfl⟩:=List.mem_map.mp hy;obtain⟨j,hj,e⟩:=List.mem_iff_getElem.mp hd;exact(wG (hv.part j (x.2.2[j]'(by omega)) d (List.getElem?_eq_getElem (by omega)) (by rw[<- e];exact List.getElem?_eq_getElem hj))).1
 have eg:txD x ds=Str.join " " (x.1::ds.map dtx):=StrLaws.glued_eq_join " " _;rw[eg];rw[e1] at h;simp only[List.length_cons,List.length_map] at h hs;omega
theorem Vd.take(h:Vd cs ds)(n:Nat):Vd cs (ds.take n):=by
 have g:∀ (j:Nat) d,(ds.take n)[j]? =some d->j<n/\ds[j]? =some d:=λ j d e=>by have hlt:=(List.getElem?_eq_some_iff.mp e).1;rw[List.length_take] at hlt;rw[List.getElem?_take_of_lt (by omega)] at e;exact⟨by omega,e⟩
 refine⟨λ j c d e1 e2=>h.part j c d e1 (g j d e2).2,λ j e1 i e2=>?_⟩;obtain⟨hj,e3⟩:=g j _ e2;obtain⟨a,ea,hi⟩:=h.keep j e1 i e3;exact⟨a,by rw[List.getElem?_take_of_lt (by omega)];exact ea,hi⟩
theorem adJ{ds:List PyData}{i:Nat}{d:PyData}(h:ds[i]? =some d):txD x (ds.take (i+1))=txD x (ds.take i) ++ " " ++ dtx d:=by
 unfold txD;rw[List.take_succ,h];simp only[Option.toList_some,List.map_append,List.map_cons,List.map_nil];exact join_snoc " " x.1 (dtx d) ((ds.take i).map dtx)
theorem apart:∀ {a b r q:List Nat},c ∉ a->c ∉ b->a++c::r=b++c::q->a=b/\r=q
 | [],[],r,q,_,_,h=>⟨rfl,(List.cons.inj h).2⟩
 | [],y::b,r,q,_,hb,h=>absurd (by rw[(List.cons.inj h).1];simp) hb
 | x::a,[],r,q,ha,_,h=>absurd (by rw[<- (List.cons.inj h).1];simp) ha
 | x::a,y::b,r,q,ha,hb,h=>by obtain⟨e1,e2⟩:=List.cons.inj h;obtain⟨e3,e4⟩:=apart (λ z=>ha (by simp[z])) (λ z=>hb (by simp[z])) e2;exact⟨by rw[e1,e3],e4⟩
theorem iJ{x y:Str}(h:x.cps.toList=y.cps.toList):x=y:=by
 cases x with
 | mk a =>
  cases y with
  | mk b=>exact congrArg Str.mk (Array.toList_inj.mp h)
theorem join_cons(x y:Str)(r:List Str):(Str.join ⟨#[c]⟩ (x::y::r)).cps.toList=x.cps.toList++c::(Str.join ⟨#[c]⟩ (y::r)).cps.toList:=by show((x.cps ++ #[c])++(Str.join ⟨#[c]⟩ (y::r)).cps).toList=_;simp
theorem tw{c:Nat}:∀ {l q:List Str},l≠[]->q≠[]->(∀ p∈l,c ∉ p.cps.toList)->(∀ p∈q,c ∉ p.cps.toList)->(Str.join ⟨#[c]⟩ l).cps.toList=(Str.join ⟨#[c]⟩ q).cps.toList->l=q
 | [],_,h,_,_,_,_=>absurd rfl h
 | _,[],_,h,_,_,_=>absurd rfl h
 | [x],[y],_,_,_,_,e=>by rw[iJ (x:=x) (y:=y) e]
 | [x],y::y2::r,_,_,h1,_,e=>by rw[join_cons] at e;exact absurd (by show c∈(Str.join ⟨#[c]⟩ [x]).cps.toList;rw[e];simp) (h1 x (by simp))
 | x::x2::r,[y],_,_,_,h2,e=>by rw[join_cons] at e;exact absurd (by show c∈(Str.join ⟨#[c]⟩ [y]).cps.toList;rw[<- e];simp) (h2 y (by simp))
 | x::x2::r,y::y2::r',_,_,h1,h2,e=>by rw[join_cons,join_cons] at e;obtain⟨e1,e2⟩:=apart (h1 x (by simp)) (h2 y (by simp)) e;rw[iJ e1,tw (l:=x2::r) (q:=y2::r') (by simp) (by simp) (λ p hp=>h1 p (by simp[hp])) (λ p hp=>h2 p (by simp[hp])) e2]
theorem acV:∀ z∈six,z.length<=8:=by decide +kernel
theorem ahO(h:Pt c d):okD 1 d=true/\big d<=2000:=by
 rcases h with ⟨_,y,rfl,hy⟩ | ⟨_,y,rfl,hy⟩ | ⟨_,_,i,rfl,h0,h1⟩
 ·have:=(ji hy).2;exact⟨by simp only[okD];exact lL hy,by simp only[big];omega⟩
 ·have:=acV y hy;exact⟨by simp only[okD];exact ad6 y hy,by simp only[big];omega⟩
 ·exact⟨by simp only[okD]<;>(first | rfl | simp[small] | (simp only[decide_eq_true_eq];omega) | skip),by simp only[big];omega⟩
theorem aiK(hx:x∈tabS)(hl:ds.length=x.2.2.length)(hp:Pts x.2.2 ds):okD 2 (dd x.1 ds)=true/\big (dd x.1 ds)<=1000000:=by
 obtain⟨n6,n1⟩:=fK x hx;have hw:=eZ x hx;have h8:=(ji hw).2;have each:∀ d∈(.str x.1:PyData)::ds,okD 1 d=true/\big d<=2000:=by
  intro d hd;rcases List.mem_cons.mp hd with rfl | hd
  ·exact⟨by simp only[okD];exact lL hw,by simp only[big];omega⟩
  ·obtain⟨j,hj,e⟩:=List.mem_iff_getElem.mp hd;exact ahO (hp j (x.2.2[j]'(by omega)) d (List.getElem?_eq_getElem (by omega)) (by rw[<- e];exact List.getElem?_eq_getElem hj))
 refine⟨by simp only[dd,okD];exact xN λ d hd=>(each d hd).1,?_⟩;have:=yL (c:=2000) λ d hd=>(each d hd).2;simp only[dd,big];simp only[List.length_cons] at this;omega
theorem ags(hx:x∈tabS)(hl:ds.length=x.2.2.length)(hv:Vd x.2.2 ds):dW (txD x ds)=true:=by
 refine tu (aaY (dm (by decide +kernel)) λ y hy=>?_).1;rcases List.mem_cons.mp hy with rfl | hy
 ·exact cy (lL (eZ x hx))
 ·obtain⟨d,hd,rfl⟩:=List.mem_map.mp hy;obtain⟨c,hc⟩:=j7 hv hl hd;exact cy (wG hc).2.1
theorem x8(z:Str):(!PyData.eqv (.str z) (.str z))=false:=by rw[bq,decide_eq_true rfl];rfl
theorem kz(h0:l≠[])(h:∀ p∈l,c ∉ p.cps.toList):Txt.split (Txt.join ⟨#[c]⟩ l) ⟨#[c]⟩=l:=by
 refine tw ?_ h0 (StrLaws.split_free _ c) h ?_
 ·intro e;have:=split_pos (Txt.join ⟨#[c]⟩ l) ⟨#[c]⟩;rw[e] at this;simp at this
 ·rw[StrLaws.join_split];show(Builtin.Str.glued ⟨#[c]⟩ l).cps.toList=_;rw[StrLaws.glued_eq_join]
theorem aht:(" " : Str)=⟨#[32]⟩:=by decide +kernel
theorem afC:("\n" : Str)=⟨#[10]⟩:=by decide +kernel
theorem vO(h0:l≠[])(h:∀ p∈l, 32 ∉ p.cps.toList):Txt.split (Txt.join " " l) " " = l:=by rw[aht];exact kz h0 h
theorem abu(hx:x∈tabS)(hl:ds.length=x.2.2.length)(hv:Vd x.2.2 ds):Txt.split (txD x ds) " " = x.1::ds.map dtx:=
 vO (by simp) λ p hp=>by
  rcases List.mem_cons.mp hp with rfl | hp
  ·exact aeN (eZ x hx)
  ·obtain⟨d, hd, rfl⟩:=List.mem_map.mp hp;obtain⟨c, hc⟩:=j7 hv hl hd;exact(wG hc).2.2
def ais:Str:= "0123456789"
def ad3(n:Nat):Str:=⟨#[48+n]⟩
theorem xB{n:Nat}(h:n<10):ixW M (.d (.str "0123456789")) (n:Int)=some (.d (.str (ad3 n))):=by
 have e:∀ n<10, ais.cps.toList[n]? =some (48+n):=by decide +kernel
 show(atI ais.cps.toList (n:Int)).map (λ c=>W.d (.str ⟨#[c]⟩))=_;rw[iX (xs:=ais.cps.toList) (e n h)];rfl
theorem akf:∀ n<10, ad3 n ++ "" = pE ((n:Nat):Int):=by decide +kernel
theorem ajS:∀ n<21, 10<=n->ad3 (n / 10)++(ad3 (n % 10) ++ "")=pE ((n:Nat):Int):=by decide +kernel
theorem aiP:∀ n<10, (ad3 n++("" : Str)).length=1:=by decide +kernel
theorem sA:∀ n:Nat,(ad3 n).length=1:=λ n=>rfl
def bY:SpD:=λ ws M Q=>∃ n:Nat,n<21/\ws=[.d (.int n)]/\Q (.d (.str (pE n))) M
theorem nO:∀ ws M Q,bY ws M Q->ws.length=1:=by rintro ws M Q ⟨n,_,rfl,_⟩;rfl
theorem l7:∀ ws M Q,bY ws M Q->jS {nx:=λ _ M'=>Q (.d .none) M',rt:=Q} (aT k7 ws) M:=by
 rintro ws M Q ⟨n,hn,rfl,k⟩;have s16':=s16;have e0:("" : Str).length=0:=by decide +kernel
 refine⟨λ m τ M'=>M'=M/\((m=1/\10<=n/\τ=[some (.d (.int (n:Int))),some (.d (.str ""))])\/(m=0/\10<=n/\τ=[some (.d (.int ((n / 10:Nat):Int))),some (.d (.str (ad3 (n % 10) ++ "")))])\/(m=0/\n<10/\τ=[some (.d (.int (n:Int))),some (.d (.str ""))])),?_,?_⟩
 ·by_cases h:10<=n
  ·exact⟨1,rfl,.inl ⟨rfl,h,rfl⟩⟩
  ·exact⟨0,rfl,.inr (.inr ⟨rfl,by omega,rfl⟩)⟩
 ·rintro m τ M' ⟨rfl,⟨rfl,h,rfl⟩ | ⟨rfl,h,rfl⟩ | ⟨rfl,h,rfl⟩⟩
  ·refine⟨_,rfl,_,_,rfl,rfl,_,rfl,eJ (decide_eq_true (show(n:Int) > 9 by omega)) ?_⟩;refine⟨_,rfl,_,_,rfl,rfl,(by decide:(0:Int)<10),?_⟩;have em:((n:Int) % 10)=((n % 10:Nat):Int):=by omega
   have ed:((n:Int) / 10)=((n / 10:Nat):Int):=by omega
   refine⟨_,_,rfl,by rw[em];exact xB (by omega),by decide +kernel,_,rfl,.inr ⟨_,_,rfl,rfl,by rw[sA,e0];omega,?_⟩⟩;refine⟨_,rfl,_,_,rfl,rfl,⟨by decide,by decide⟩,0,by omega,rfl,.inr (.inl ⟨rfl,h,?_⟩)⟩;show [some (W.d (.int ((n:Int) / 10))),_]=_;rw[ed]
  ·refine⟨_,rfl,_,_,rfl,rfl,_,rfl,eI (decide_eq_false (show ¬ ((n / 10:Nat):Int) > 9 by omega)) ?_⟩;refine⟨_,rfl,_,_,rfl,xB (by omega),by decide +kernel,_,rfl,.inr ⟨_,_,rfl,rfl,?_,?_⟩⟩
   ·rw[sA,aiP _ (by omega)];omega
   ·rw[ajS n hn h];exact k
  ·refine⟨_,rfl,_,_,rfl,rfl,_,rfl,eI (decide_eq_false (show ¬ (n:Int) > 9 by omega)) ?_⟩;refine⟨_,rfl,_,_,rfl,xB h,by decide +kernel,_,rfl,.inr ⟨_,_,rfl,rfl,?_,?_⟩⟩
   ·rw[sA,e0];omega
   ·rw[akf n h];exact k
def bX:SpD:=λ ws M Q=>∃ x∈tabS,∃ ds:List PyData,ws=[.d (dd x.1 ds)]/\ds.length=x.2.2.length/\Vd x.2.2 ds/\Q (.d (.str (txD x ds))) M
theorem oQ:∀ ws M Q,bX ws M Q->ws.length=1:=by rintro ws M Q ⟨x,_,ds,rfl,_⟩;rfl
theorem l9:∀ ws M Q,bX ws M Q->lu bY {nx:=λ _ M'=>Q (.d .none) M',rt:=Q} (aT kj ws) M:=by
 rintro ws M Q ⟨x,hx,ds,rfl,hl,hv,k⟩;have s16':=s16;have e1:(" " : Str).length=1:=by decide +kernel
 refine⟨_,rfl,_,_,rfl,agS,rfl,?_⟩;refine⟨_,rfl,_,rfl,_,aeA x.1 ds,rfl,_,rfl,?_⟩;refine⟨λ i τ M'=>M'=M/\∃ y,τ=[some (.d (dd x.1 ds)),some (.d (.str (txD x (ds.take i)))),y],⟨rfl,_,rfl⟩,?_,?_⟩
 ·rintro i w τ M' hw ⟨rfl,y,rfl⟩;obtain⟨d,hd,rfl⟩:=gM hw;have hi:i<ds.length:=(List.getElem?_eq_some_iff.mp hd).1;obtain⟨c,hc⟩:=j7 hv hl (List.mem_of_getElem? hd);have l1:=acx (ds:=ds.take i) hx (by rw[List.length_take];omega) (hv.take i);have l2:=(wG hc).1;have l3:(txD x (ds.take i) ++ " ").length=(txD x (ds.take i)).length+1:=by rw[Str.length_append,e1]
  have fin:∀ t,t=txD x (ds.take i) ++ " " ++ dtx d->(M'=M'/\∃ y,[some (W.d (dd x.1 ds)),some (.d (.str t)),some (W.d d)]=[some (.d (dd x.1 ds)),some (.d (.str (txD x (ds.take (i+1))))),y]):=λ t ht=>⟨rfl,some (W.d d),by rw[adJ hd,ht]⟩;refine⟨_,rfl,_,_,_,rfl,.d,.str,_,rfl,?_⟩;rcases hc with ⟨_,z,rfl,hz⟩ | ⟨_,z,rfl,hz⟩ | ⟨h1,h2,v,rfl,v0,v1⟩
  ·refine eJ (lb z) ⟨_,rfl,.inr ⟨_,_,rfl,rfl,by rw[e1];omega,_,rfl,.inr ⟨_,_,rfl,rfl,?_,fin _ rfl⟩⟩⟩;show(txD x (ds.take i) ++ " ").length+z.length<=sizeLine;have l2':z.length<=8:=l2;omega
  ·refine eJ (lb z) ⟨_,rfl,.inr ⟨_,_,rfl,rfl,by rw[e1];omega,_,rfl,.inr ⟨_,_,rfl,rfl,?_,fin _ rfl⟩⟩⟩;show(txD x (ds.take i) ++ " ").length+z.length<=sizeLine;have l2':z.length<=8:=l2;omega
  ·have c0:=(oB c h1 h2).1;have c1:=lM c;obtain⟨n,rfl⟩:=Int.eq_ofNat_of_zero_le (show 0<=v by omega);refine eI (by simp[gF,tyD]) ⟨_,rfl,.inr ⟨_,_,rfl,rfl,by rw[e1];omega,_,rfl,n,by omega,rfl,.inr ⟨_,_,rfl,rfl,?_,fin _ rfl⟩⟩⟩;show(txD x (ds.take i) ++ " ").length+(pE n).length<=sizeLine;have l2':(pE (n:Int)).length<=8:=l2;omega
 ·rintro τ M' ⟨rfl,y,rfl⟩;rw[List.length_map,List.take_length];exact⟨_,rfl,k⟩
theorem tF:∀ {l:List Str} {p:Str},p∈l->p.length<=(Str.join ⟨#[c]⟩ l).length/\∀ x∈p.cps.toList,x∈(Str.join ⟨#[c]⟩ l).cps.toList
 | [],p,h=>nomatch h
 | [y],p,h=>by rw[List.mem_singleton.mp h];exact⟨Nat.le_refl _,λ x hx=>hx⟩
 | y::y2::r,p,h=>by
  have e:=join_cons (c:=c) y y2 r;have el:(Str.join ⟨#[c]⟩ (y::y2::r)).length=y.length+1+(Str.join ⟨#[c]⟩ (y2::r)).length:=by rw[<- str_len,e,<- str_len y,<- str_len (Str.join _ (y2::r))];simp;omega
  rcases List.mem_cons.mp h with rfl | h
  ·exact⟨by omega,λ x hx=>by rw[e];simp[hx]⟩
  ·obtain⟨h1,h2⟩:=tF (c:=c) h;exact⟨by omega,λ x hx=>by rw[e];simp[h2 x hx]⟩
theorem part_of(h:p∈Txt.split z ⟨#[c]⟩):p.length<=z.length/\(dW z=true->dW p=true):=by obtain⟨h1,h2⟩:=tF (c:=c) h;rw[StrLaws.join_split] at h1 h2;exact⟨h1,λ ha=>tu λ x hx=>cy ha x (h2 x hx)⟩
def uc(c:Nat):Bool:=decide (48<=c)&&decide (c<=57)
theorem acz:∀ c<128,inS ⟨#[c]⟩ "0123456789" = uc c:=by decide +kernel
def fj(y:Str):Bool:=decide ((⟨#[y.cps.toList.headD 0]⟩:Str) = "0")&&!decide (y = "0")
def gQ(y:Str):Bool:=decide (1<=y.length)&&(decide (y.length<=10)&&(y.cps.toList.all uc&&!fj y))
def rn(y:Str):PyData:=if gQ y=true then .int ((NumText.digitsVal y.cps.toList:Nat):Int) else .none
theorem zc(h:cs.all uc=true):NumText.AllDigits cs:=λ c hc=>by
 have:=List.all_eq_true.mp h c hc
 simpa [uc] using this
def bB:SpD:=λ ws M Q=>∃ y:Str,ws=[.d (.str y)]/\dW y=true/\y.length<=100000/\Q (.d (rn y)) M
theorem kN:∀ ws M Q,bB ws M Q->ws.length=1:=by rintro ws M Q ⟨y,rfl,_⟩;rfl
theorem jw:∀ ws M Q,bB ws M Q->iE {nx:=λ _ M'=>Q (.d .none) M',rt:=Q} (aT iH ws) M:=by
 rintro ws M Q ⟨y,rfl,ha,hl,k⟩;have s16':=s16;have hfit:u3 (.d (.str y))=true:=decide_eq_true (by omega);have no:gQ y=false->Q (.d .none) M:=λ h=>by
  unfold rn at k;rw[h] at k;exact k
 refine⟨_,rfl,_,_,rfl,rfl,hfit,.inl ⟨_,_,rfl,rfl,_,rfl,?_⟩⟩
 by_cases h1:1<=y.length
 ·refine eJ (decide_eq_true (show(1:Int)<=(y.length:Nat) by omega)) (.inl ⟨_,_,rfl,rfl,_,rfl,?_⟩)
  by_cases h2:y.length<=10
  ·refine eI (by rw[decide_eq_true (show((y.length:Nat):Int)<=10 by omega)];rfl) ⟨_,rfl,_,rfl,?_⟩;dsimp only;refine gv y.cps.toList (λ c=>W.d (.str ⟨#[c]⟩)) (λ c=>.bool (uc c)) (λ τ=>∃ x,τ=[x]) (by rw[str_len];omega) ⟨_,rfl⟩ (λ c hc τ hτ R h=>?_) (λ τ=>?_)
   ·obtain⟨x,rfl⟩:=hτ;have go:=h [some (.d (.str ⟨#[c]⟩))] ⟨_,rfl⟩;rw[<- acz c (cy ha c hc)] at go;exact⟨_,rfl,_,_,rfl,rfl,_,rfl,go⟩
   ·refine⟨y.cps.toList.map uc,by rw[List.map_map];rfl,_,rfl,?_⟩;have eA:(y.cps.toList.map uc).all id=y.cps.toList.all uc:=by rw[List.all_map];rfl
    rw[eA];cases hA:y.cps.toList.all uc with
    | false =>
     refine fV (no ?_);unfold gQ;rw[hA];simp
    | true =>
     refine dB ?_;obtain⟨c,r,ec⟩:∃ c r,y.cps.toList=c::r:=by
      cases hq:y.cps.toList with
      | nil =>
       have:=str_len y;rw[hq] at this;simp at this;omega
      | cons c r=>exact⟨c,r,rfl⟩
     have e0:ixW M (.d (.str y)) 0=some (.d (.str ⟨#[c]⟩)):=by show(atI y.cps.toList ((0:Nat):Int)).map (λ c=>W.d (.str ⟨#[c]⟩))=_;rw[iX (v:=c) (by rw[ec];rfl)];rfl
     have eh:y.cps.toList.headD 0=c:=by rw[ec];rfl
     refine⟨_,rfl,_,_,rfl,e0,hfit,_,_,.d,.d,rfl,_,rfl,?_⟩;rw[bq];have last:fj y=false->yr [W.d (PyData.str y)] M Q:=λ hn=>by
      have hf:gQ y=true:=by
       unfold gQ;rw[hA,hn,decide_eq_true h1,decide_eq_true h2];rfl
      unfold rn at k;rw[if_pos hf] at k;exact⟨_,_,rfl,PySem.intText_digits (zc hA) (by rw[ec];simp) (by omega),by omega,k⟩
     have bad:fj y=true->Q (.d .none) M:=λ hn=>no (by unfold gQ;rw[hn];simp);unfold fj at last bad;rw[eh] at last bad;refine dY (λ h=>?_) (λ h=>?_)
     ·refine⟨_,rfl,_,_,.d,.d,rfl,_,rfl,?_⟩;rw[bq];rw[h,Bool.true_and] at last bad;exact dY (λ h=>bad h) (λ h=>⟨_,rfl,last h⟩)
     ·rw[h,Bool.false_and] at last;exact dB ⟨_,rfl,last rfl⟩
  ·refine eJ (by rw[decide_eq_false (show ¬ ((y.length:Nat):Int)<=10 by omega)];rfl) (no ?_);unfold gQ;rw[decide_eq_false h2];simp
 ·refine eI (decide_eq_false (show ¬ (1:Int)<=(y.length:Nat) by omega)) ?_;refine⟨_,rfl,eJ rfl (no ?_)⟩;unfold gQ;rw[decide_eq_false h1];simp
theorem aed:∀ n<21,gQ (pE ((n:Nat):Int))=true/\NumText.digitsVal (pE ((n:Nat):Int)).cps.toList=n:=by decide +kernel
theorem afq{n:Nat}(h:n<21):rn (pE (n:Int))=.int (n:Int):=by obtain⟨h1,h2⟩:=aed n h;unfold rn;rw[if_pos h1,h2]
theorem xy{y:Str}{i:Int}(h:rn y=.int i):y=pE i:=by
 unfold rn at h
 split at h
 ·rename_i hf
  injection h with h
  subst h;unfold gQ at hf;simp only[Bool.and_eq_true,decide_eq_true_eq,Bool.not_eq_true'] at hf;obtain⟨h1,h2,h3,h4⟩:=hf;have hd:=zc h3;refine iJ ?_;unfold pE;rw[W.KIN.signs_num];obtain⟨n,en⟩:∃ n,y.cps.toList.length=n+1:=⟨y.length-1,by rw[str_len];omega⟩;rw[NumText.toDigits_digitsVal n _ en hd ?_,List.map_map]
  ·refine(List.map_id _).symm.trans (List.map_congr_left λ c hc=>?_);have:=hd c hc;have q:∀ c<58,(Char.ofNat c).toNat=c:=by decide
   exact(q c (by omega)).symm
  ·cases hq:y.cps.toList with
   | nil=>rw[hq] at en;simp at en
   | cons c r =>
    have hc:=hd c (by rw[hq];simp)
    by_cases e:c=48
    ·unfold fj at h4;rw[hq] at h4;have e0:("0" : Str)=⟨#[48]⟩:=by decide +kernel
     have ey:y = "0":= by
      subst e;have:decide ((⟨#[(48::r).headD 0]⟩:Str) = "0")=true:=decide_eq_true (by rw[e0];rfl);rw[this,Bool.true_and] at h4
      simpa using h4
     rw[ey] at en;have:("0" : Str).cps.toList.length=1:=by decide +kernel
     exact .inl (by omega)
    ·exact .inr ⟨c,r,rfl,by omega⟩
 ·cases h
theorem xS(c:Cd):(fC fF (cdF c)).isSome=(decide (c ≠ .w)&&decide (c ≠ .e)):=by cases c<;>decide +kernel
def rp(c:Cd)(y:Str):PyData:=if (decide (c ≠ .w)&&decide (c ≠ .e))=true then rn y else .str y
def cf:SpD:=λ ws M Q=>∃ (c:Cd) (y:Str),ws=[.d (.str (cdF c)),.d (.str y)]/\dW y=true/\y.length<=100000/\Q (.d (rp c y)) M
theorem nA:∀ ws M Q,cf ws M Q->ws.length=2:=by rintro ws M Q ⟨c,d,rfl,_⟩;rfl
theorem lT:∀ ws M Q,cf ws M Q->lq bB {nx:=λ _ M'=>Q (.d .none) M',rt:=Q} (aT lH ws) M:=by
 rintro ws M Q ⟨c,y,rfl,ha,hl,k⟩;refine⟨_,rfl,_,rfl,_,rfl,?_⟩;rw[xS c];unfold rp at k;refine dY (λ h=>?_) (λ h=>?_)
 ·rw[h,if_pos rfl] at k;exact⟨_,rfl,y,rfl,ha,hl,k⟩
 ·rw[h,if_neg Bool.false_ne_true] at k;exact⟨_,rfl,k⟩
theorem ag3(y:Str):Fl (rn y):=by
 unfold rn
 split
 ·exact .inr (.inl ⟨_,rfl⟩)
 ·exact .inr (.inr rfl)
theorem ai1(ha:dW y=true)(hl:y.length<=100000):Fl (rp c y):=by
 unfold rp
 split
 ·exact ag3 y
 ·exact .inl ⟨y,rfl,ha,hl⟩
def wZ(y:Str):Option (Str×Str×List Cd):=tabS.find? λ x=>decide (x.1=y)
theorem xt:f9=tabS.map λ x=>(x.1,.tuple (bU x)):=rfl
theorem abv(y:Str):fC f9 y=(wZ y).map λ x=>.tuple (bU x):=by rw[xt];unfold fC wZ;rw[List.find?_map,Option.map_map];rfl
theorem kA(h:wZ y=some x):x∈tabS/\x.1=y:=by
 unfold wZ at h;have h2:=List.find?_some h;exact⟨List.mem_of_find?_eq_some h,of_decide_eq_true h2⟩
theorem xq:∀ x∈tabS,wZ x.1=some x:=by decide +kernel
def rps(cs:List Cd)(ys:List Str):List PyData:=List.zipWith rp cs ys
theorem ab9{cs:List Cd}{ys:List Str}{j:Nat}{d:PyData}(h:(rps cs ys)[j]? =some d):∃ c y,cs[j]? =some c/\ys[j]? =some y/\d=rp c y:=by
 unfold rps at h;rw[List.getElem?_zipWith] at h
 split at h
 ·rename_i c y e1 e2
  exact⟨c,y,e1,e2,(Option.some.inj h).symm⟩
 ·cases h
theorem gZ{cs:List Cd}{ys:List Str}{j:Nat}{c:Cd}{y:Str}(h1:cs[j]? =some c)(h2:ys[j]? =some y):(rps cs ys)[j]? =some (rp c y):=by
 unfold rps;rw[List.getElem?_zipWith,h1,h2]
def res(z:Str):Option PyData:=match Txt.split z " " with
 | []=>none
 | y0::ys=>match wZ y0 with
  | none=>none
  | some x=>if ys.length=x.2.2.length/\gg x (rps x.2.2 ys)=true then some (dd x.1 (rps x.2.2 ys)) else none
theorem iO(z:Str):∃ y0 ys,Txt.split z " " = y0::ys:=by
 have:=split_pos z " ";cases h:Txt.split z " " with
 | nil=>rw[h] at this;simp at this
 | cons y0 ys=>exact⟨y0,ys,rfl⟩
def bW:SpX:=λ ws M Q E=>∃ d0:PyData,ws=[.d d0]/\(gF d0 "str" = false->∀ a,M a=none->E a (cn M a (.exc aV [])))/\(gF d0 "str" = true->∃ z:Str,d0=.str z/\dW z=true/\z.length<=50000/\(∀ d,res z=some d->Q (.d d) M)/\(res z=none->∀ a,M a=none->E a (cn M a (.exc aV []))))
theorem oO:∀ ws M Q E,bW ws M Q E->ws.length=1:=by rintro ws M Q E ⟨d0,rfl,_⟩;rfl
theorem nq{α:Type}(z:α)(ys:List α):D.cutD (z::ys) (some 1) none=ys/\D.cutD (z::ys) none (some 1)=[z]:=by
 have e1:HT.sIx (ys.length+1) 0 (some 1)=1:=by
  simp only[HT.sIx]
  split<;>omega
 have e2:HT.sIx (ys.length+1) (ys.length+1) none=ys.length+1:=rfl;have e3:HT.sIx (ys.length+1) (ys.length+1) (some 1)=1:=by
  simp only[HT.sIx]
  split<;>omega
 have e4:HT.sIx (ys.length+1) 0 none=0:=rfl;constructor
 ·simp only[D.cutD,List.length_cons,e1,e2];simp
 ·simp only[D.cutD,List.length_cons,e3,e4];simp
theorem lU:∀ ws M Q E,bW ws M Q E->jL (λ a _ M=>E a M) cf cV {nx:=λ _ M'=>Q (.d .none) M',rt:=Q} (aT k6 ws) M:=by
 rintro ws M Q E ⟨d0,rfl,hodd,hstr⟩;have s16':=s16;refine⟨_,rfl,_,_,_,rfl,.d,.str,_,rfl,?_⟩;cases hty:gF d0 "str" with
 | false=>exact fV ⟨by simp,hodd hty⟩
 | true =>
 obtain⟨z,rfl,ha,hzl,ky,kn⟩:=hstr hty;refine dB ⟨_,rfl,z,rfl, " ",rfl,by decide +kernel,by omega,?_⟩;obtain⟨y0,ys,es⟩:=iO z;have hpart:∀ p∈y0::ys,p.length<=z.length/\dW p=true:=λ p hp=>by have:=part_of (z:=z) (p:=p) (c:=32) (by rw[<- aht,es];exact hp);exact⟨this.1,this.2 ha⟩
 rw[es];have hp0:ixW M (.d (.list ((y0::ys).map PyData.str))) 0=some (.d (.str y0)):=acj (i:=0) (f:=PyData.str) rfl rfl;refine⟨_,rfl,_,_,rfl,hp0,rfl,y0,rfl,?_⟩;rw[abv];cases ht:wZ y0 with
 | none =>
  refine⟨_,rfl,rfl,_,rfl,fV (fV ⟨by simp,kn ?_⟩)⟩;unfold res;rw[es];simp only[ht]
 | some x =>
  obtain⟨hx,ey⟩:=kA ht;obtain⟨n6,n1⟩:=fK x hx;have eres:res z=if ys.length=x.2.2.length/\gg x (rps x.2.2 ys)=true then some (dd x.1 (rps x.2.2 ys)) else none:=by
   unfold res;rw[es];simp only[ht]
  have hfl:(bU x).length=x.2.2.length:=by simp[bU]
  have hpl:((y0::ys).map PyData.str).length=ys.length+1:=by simp
  refine⟨_,rfl,rfl,_,rfl,dB ⟨_,rfl,_,_,rfl,rfl,rfl,_,rfl,_,_,rfl,rfl,rfl,.inl ⟨_,_,rfl,rfl,_,_,.d,.d,rfl,_,rfl,?_⟩⟩⟩
  by_cases hn:ys.length=x.2.2.length
  ·have z2:(!PyData.eqv (.int (((y0::ys).map PyData.str).length:Int)) (.int (((bU x).length:Int)+1)))=false:=by rw[cN,decide_eq_true (by omega)];rfl
   refine eI (c:=!PyData.eqv (.int (((y0::ys).map PyData.str).length:Int)) (.int (((bU x).length:Int)+1))) z2 ?_;have hc1:slW (.d (.list ((y0::ys).map PyData.str))) none (some 1)=some (.d (.list [.str y0])):=by simp only[slW,List.map_cons,(nq _ _).2]
   have hc2:slW (.d (.list ((y0::ys).map PyData.str))) (some 1) none=some (.d (.list (ys.map PyData.str))):=by simp only[slW,List.map_cons,(nq _ _).1]
   refine⟨_,rfl,_,rfl,_,hc1,rfl,_,rfl,_,rfl,_,rfl,_,hc2,rfl,bU x,ys.map PyData.str,rfl,?_⟩;dsimp only;have hrl:(rps x.2.2 ys).length=ys.length:=by simp[rps,hn]
   have hzl2:(rB (bU x) (ys.map PyData.str)).length=(rps x.2.2 ys).length:=by simp[rB,rps,hfl,hn]
   refine⟨λ i acc τ M'=>M'=M/\acc=(rps x.2.2 ys).take i/\∃ y1 y2,τ=[y1,y2],⟨rfl,rfl,_,_,rfl⟩,?_,?_⟩
   ·rintro i w acc τ M' hw ⟨rfl,rfl,y1,y2,rfl⟩;obtain⟨j,hj,rfl⟩:=gM hw;obtain⟨hlt,hj2⟩:=List.getElem?_eq_some_iff.mp hj;rw[List.getElem_range] at hj2;subst hj2;have hi:i<x.2.2.length:=by simpa [hfl,hn] using hlt
    obtain⟨c,hc⟩:∃ c,x.2.2[i]? =some c:=⟨_,List.getElem?_eq_getElem hi⟩;obtain⟨y,hy⟩:∃ y,ys[i]? =some y:=⟨_,List.getElem?_eq_getElem (by omega)⟩;have ef:(bU x).getD i .none=.str (cdF c):=by simp[bU,List.getD,hc]
    have ed:(ys.map PyData.str).getD i .none=.str y:=by simp[List.getD,hy]
    rw[ef,ed];obtain⟨p1,p2⟩:=hpart y (List.mem_cons_of_mem _ (List.mem_of_getElem? hy));refine⟨by rw[List.length_take];omega,_,rfl,rfl,_,_,rfl,_,_,rfl,rfl,_,rfl,_,rfl,c,y,rfl,p2,by omega,_,rfl,rfl,?_,_,_,rfl⟩;rw[List.take_succ,gZ hc hy];rfl
   ·rintro acc τ M' ⟨rfl,rfl,y1,y2,rfl⟩;rw[hzl2,List.take_length];refine⟨[.str y0],rps x.2.2 ys,.d,.d,by simp;omega,_,_,rfl,.l,?_⟩;rw[<- ey];refine⟨_,rfl,x,hx,rps x.2.2 ys,rfl,by omega,λ d hd=>?_,_,rfl,?_⟩
    ·obtain⟨j,hj,e⟩:=List.mem_iff_getElem.mp hd;obtain⟨c,y,_,hy,rfl⟩:=ab9 (d:=d) (by rw[<- e];exact List.getElem?_eq_getElem hj);obtain⟨p1,p2⟩:=hpart y (List.mem_cons_of_mem _ (List.mem_of_getElem? hy));exact ai1 p2 (by omega)
    ·cases hG:gg x (rps x.2.2 ys) with
     | true =>
      refine dB ⟨_,rfl,ky _ ?_⟩;rw[eres,if_pos ⟨hn,hG⟩];rfl
     | false =>
      refine fV ⟨by simp,kn ?_⟩;rw[eres,if_neg λ h=>by rw[hG] at h;exact absurd h.2 Bool.false_ne_true]
  ·have z2:(!PyData.eqv (.int (((y0::ys).map PyData.str).length:Int)) (.int (((bU x).length:Int)+1)))=true:=by rw[cN,decide_eq_false (by omega)];rfl
   refine eJ (c:=!PyData.eqv (.int (((y0::ys).map PyData.str).length:Int)) (.int (((bU x).length:Int)+1))) z2 ⟨by simp,kn ?_⟩;rw[eres,if_neg λ h=>hn h.1]
theorem xl(hx:x∈tabS)(hl:ds.length=x.2.2.length)(hv:Vd x.2.2 ds):gg x ds=true:=by
 unfold gg;simp only[Bool.and_eq_true,List.all_eq_true,List.mem_range,Bool.or_eq_true,Bool.not_eq_true',decide_eq_false_iff_not];have hp:∀ j<x.2.2.length,pJ x ds j=true:=by
  intro j hj;have hc:x.2.2[j]? =some x.2.2[j]:=List.getElem?_eq_getElem hj;have hd:ds[j]? =some (ds[j]'(by omega)):=List.getElem?_eq_getElem (by omega);have hp:=hv.part j _ _ hc hd;have e:pJ x ds j=pG x.2.2[j] (ds[j]'(by omega)):=by simp only[pJ,List.getD,hc,hd,Option.getD_some]
  rw[e];rcases hp with ⟨h,z,ez,hz⟩ | ⟨h,z,ez,hz⟩ | ⟨h1,h2,v,ev,v0,v1⟩
  ·rw[h,ez];exact hz
  ·rw[h,ez]
   simpa [pG,yi] using hz
  ·rw[ev];simp only[pG,if_neg h1,if_neg h2];simp[inB,btw,v0,v1]
 refine⟨hp,?_⟩
 by_cases hk:Cd.k∈x.2.2
 ·obtain⟨_,_,c1,c2,c3⟩:=k_is x hx hk;obtain⟨i,ei⟩:=uV hl (hp _ (List.getElem?_eq_some_iff.mp c2).1) c2 (by decide) (by decide);obtain⟨a,ea,hi⟩:=hv.keep (kK x) c2 i ei;have ec:kK x-1=kC x:=by omega
  rw[ec] at ea;refine .inr ?_;have ek:kf x ds=leK a i:=by simp only[kf,List.getD,ea,ei,Option.getD_some]
  rw[ek];exact decide_eq_true hi
 ·exact .inl hk
theorem ah8(h:Vp c d):rp c (dtx d)=d:=by
 rcases h with ⟨rfl,z,rfl,hz⟩ | ⟨rfl,z,rfl,hz⟩ | ⟨h1,h2,v,rfl,v0,v1⟩
 ·rfl
 ·rfl
 ·unfold rp;rw[decide_eq_true h1,decide_eq_true h2,Bool.and_self,if_pos rfl];have c0:=(oB c h1 h2).1;have c1:=lM c;obtain⟨n,rfl⟩:=Int.eq_ofNat_of_zero_le (show 0<=v by omega);exact afq (by omega)
theorem agx(hl:ds.length=cs.length)(hv:Vd cs ds):rps cs (ds.map dtx)=ds:=by
 refine List.ext_getElem? λ j=>?_
 by_cases hj:j<ds.length
 ·have hd:ds[j]? =some ds[j]:=List.getElem?_eq_getElem hj;have hc:cs[j]? =some (cs[j]'(by omega)):=List.getElem?_eq_getElem (by omega);rw[gZ (y:=dtx ds[j]) hc (by rw[List.getElem?_map,hd];rfl),ah8 (hv.part j _ _ hc hd),hd]
 ·rw[List.getElem?_eq_none (by simp[rps];omega),List.getElem?_eq_none (by omega)]
theorem agz(hx:x∈tabS)(hl:ds.length=x.2.2.length)(hv:Vd x.2.2 ds):res (txD x ds)=some (dd x.1 ds):=by
 unfold res;rw[abu hx hl hv];simp only[xq x hx,agx hl hv];rw[if_pos ⟨by rw[List.length_map];exact hl,xl hx hl hv⟩]
theorem acR(h:pG c (rp c y)=true):Vp c (rp c y)/\dtx (rp c y)=y:=by
 by_cases h1:c=.w
 ·subst h1;exact⟨.inl ⟨rfl,y,rfl,h⟩,rfl⟩
 by_cases h2:c=.e
 ·subst h2;exact⟨.inr (.inl ⟨rfl,y,rfl,of_decide_eq_true h⟩),rfl⟩
 have e:rp c y=rn y:=by
  unfold rp;rw[decide_eq_true h1,decide_eq_true h2,Bool.and_self,if_pos rfl]
 rw[e] at h ⊢;unfold pG at h;rw[if_neg h1,if_neg h2] at h;cases hq:rn y with
 | int i =>
  rw[hq] at h;simp only[inB,btw,Bool.and_eq_true,decide_eq_true_eq] at h;exact⟨.inr (.inr ⟨h1,h2,i,rfl,h.1,h.2⟩),(xy hq).symm⟩
 | _=>rw[hq] at h;cases h
theorem abi{z:Str}{d:PyData}(h:res z=some d):∃ x∈tabS,∃ ds:List PyData,d=dd x.1 ds/\ds.length=x.2.2.length/\Vd x.2.2 ds/\z=txD x ds:=by
 obtain⟨y0,ys,es⟩:=iO z;unfold res at h;rw[es] at h;simp only at h;cases ht:wZ y0 with
 | none=>rw[ht] at h;cases h
 | some x =>
  rw[ht] at h;simp only at h;obtain⟨hx,ey⟩:=kA ht
  split at h
  ·rename_i hh
   obtain⟨hn,hG⟩:=hh
   injection h with h
   have hrl:(rps x.2.2 ys).length=x.2.2.length:=by simp[rps,hn]
   have hG':=hG;unfold gg at hG';simp only[Bool.and_eq_true,List.all_eq_true,List.mem_range,Bool.or_eq_true,Bool.not_eq_true',decide_eq_false_iff_not] at hG';obtain⟨hall,hkeep⟩:=hG';have each:∀ (j:Nat) c y,x.2.2[j]? =some c->ys[j]? =some y->Vp c (rp c y)/\dtx (rp c y)=y:=λ j c y hc hy=>by
    have hp:=hall j (List.getElem?_eq_some_iff.mp hc).1;refine acR ?_;have e:pJ x (rps x.2.2 ys) j=pG c (rp c y):=by simp only[pJ,List.getD,hc,gZ hc hy,Option.getD_some]
    rw[<- e];exact hp
   have hv:Vd x.2.2 (rps x.2.2 ys):=by
    refine⟨λ j c d' hc hd=>?_,λ j hj i hi=>?_⟩
    ·obtain⟨c',y,hc',hy,rfl⟩:=ab9 hd;rw[hc] at hc';cases hc';exact(each j c y hc hy).1
    ·have hk:Cd.k∈x.2.2:=List.mem_of_getElem? hj;obtain⟨_,_,c1,c2,c3⟩:=k_is x hx hk;have ej:j=kK x:=ag4 x hx j (List.getElem?_eq_some_iff.mp hj).1 hj;obtain⟨a,ea⟩:=uV (by omega) (hall _ (List.getElem?_eq_some_iff.mp c1).1) c1 (by decide) (by decide);have ec:j-1=kC x:=by omega
     refine⟨a,by rw[ec];exact ea,?_⟩;rcases hkeep with hk' | hk'
     ·exact absurd hk hk'
     ·rw[ej] at hi;have ek:kf x (rps x.2.2 ys)=leK a i:=by simp only[kf,List.getD,ea,hi,Option.getD_some]
      rw[ek] at hk';exact of_decide_eq_true hk'
   refine⟨x,hx,rps x.2.2 ys,h.symm,hrl,hv,?_⟩;have ed:(rps x.2.2 ys).map dtx=ys:=by
    refine List.ext_getElem? λ j=>?_
    by_cases hj:j<ys.length
    ·have hy:ys[j]? =some ys[j]:=List.getElem?_eq_getElem hj;have hc:x.2.2[j]? =some (x.2.2[j]'(by omega)):=List.getElem?_eq_getElem (by omega);rw[List.getElem?_map,gZ hc hy,hy];exact congrArg some (each j _ _ hc hy).2
    ·rw[List.getElem?_eq_none (by simp[rps];omega),List.getElem?_eq_none (by omega)]
   have ej:=StrLaws.join_split z " ";rw[es,<- ey] at ej;unfold txD;rw[ed];show z=Builtin.Str.glued " " (x.1::ys);rw[StrLaws.glued_eq_join,ej]
  ·cases h
def tx:PyData->Str
 | .tuple ps=>Txt.join " " (ps.map dtx)
 | _ => ""
def Gd(d:PyData):Prop:=∃ x∈tabS,∃ ds:List PyData,d=dd x.1 ds/\ds.length=x.2.2.length/\Vd x.2.2 ds
theorem Gd.len(h:Gd d):(tx d).length<=100:=by obtain⟨x,hx,ds,rfl,hl,hv⟩:=h;exact acx hx (by omega) hv
theorem Gd.asc(h:Gd d):dW (tx d)=true:=by obtain⟨x,hx,ds,rfl,hl,hv⟩:=h;exact ags hx hl hv
theorem Gd.res(h:Gd d):res (tx d)=some d:=by obtain⟨x,hx,ds,rfl,hl,hv⟩:=h;exact agz hx hl hv
theorem Gd.back(h:_root_.K16.res z=some d):Gd d/\z=tx d:=by obtain⟨x,hx,ds,rfl,hl,hv,e⟩:=abi h;exact⟨⟨x,hx,ds,rfl,hl,hv⟩,e⟩
theorem Gd.ok(h:Gd d):okD 2 d=true/\big d<=1000000:=by obtain⟨x,hx,ds,rfl,hl,hv⟩:=h;exact aiK hx hl hv.pts
theorem ig(x y:Str):(x++y).cps.toList=x.cps.toList++y.cps.toList:=by show(x.cps++y.cps).toList=_;simp
def vp:Str:= " 0123456789abcdefghijklmnopqrstuvwxyz\n.-+A:_"
theorem abC:vp.length=44:=by decide +kernel
theorem aiE:Asc vp:=dm (by decide +kernel)
theorem oq(x y:Str):(x++y).length=x.length+y.length:=by rw[<- str_len,ig,List.length_append,str_len,str_len]
theorem aez(hz:Asc z)(h:aie z y):Asc y:=λ c hc=>hz c (h.2 c hc)
def cY:SpD:=λ ws M Q=>∃ (p:Addr) (z:Str),ws=[.m p,.d (.str z)]/\Bag M p/\dW z=true/\z.length<=2000/\∀ (y:Str) M',dW y=true->y.length<=4 * z.length+1->Bag M' p->(∀ q,q≠p->M' q=M q)->Q (.d (.str y)) M'
theorem vI:∀ ws M Q,cY ws M Q->ws.length=2:=by rintro ws M Q ⟨p,z,rfl,_⟩;rfl
theorem sW:∀ ws M Q,cY ws M Q->uB az {nx:=λ _ M'=>Q (.d .none) M',rt:=Q} (aT uF ws) M:=by
 rintro ws M Q ⟨p,z,rfl,hb,ha,hl,k⟩;have s16':=s16;have hfit:∀ y:Str,y.length<=10000->u3 (.d (.str y))=true:=λ y h=>decide_eq_true (by omega);have hz:=cy ha;refine⟨_,rfl,_,rfl,_,rfl,_,_,rfl,rfl,hfit vp (by rw[abC];omega),p,(vp.length:Nat),rfl,hb,by rw[abC];decide,by rw[abC];decide,λ r M1 r0 r1 b1 f1=>?_⟩;obtain⟨c,hc1,hm⟩:=pd (M:=M1) (z:=vp) r0 r1;have hc:=acM aiE hm;have lc:(⟨#[c]⟩:Str).length=1:=rfl;refine⟨r,_,rfl,hc1,hfit vp (by rw[abC];omega),?_⟩;refine⟨_,rfl,_,rfl,_,_,rfl,rfl,hfit z (by omega),.inl ⟨_,_,rfl,rfl,p,_,rfl,b1,by omega,by omega,λ a M2 a0 a1 b2 f2=>?_⟩⟩;refine⟨_,rfl,p,7,rfl,b2,by decide,by decide,λ h M3 h0 h1 b3 f3=>?_⟩;have fin:∀ y:Str,Asc y->y.length<=4 * z.length+1->Q (.d (.str y)) M3:=λ y ya yl=>k y M3 (tu ya) yl b3 λ q hq=>by rw[f3 q hq,f2 q hq,f1 q hq]
 have sl:=λ lo hi=>PySem.Txt.slice_le z lo hi;have sa:=λ lo hi=>kI hz lo hi;have three:∀ (x m y:Str),Asc x->Asc m->Asc y->x.length<=z.length->m.length<=2 * z.length+1->y.length<=z.length->Asc (x++m++y)/\(x++m++y).length<=4 * z.length+1/\x.length+m.length<=sizeLine/\(x++m).length+y.length<=sizeLine:=λ x m y ax am ay lx lm ly=>by refine⟨ee (ee ax am) ay,?_,by omega,?_⟩<;>simp only[oq]<;>omega
 refine⟨_,rfl,_,_,rfl,rfl,_,rfl,dY (λ _=>?_) (λ _=>?_)⟩
 ·obtain⟨q1,q2,q3,q4⟩:=three (Txt.slice z none (some a)) ⟨#[c]⟩ (Txt.slice z (some a) none) (sa _ _) hc (sa _ _) (sl _ _) (by rw[lc];omega) (sl _ _);exact⟨_,rfl,_,rfl,_,rfl,_,rfl,hfit z (by omega),_,rfl,.inr ⟨_,_,rfl,rfl,q3,_,rfl,_,rfl,_,rfl,_,rfl,hfit z (by omega),.inr ⟨_,_,rfl,rfl,q4,fin _ q1 q2⟩⟩⟩
 refine⟨_,rfl,_,_,.d,.d,rfl,_,rfl,dY (λ _=>?_) (λ _=>?_)⟩
 ·obtain⟨q1,q2,q3,q4⟩:=three (Txt.slice z none (some a)) ⟨#[c]⟩ (Txt.slice z (some (a+1)) none) (sa _ _) hc (sa _ _) (sl _ _) (by rw[lc];omega) (sl _ _);exact⟨_,rfl,_,rfl,_,rfl,_,rfl,hfit z (by omega),_,rfl,.inr ⟨_,_,rfl,rfl,q3,_,rfl,_,rfl,.inl ⟨_,_,rfl,rfl,_,rfl,_,rfl,hfit z (by omega),.inr ⟨_,_,rfl,rfl,q4,fin _ q1 q2⟩⟩⟩⟩
 refine⟨_,rfl,_,_,.d,.d,rfl,_,rfl,dY (λ _=>?_) (λ _=>?_)⟩
 ·have l1:=sl none (some a);have l2:=sl (some (a+1)) none;exact⟨_,rfl,_,rfl,_,rfl,_,rfl,hfit z (by omega),_,rfl,_,rfl,.inl ⟨_,_,rfl,rfl,_,rfl,_,rfl,hfit z (by omega),.inr ⟨_,_,rfl,rfl,by omega,fin _ (ee (sa _ _) (sa _ _)) (by rw[oq];omega)⟩⟩⟩
 refine⟨_,rfl,_,_,.d,.d,rfl,_,rfl,dY (λ _=>?_) (λ _=>?_)⟩
 ·refine⟨_,rfl,_,rfl,_,rfl,_,rfl,hfit z (by omega),_,rfl,_,rfl,_,rfl,_,rfl,.inl ⟨_,_,rfl,rfl,_,rfl,_,rfl,hfit z (by omega),_,rfl,_,rfl,rfl,Txt.slice z (some a) (some (a+2)),rfl,?_,λ y hy=>?_⟩⟩
  ·have:=sl (some a) (some (a+2));omega
  ·have l1:=sl (some a) (some (a+2));obtain⟨q1,q2,q3,q4⟩:=three (Txt.slice z none (some a)) y (Txt.slice z (some (a+2)) none) (sa _ _) (aez (sa _ _) hy) (sa _ _) (sl _ _) (by have:=hy.1;omega) (sl _ _);exact .inr ⟨_,_,rfl,rfl,q3,_,rfl,_,rfl,.inl ⟨_,_,rfl,rfl,_,rfl,_,rfl,hfit z (by omega),.inr ⟨_,_,rfl,rfl,q4,fin _ q1 q2⟩⟩⟩
 refine⟨_,rfl,_,_,.d,.d,rfl,_,rfl,dY (λ _=>?_) (λ _=>?_)⟩
 ·have e1:(" " : Str).length=1:=by decide +kernel
  obtain⟨q1,q2,q3,q4⟩:=three (Txt.slice z none (some a)) " " (Txt.slice z (some a) none) (sa _ _) (dm (by decide +kernel)) (sa _ _) (sl _ _) (by rw[e1];omega) (sl _ _);exact⟨_,rfl,_,rfl,_,rfl,_,rfl,hfit z (by omega),.inr ⟨_,_,rfl,rfl,q3,_,rfl,_,rfl,_,rfl,_,rfl,hfit z (by omega),.inr ⟨_,_,rfl,rfl,q4,fin _ q1 q2⟩⟩⟩
 refine⟨_,rfl,_,rfl,_,rfl,_,rfl,hfit z (by omega),?_⟩;have ll:=sl (some a) none;have la:=sa (some a) none;generalize Txt.slice z (some a) none=t at ll la;refine⟨_,rfl,⟨_,rfl⟩,t, " ",rfl,rfl,λ j j0 j1=>.inl ⟨_,_,rfl,rfl,?_⟩⟩;have l1:=PySem.Txt.slice_le t none (some (j+1));have l2:=PySem.Txt.slice_le t (some (j+1)) none;have m1:=aar (Txt.slice t none (some (j+1)));obtain⟨q1,q2,q3,q4⟩:=three (Txt.slice z none (some a)) (Txt.mul (Txt.slice t none (some (j+1))) 2) (Txt.slice t (some (j+1)) none) (sa _ _) (λ c hc=>kI la _ _ c (vP _ c hc)) (kI la _ _) (sl _ _) (by omega) (by omega);exact⟨_,rfl,_,rfl,_,rfl,_,rfl,hfit z (by omega),_,rfl,_,rfl,_,rfl,_,rfl,hfit t (by omega),_,rfl,rfl,by omega,.inr ⟨_,_,rfl,rfl,q3,_,rfl,_,rfl,_,rfl,_,rfl,hfit t (by omega),.inr ⟨_,_,rfl,rfl,q4,fin _ q1 q2⟩⟩⟩
theorem aaT:∀ c<128,inS ⟨#[c]⟩ "abcdefghijklmnopqrstuvwxyz" = dX c:=by decide +kernel
def bV:SpD:=λ ws M Q=>∃ d,ws=[.d d]/\Fl d/\Q (.d (.bool (isW d))) M
theorem nG:∀ ws M Q,bV ws M Q->ws.length=1:=by rintro ws M Q ⟨d,rfl,_⟩;rfl
theorem lV:∀ ws M Q,bV ws M Q->kO {nx:=λ _ M'=>Q (.d .none) M',rt:=Q} (aT jW ws) M:=by
 rintro ws M Q ⟨d,rfl,hf,k⟩;have s16':=s16;refine⟨_,rfl,_,_,_,rfl,.d,.str,_,rfl,?_⟩;rcases hf with ⟨z,rfl,ha,hl⟩ | ⟨i,rfl⟩ | rfl
 ·have hfit:u3 (.d (.str z))=true:=decide_eq_true (by omega);have k':Q (.d (.bool (wd z))) M:=k;have no:¬ (1<=z.length/\z.length<=8)->Q (.d (.bool false)) M:=λ h=>by
   have e:wd z=false:=by
    unfold wd
    by_cases h1:1<=z.length
    ·rw[decide_eq_false (show ¬ z.length<=8 from λ h2=>h ⟨h1,h2⟩)];simp
    ·rw[decide_eq_false h1];simp
   rw[e] at k';exact k'
  refine eI (by rw[lb];rfl) ⟨_,rfl,_,_,rfl,rfl,hfit,_,_,rfl,rfl,_,rfl,?_⟩
  by_cases h1:1<=z.length
  ·refine eI (decide_eq_false (show ¬ ((z.length:Nat):Int)<1 by omega)) ⟨_,rfl,_,_,rfl,rfl,hfit,_,_,rfl,rfl,_,rfl,?_⟩
   by_cases h2:z.length<=8
   ·refine eI (decide_eq_false (show ¬ (8:Int)<((z.length:Nat):Int) by omega)) ⟨_,rfl,_,rfl,?_⟩;dsimp only;refine gv z.cps.toList (λ c=>W.d (.str ⟨#[c]⟩)) (λ c=>.bool (dX c)) (λ τ=>∃ x,τ=[x]) (by rw[str_len];omega) ⟨_,rfl⟩ (λ c hc τ hτ R h=>?_) (λ τ=>?_)
    ·obtain⟨x,rfl⟩:=hτ;have go:=h [some (.d (.str ⟨#[c]⟩))] ⟨_,rfl⟩;rw[<- aaT c (cy ha c hc)] at go;exact⟨_,rfl,_,_,rfl,rfl,_,rfl,go⟩
    ·refine⟨z.cps.toList.map dX,by rw[List.map_map];rfl,?_⟩;have e:wd z=(z.cps.toList.map dX).all id:=by
      unfold wd;rw[decide_eq_true h1,decide_eq_true h2,List.all_map];rfl
     rw[e] at k';exact k'
   ·exact eJ (decide_eq_true (show(8:Int)<((z.length:Nat):Int) by omega)) (no λ h=>h2 h.2)
  ·exact eJ (decide_eq_true (show((z.length:Nat):Int)<1 by omega)) (eJ rfl (no λ h=>h1 h.1))
 ·exact eJ rfl (eJ rfl k)
 ·exact eJ rfl (eJ rfl k)
def bD:SpD:=λ ws M Q=>∃ (d:PyData) (lo hi:Int),ws=[.d d,.d (.int lo),.d (.int hi)]/\Fl d/\Q (.d (.bool (inB lo hi d))) M
theorem oS:∀ ws M Q,bD ws M Q->ws.length=3:=by rintro ws M Q ⟨i,lo,hi,rfl,_⟩;rfl
theorem me:∀ ws M Q,bD ws M Q->kT {nx:=λ _ M'=>Q (.d .none) M',rt:=Q} (aT kh ws) M:=by
 rintro ws M Q ⟨d,lo,hi,rfl,hf,k⟩;refine⟨_,rfl,_,_,_,rfl,.d,.int,_,rfl,?_⟩;rcases hf with ⟨y,rfl,_⟩ | ⟨i,rfl⟩ | rfl
 ·exact dB k
 ·refine fV ⟨_,rfl,_,_,_,rfl,.d,.bool,_,rfl,_,rfl,fV ⟨_,rfl,_,rfl,.inl ⟨_,_,rfl,rfl,_,rfl,?_⟩⟩⟩;have k':Q (.d (.bool (btw i lo hi))) M:=k;unfold btw at k'
  by_cases h:lo<=i
  ·rw[decide_eq_true h] at k' ⊢;exact fV ⟨_,rfl,.inl ⟨_,_,rfl,rfl,k'⟩⟩
  ·rw[decide_eq_false h] at k' ⊢;exact dB k'
 ·exact dB k
def ah2(a:Int):Int:=if a-1 > 0 then a-1 else 0
def kG(pr d:PyData):Bool:=inB 0 6 pr&&(match pr with | .int a=>inB 0 (ah2 a) d | _=>false)
def aa8(c:Cd)(d pr:PyData):Bool:=if c=.w then isW d else if c=.e then (match d with | .str y=>yi y | _=>false) else if c=.k then kG pr d else inB (cdL c) (cdH c) d
def dP:SpD:=λ ws M Q=>∃ (c:Cd) (d pr:PyData),ws=[.d (.str (cdS c)),.d d,.d pr]/\Fl d/\Fl pr/\∀ M',Ext M M'->Q (.d (.bool (aa8 c d pr))) M'
theorem vN:∀ ws M Q,dP ws M Q->ws.length=3:=by rintro ws M Q ⟨c,d,pr,rfl,_⟩;rfl
theorem sj:∀ ws M Q,dP ws M Q->uz bV bw bD {nx:=λ _ M'=>Q (.d .none) M',rt:=Q} (aT u5 ws) M:=by
 rintro ws M Q ⟨c,d,pr,rfl,hf,hp,k⟩;obtain⟨q1,q2,q3⟩:=adt c;refine⟨_,rfl,_,_,.d,.d,rfl,_,rfl,?_⟩;rw[bq,q1];refine dY (λ h=>?_) (λ h=>?_)
 ·have h:=of_decide_eq_true h;subst h;exact⟨_,rfl,d,rfl,hf,k M (λ _ _ e=>e)⟩
 have n1:c ≠ .w:=of_decide_eq_false h;refine⟨_,rfl,_,_,.d,.d,rfl,_,rfl,?_⟩;rw[bq,q2];refine dY (λ h=>?_) (λ h=>?_)
 ·have h:=of_decide_eq_true h;subst h;have k':=k M (λ _ _ e=>e);refine⟨_,rfl,_,_,_,rfl,.d,.str,_,rfl,?_⟩;rcases hf with ⟨y,rfl,ha,_⟩ | ⟨i,rfl⟩ | rfl
  ·refine fV ⟨_,rfl,_,rfl,few (by simp),_,sorts.map PyData.str,.d,.inl .d,zM ha,?_⟩;rw[Bool.false_xor,w5];exact k'
  ·exact dB k'
  ·exact dB k'
 have n2:c ≠ .e:=of_decide_eq_false h;refine⟨_,rfl,cdS c,cdL c,cdH c,rfl,aci c n1 n2,λ M1 x1=>⟨_,rfl,rfl,_,_,rfl,_,_,rfl,rfl,?_⟩⟩;have k':=k M1 x1;refine⟨_,rfl,_,_,.d,.d,rfl,_,rfl,?_⟩;rw[bq,q3];refine dY (λ h=>?_) (λ h=>?_)
 ·have h:=of_decide_eq_true h;subst h;have e:aa8 .k d pr=kG pr d:=rfl;rw[e] at k';refine⟨_,rfl,pr,0,6,rfl,hp,_,rfl,?_⟩;unfold kG at k';cases hb:inB 0 6 pr with
  | false=>rw[hb] at k';exact dB k'
  | true =>
   rw[hb,Bool.true_and] at k';rcases hp with ⟨y,rfl,_⟩ | ⟨a,rfl⟩ | rfl
   ·cases hb
   ·exact fV ⟨_,rfl,_,rfl,_,_,rfl,rfl,_,_,rfl,d,0,_,rfl,hf,k'⟩
   ·cases hb
 ·have n3:c ≠ .k:=of_decide_eq_false h;have e:aa8 c d pr=inB (cdL c) (cdH c) d:=by unfold aa8;rw[if_neg n1,if_neg n2,if_neg n3]
  rw[e] at k';exact⟨_,rfl,_,rfl,_,rfl,d,cdL c,cdH c,rfl,hf,k'⟩
def sN(x:Str×Str×List Cd)(ds:List PyData)(j:Nat):Bool:=aa8 (x.2.2.getD j .w) (ds.getD j .none) (((.str x.1:PyData)::ds).getD j .none)
def goodG(x:Str×Str×List Cd)(ds:List PyData):Bool:=((List.range x.2.2.length).map (sN x ds)).all id
def dN:SpD:=λ ws M Q=>∃ x∈tabS,∃ ds:List PyData,ws=[.d (dd x.1 ds)]/\ds.length=x.2.2.length/\(∀ d∈ds,Fl d)/\∀ M',Ext M M'->Q (.d (.bool (goodG x ds))) M'
theorem wc:∀ ws M Q,dN ws M Q->ws.length=1:=by rintro ws M Q ⟨x,_,ds,rfl,_⟩;rfl
theorem sm:∀ ws M Q,dN ws M Q->u4 bf dP {nx:=λ _ M'=>Q (.d .none) M',rt:=Q} (aT tQ ws) M:=by
 rintro ws M Q ⟨x,hx,ds,rfl,hl,hp,k⟩;have s16':=s16;obtain⟨n6,n1⟩:=fK x hx;refine⟨_,rfl,_,_,_,rfl,.d,.tuple,_,rfl,?_⟩;rw[show gF (dd x.1 ds) "tuple" = true from agB _];have z1:PyData.eqv (.int ((ds.length+1:Nat):Int)) (.int 0)=false:=by rw[cN];exact decide_eq_false (by omega)
 refine dB ⟨_,rfl,_,_,rfl,rfl,rfl,_,_,.d,.d,rfl,_,rfl,eI z1 ?_⟩;refine⟨_,rfl,_,_,rfl,agS,rfl,_,_,_,rfl,.d,.str,_,rfl,?_⟩;rw[show gF (.str x.1) "str" = true from lb _];refine dB ⟨rfl,λ d M1 hd1 hM1 x1=>⟨.k hM1,_,rfl,_,_,rfl,agS,rfl,_,.k (k:=.inr x.1) hM1,?_⟩⟩;rw[uA x hx];have hlen:x.2.1.length=x.2.2.length:=by rw[<- str_len,gh x hx,List.length_map]
 have z2:(!PyData.eqv (.int (x.2.1.length:Int)) (.int (((ds.length+1:Nat):Int)-1)))=false:=by rw[cN,decide_eq_true (by omega)];rfl
 have hfit:u3 (.d (.str x.2.1))=true:=decide_eq_true (few (by omega));refine⟨_,rfl,rfl,_,rfl,dB ⟨_,rfl,_,_,rfl,rfl,hfit,_,rfl,_,_,rfl,rfl,rfl,_,_,rfl,rfl,_,_,.d,.d,rfl,_,rfl,eI (c:=!PyData.eqv (.int (x.2.1.length:Int)) (.int (((ds.length+1:Nat):Int)-1))) z2 ?_⟩⟩;refine⟨_,rfl,_,_,rfl,rfl,hfit,_,rfl,by omega,by omega,?_⟩;dsimp only;refine⟨λ i acc τ M'=>Ext M1 M'/\acc=(List.range i).map (λ j=>.bool (sN x ds j))/\∃ y,τ=[y,some (.d (.str x.2.1)),some (.d (dd x.1 ds))],⟨Ext.refl _,rfl,_,rfl⟩,?_,?_⟩
 ·rintro i w acc τ M' hw ⟨e1,rfl,y,rfl⟩;obtain⟨hi,rfl⟩:=zr hw;have hi:i<x.2.2.length:=by simpa [hlen] using hi
  obtain⟨c,hc⟩:∃ c,x.2.2[i]? =some c:=⟨_,List.getElem?_eq_getElem hi⟩;obtain⟨d',hd'⟩:∃ d',ds[i]? =some d':=⟨_,List.getElem?_eq_getElem (by omega)⟩;obtain⟨pr,hpr⟩:∃ pr,((.str x.1:PyData)::ds)[i]? =some pr:=⟨_,List.getElem?_eq_getElem (by simp;omega)⟩;have hfj:sN x ds i=aa8 c d' pr:=by simp only[sN,List.getD,hc,hd',hpr,Option.getD_some]
  have fpr:Fl pr:=by
   rcases List.mem_cons.mp (List.mem_of_getElem? hpr) with h | h
   ·have hw:=eZ x hx;have:=(ji hw).2;exact .inl ⟨x.1,h,lL hw,by omega⟩
   ·exact hp pr h
  have g1:ixW M' (.d (.str x.2.1)) (0+(i:Int))=some (W.d (.str (cdS c))):=by
   have ei:(0+(i:Int))=(i:Int):=by omega
   rw[ei];simp only[ixW];rw[iX (v:=cdN c) (by rw[gh x hx,List.getElem?_map,hc];rfl)];rfl
  have g2:ixW M' (.d (dd x.1 ds)) (0+(i:Int)+1)=some (W.d d'):=by
   have ei:(0+(i:Int)+1)=((i+1:Nat):Int):=by omega
   rw[ei];exact qi (by simpa using hd')
  have g3:ixW M' (.d (dd x.1 ds)) (0+(i:Int))=some (W.d pr):=by
   have ei:(0+(i:Int))=(i:Int):=by omega
   rw[ei];exact qi hpr
  refine⟨by simp;omega,_,rfl,_,rfl,_,_,rfl,g1,hfit,_,rfl,_,rfl,.inl ⟨_,_,rfl,rfl,_,_,rfl,g2,rfl,_,rfl,_,rfl,_,_,rfl,g3,rfl,?_⟩⟩;exact⟨c,d',pr,rfl,hp d' (List.mem_of_getElem? hd'),fpr,λ M2 e2=>⟨_,rfl,e1.trans e2,by rw[List.range_succ,List.map_append,<- hfj];rfl,_,rfl⟩⟩
 ·rintro acc τ M' ⟨e1,rfl,y,rfl⟩;refine⟨(List.range x.2.2.length).map (sN x ds),?_,k M' (Ext.trans x1 e1)⟩;simp only[jQ,List.length_map,List.length_range,List.map_map];rw[show((x.2.1.length:Int)).toNat=x.2.2.length by omega];rfl
def ln(y:Str):PyData:=if y.length<=2 then rn y else .none
theorem aaR:∀ c<128,uc c=true->Txt.find "0123456789" ⟨#[c]⟩=((c-48:Nat):Int):=by decide +kernel
def bE:SpD:=λ ws M Q=>∃ y:Str,ws=[.d (.str y)]/\dW y=true/\y.length<=100000/\Q (.d (ln y)) M
theorem kB:∀ ws M Q,bE ws M Q->ws.length=1:=by rintro ws M Q ⟨y,rfl,_⟩;rfl
theorem jv:∀ ws M Q,bE ws M Q->iG {nx:=λ _ M'=>Q (.d .none) M',rt:=Q} (aT fG ws) M:=by
 rintro ws M Q ⟨y,rfl,ha,hl,k⟩;have s16':=s16;have hfit:u3 (.d (.str y))=true:=decide_eq_true (by omega);refine⟨_,rfl,_,_,.d,.d,rfl,_,rfl,?_⟩;rw[bq];have bad:gQ y=false->Q (.d .none) M:=λ h=>by
  unfold ln rn at k;rw[h] at k
  split at k<;>exact k
 refine dY (λ h=>?_) (λ h=>?_)
 ·have h:=of_decide_eq_true h;refine eJ rfl (bad ?_);rw[h]
  decide +kernel
 have h0:y ≠ "":= of_decide_eq_false h;have h1:1<=y.length:=by
  rcases Nat.eq_zero_or_pos y.length with e | e
  ·have hnil:y.cps.toList=[]:=List.eq_nil_of_length_eq_zero (by rw[str_len];exact e);exact absurd (iJ (x:=y) (y:= "") (by rw[hnil];decide +kernel)) h0
  ·exact e
 refine⟨_,rfl,_,_,rfl,rfl,hfit,_,_,rfl,rfl,_,rfl,?_⟩
 by_cases h2:y.length<=2
 ·have k':Q (.d (rn y)) M:=by unfold ln at k;rw[if_pos h2] at k;exact k
  obtain⟨c,r,ec⟩:∃ c r,y.cps.toList=c::r:=by
   cases hq:y.cps.toList with
   | nil =>
    have:=str_len y;rw[hq] at this;simp at this;omega
   | cons c r=>exact⟨c,r,rfl⟩
  have e0:ixW M (.d (.str y)) 0=some (.d (.str ⟨#[c]⟩)):=by show(atI y.cps.toList ((0:Nat):Int)).map (λ c=>W.d (.str ⟨#[c]⟩))=_;rw[iX (v:=c) (by rw[ec];rfl)];rfl
  have eh:y.cps.toList.headD 0=c:=by rw[ec];rfl
  have rest:fj y=false->aW (cv (dC (.d (.int 0))) (gN 1)) (aW (yP (dI (aj 0)) (gN 2) (aW (dIf (aJ (dOp yx (aj 2) (dC (.d (.str "0123456789"))))) (bR (dC (.d .none))) (bh)) (cv (dOp bA (dOp gy (dC (.d (.int 10))) (aj 1)) (dMS nP (dC (.d (.str "0123456789"))) (af (aj 2) aF))) (gN 1)))) (bR (aj 1))) {nx:=λ _ M'=>Q (.d .none) M',rt:=Q} (aT fG [.d (.str y)]) M:=λ hn=>by
   refine⟨_,rfl,_,rfl,?_⟩;refine⟨λ i τ M'=>M'=M/\(y.cps.toList.take i).all uc=true/\∃ y2,τ=[some (.d (.str y)),some (.d (.int ((NumText.digitsVal (y.cps.toList.take i):Nat):Int))),y2],⟨rfl,rfl,_,rfl⟩,?_,?_⟩
   ·rintro i w τ M' hw ⟨rfl,hall,y2,rfl⟩;obtain⟨c',hc',rfl⟩:=gM hw;have hlt:=cy ha c' (List.mem_of_getElem? hc');refine⟨_,rfl,_,_,rfl,rfl,_,rfl,?_⟩;have en:afu ⟨#[c']⟩ "0123456789" = !uc c':=by unfold afu;rw[acz c' hlt]
    rw[en];cases hd:uc c' with
    | false =>
     refine fV (bad ?_);have:y.cps.toList.all uc=false:=List.all_eq_false.mpr ⟨c',List.mem_of_getElem? hc',by rw[hd];simp⟩;unfold gQ;rw[this];simp
    | true =>
     refine dB ⟨_,rfl,_,_,rfl,rfl,.inl (by decide),⟨_,rfl⟩,_,rfl,_,_,rfl,rfl,?_⟩;rw[aaR c' hlt hd];refine .inl ⟨_,_,rfl,rfl,rfl,?_,some (.d (.str ⟨#[c']⟩)),?_⟩
     ·rw[List.take_succ,hc',List.all_append,hall];simp[hd]
     ·rw[List.take_succ,hc'];show [_,some (W.d (.int (10 * ((NumText.digitsVal (y.cps.toList.take i):Nat):Int)+((c'-48:Nat):Int)))),_]=[_,some (W.d (.int ((NumText.digitsVal (y.cps.toList.take i++[c']):Nat):Int))),_];rw[NumText.digitsVal_snoc,show(10 * ((NumText.digitsVal (y.cps.toList.take i):Nat):Int)+((c'-48:Nat):Int))=((NumText.digitsVal (y.cps.toList.take i) * 10+(c'-48):Nat):Int) by omega]
   ·rintro τ M' ⟨rfl,hall,y2,rfl⟩;rw[List.length_map,List.take_length] at *;refine⟨_,rfl,?_⟩;have hf:gQ y=true:=by
     unfold gQ;rw[hall,hn,decide_eq_true h1,decide_eq_true (show y.length<=10 by omega)];rfl
    unfold rn at k';rw[if_pos hf] at k';exact k'
  refine eI (decide_eq_false (show ¬ (2:Int)<((y.length:Nat):Int) by omega)) ⟨_,rfl,_,_,rfl,rfl,hfit,_,_,.d,.d,rfl,_,rfl,?_⟩;have e2:PyData.eqv (.int ((y.length:Nat):Int)) (.int 2)=decide (y.length=2):=by
   rw[cN]
   by_cases h:y.length=2
   ·rw[decide_eq_true h,decide_eq_true (by omega)]
   ·rw[decide_eq_false h,decide_eq_false (by omega)]
  refine dY (λ h=>?_) (λ h=>?_)
  ·have hq:y.length=2:=of_decide_eq_true (e2 ▸ h);refine⟨_,rfl,_,_,rfl,e0,hfit,_,_,.d,.d,rfl,_,rfl,?_⟩;rw[bq];have hne:y ≠ "0":= λ e=>by rw[e] at hq;exact absurd hq (by decide +kernel)
   refine dY (λ h=>?_) (λ h=>?_)
   ·refine bad ?_;have:fj y=true:=by
     unfold fj;rw[eh,h,decide_eq_false hne];rfl
    unfold gQ;rw[this];simp
   ·refine rest ?_;unfold fj;rw[eh,h];rfl
  ·have hq:y.length≠2:=of_decide_eq_false (e2 ▸ h);refine dB (rest ?_);unfold fj;rw[eh]
   by_cases e:c=48
   ·have:y = "0":= iJ (by
     have hr:r=[]:=List.eq_nil_of_length_eq_zero (by have:=str_len y;rw[ec] at this;simp at this;omega);rw[ec,e,hr]
     decide +kernel)
    rw[decide_eq_true this];simp
   ·have e0':("0" : Str)=⟨#[48]⟩:=by decide +kernel
    rw[decide_eq_false (show ¬ (⟨#[c]⟩:Str) = "0" from λ h=>e (by rw[e0'] at h;injection h with h;simpa using h))];rfl
 ·refine eJ (decide_eq_true (show(2:Int)<((y.length:Nat):Int) by omega)) (eJ rfl ?_);unfold ln at k;rw[if_neg h2] at k;exact k
def lp(c:Cd)(y:Str):PyData:=if (decide (c ≠ .w)&&decide (c ≠ .e))=true then ln y else .str y
def lps(cs:List Cd)(ys:List Str):List PyData:=List.zipWith lp cs ys
theorem afW{cs:List Cd}{ys:List Str}{j:Nat}{d:PyData}(h:(lps cs ys)[j]? =some d):∃ c y,cs[j]? =some c/\ys[j]? =some y/\d=lp c y:=by
 unfold lps at h;rw[List.getElem?_zipWith] at h
 split at h
 ·rename_i c y e1 e2
  exact⟨c,y,e1,e2,(Option.some.inj h).symm⟩
 ·cases h
theorem oH{cs:List Cd}{ys:List Str}{j:Nat}{c:Cd}{y:Str}(h1:cs[j]? =some c)(h2:ys[j]? =some y):(lps cs ys)[j]? =some (lp c y):=by
 unfold lps;rw[List.getElem?_zipWith,h1,h2]
theorem ahR(y:Str):Fl (ln y):=by
 unfold ln
 split
 ·exact ag3 y
 ·exact .inr (.inr rfl)
theorem aiu(ha:dW y=true)(hl:y.length<=100000):Fl (lp c y):=by
 unfold lp
 split
 ·exact ahR y
 ·exact .inl ⟨y,rfl,ha,hl⟩
theorem yY(h:y.length<=2\/(decide (c ≠ .w)&&decide (c ≠ .e))=false):lp c y=rp c y:=by
 unfold lp rp;rcases h with h | h
 ·unfold ln;rw[if_pos h]
 ·rw[h];rfl
theorem aeO{y:Str}{lo hi:Int}(h:inB lo hi (ln y)=true):y.length<=2:=by
 unfold ln at h
 split at h
 ·assumption
 ·cases h
theorem adn{y:Str}{lo hi:Int}(h0:0<=lo)(h1:hi<=20)(h:inB lo hi (rn y)=true):y.length<=2:=by
 cases hq:rn y with
 | int i =>
  rw[hq] at h;simp only[inB,btw,Bool.and_eq_true,decide_eq_true_eq] at h;rw[xy hq];obtain⟨n,rfl⟩:=Int.eq_ofNat_of_zero_le (show 0<=i by omega);exact(nj n (by omega)).1
 | _=>rw[hq] at h;cases h
theorem adu(h1:c ≠ .w)(h2:c ≠ .e)(h:aa8 c d pr=true):∃ lo hi,inB lo hi d=true:=by
 unfold aa8 at h;rw[if_neg h1,if_neg h2] at h
 split at h
 ·unfold kG at h;rw[Bool.and_eq_true] at h;cases hq:pr with
  | int a=>rw[hq] at h;exact⟨_,_,h.2⟩
  | _=>rw[hq] at h;exact absurd h.2 (by simp)
 ·exact⟨_,_,h⟩
theorem nM(hn:ys.length=cs.length):(lps cs ys).length=cs.length/\(rps cs ys).length=cs.length:=by simp[lps,rps,hn]
theorem rN(hn:ys.length=x.2.2.length)(h:∀ j<x.2.2.length,sN x (lps x.2.2 ys) j=true):lps x.2.2 ys=rps x.2.2 ys:=by
 refine List.ext_getElem? λ j=>?_;obtain⟨l1,l2⟩:=nM hn
 by_cases hj:j<x.2.2.length
 ·have hc:x.2.2[j]? =some x.2.2[j]:=List.getElem?_eq_getElem hj;have hy:ys[j]? =some (ys[j]'(by omega)):=List.getElem?_eq_getElem (by omega);rw[oH hc hy,gZ hc hy];refine congrArg some (yY ?_);cases hb:(decide (x.2.2[j] ≠ .w)&&decide (x.2.2[j] ≠ .e)) with
  | false=>exact .inr rfl
  | true =>
   left;have hh:=h j hj;simp only[Bool.and_eq_true,decide_eq_true_eq] at hb;have e:(lps x.2.2 ys).getD j .none=ln (ys[j]'(by omega)):=by simp only[List.getD,oH hc hy,Option.getD_some];unfold lp;rw[decide_eq_true hb.1,decide_eq_true hb.2];rfl
   have ec:x.2.2.getD j .w=x.2.2[j]:=by simp only[List.getD,hc,Option.getD_some]
   unfold sN at hh;rw[ec,e] at hh;obtain⟨lo,hi,hi'⟩:=adu hb.1 hb.2 hh;exact aeO hi'
 ·rw[List.getElem?_eq_none (by omega),List.getElem?_eq_none (by omega)]
theorem sg(hn:ys.length=x.2.2.length)(h:∀ j<x.2.2.length,pJ x (rps x.2.2 ys) j=true):lps x.2.2 ys=rps x.2.2 ys:=by
 refine List.ext_getElem? λ j=>?_;obtain⟨l1,l2⟩:=nM hn
 by_cases hj:j<x.2.2.length
 ·have hc:x.2.2[j]? =some x.2.2[j]:=List.getElem?_eq_getElem hj;have hy:ys[j]? =some (ys[j]'(by omega)):=List.getElem?_eq_getElem (by omega);rw[oH hc hy,gZ hc hy];refine congrArg some (yY ?_);cases hb:(decide (x.2.2[j] ≠ .w)&&decide (x.2.2[j] ≠ .e)) with
  | false=>exact .inr rfl
  | true =>
   left;have hh:=h j hj;simp only[Bool.and_eq_true,decide_eq_true_eq] at hb;have e:(rps x.2.2 ys).getD j .none=rn (ys[j]'(by omega)):=by simp only[List.getD,gZ hc hy,Option.getD_some];unfold rp;rw[decide_eq_true hb.1,decide_eq_true hb.2];rfl
   have ec:x.2.2.getD j .w=x.2.2[j]:=by simp only[List.getD,hc,Option.getD_some]
   unfold pJ at hh;rw[ec,e] at hh;unfold pG at hh;rw[if_neg hb.1,if_neg hb.2] at hh;exact adn (oB _ hb.1 hb.2).1 (lM _) hh
 ·rw[List.getElem?_eq_none (by omega),List.getElem?_eq_none (by omega)]
theorem tE(hc:x.2.2[j]? =some c)(h:c ≠ .k):sN x ds j=pJ x ds j:=by
 simp only[sN,pJ,List.getD,hc,Option.getD_some,aa8,pG,if_neg h]
 try rfl
theorem o7{lo hi:Int}{d:PyData}(h:inB lo hi d=true):∃ i:Int,d=.int i/\lo<=i/\i<=hi:=by
 cases d with
 | int i =>
  simp only[inB,btw,Bool.and_eq_true,decide_eq_true_eq] at h;exact⟨i,rfl,h.1,h.2⟩
 | _=>cases h
theorem zm{lo hi i:Int}(h1:lo<=i)(h2:i<=hi):inB lo hi (.int i)=true:=by simp[inB,btw,h1,h2]
theorem qT{ds:List PyData}(hx:x∈tabS)(hl:ds.length=x.2.2.length):(∀ j<x.2.2.length,sN x ds j=true) ↔ gg x ds=true:=by
 unfold gg;simp only[Bool.and_eq_true,List.all_eq_true,List.mem_range,Bool.or_eq_true,Bool.not_eq_true',decide_eq_false_iff_not]
 by_cases hk:Cd.k∈x.2.2
 ·obtain⟨_,_,c1,c2,c3⟩:=k_is x hx hk;have lc:kC x<x.2.2.length:=(List.getElem?_eq_some_iff.mp c1).1;have lk:kK x<x.2.2.length:=(List.getElem?_eq_some_iff.mp c2).1;have dc:ds[kC x]? =some (ds[kC x]'(by omega)):=List.getElem?_eq_getElem (by omega);have dk:ds[kK x]? =some (ds[kK x]'(by omega)):=List.getElem?_eq_getElem (by omega);have pc:pJ x ds (kC x)=inB 0 6 (ds[kC x]'(by omega)):=by simp only[pJ,List.getD,c1,dc,Option.getD_some];rfl
  have pk:pJ x ds (kK x)=inB 0 5 (ds[kK x]'(by omega)):=by simp only[pJ,List.getD,c2,dk,Option.getD_some];rfl
  have fk:sN x ds (kK x)=kG (ds[kC x]'(by omega)) (ds[kK x]'(by omega)):=by
   have:((.str x.1:PyData)::ds)[kK x]? =some (ds[kC x]'(by omega)):=by rw[<- c3];simpa using dc
   simp only[sN,List.getD,c2,dk,this,Option.getD_some];rfl
  have oth:∀ j,j<x.2.2.length->j≠kK x->sN x ds j=pJ x ds j:=λ j hj hn=>by refine tE (List.getElem?_eq_getElem hj) λ e=>hn (ag4 x hx j hj (by rw[List.getElem?_eq_getElem hj,e]))
  constructor
  ·intro h;have h1:=h (kK x) lk;rw[fk] at h1;unfold kG at h1;rw[Bool.and_eq_true] at h1;obtain⟨a,ea,a0,a1⟩:=o7 h1.1;rw[ea] at h1;obtain⟨i,ei,i0,i1⟩:=o7 h1.2;have ek:kf x ds=leK a i:=by simp only[kf,List.getD,dc,dk,ea,ei,Option.getD_some]
   unfold ah2 at i1;refine⟨λ j hj=>?_,.inr ?_⟩
   ·by_cases hn:j=kK x
    ·rw[hn,pk,ei];exact zm i0 (by split at i1<;>omega)
    ·rw[<- oth j hj hn];exact h j hj
   ·rw[ek];unfold leK;rw[decide_eq_true_eq]
    split at i1<;>split<;>omega
  ·rintro⟨h,h2⟩ j hj
   by_cases hn:j=kK x
   ·have h3:=h (kC x) lc;have h4:=h (kK x) lk;rw[pc] at h3;rw[pk] at h4;obtain⟨a,ea,a0,a1⟩:=o7 h3;obtain⟨i,ei,i0,i1⟩:=o7 h4;have ek:kf x ds=leK a i:=by simp only[kf,List.getD,dc,dk,ea,ei,Option.getD_some]
    rcases h2 with h2 | h2
    ·exact absurd hk h2
    ·rw[ek] at h2;unfold leK at h2;rw[decide_eq_true_eq] at h2;rw[hn,fk,ea,ei];unfold kG;rw[zm a0 a1,Bool.true_and];refine zm i0 ?_;unfold ah2
     split at h2<;>split<;>omega
   ·rw[oth j hj hn];exact h j hj
 ·have oth:∀ j,j<x.2.2.length->sN x ds j=pJ x ds j:=λ j hj =>
   tE (List.getElem?_eq_getElem hj) λ e=>hk (by rw[<- e];exact List.getElem_mem hj)
  constructor
  ·intro h;exact⟨λ j hj=>by rw[<- oth j hj];exact h j hj,.inl hk⟩
  ·rintro⟨h,_⟩ j hj;rw[oth j hj];exact h j hj
theorem uW:goodG x ds=true ↔ ∀ j<x.2.2.length,sN x ds j=true:=by
 unfold goodG;rw[List.all_map];simp[List.all_eq_true]
theorem aae(h:gg x ds=true):∀ j<x.2.2.length,pJ x ds j=true:=by
 unfold gg at h;rw[Bool.and_eq_true,List.all_eq_true] at h;exact λ j hj=>h.1 j (List.mem_range.mpr hj)
theorem yz{ys:List Str}(hx:x∈tabS)(hn:ys.length=x.2.2.length):(goodG x (lps x.2.2 ys)=true->gg x (rps x.2.2 ys)=true/\lps x.2.2 ys=rps x.2.2 ys)/\(gg x (rps x.2.2 ys)=true->goodG x (lps x.2.2 ys)=true):=by
 obtain⟨l1,l2⟩:=nM hn;constructor
 ·intro h;have h':=uW.mp h;have e:=rN hn h';rw[e] at h';exact⟨(qT hx l2).mp h',e⟩
 ·intro h;have e:=sg hn (aae h);rw[e];exact uW.mpr ((qT hx l2).mpr h)
theorem yh:codes=tabS.map λ x=>(x.1,x.2.1):=by decide +kernel
theorem aav(y:Str):mv (fS oX) (.inr y)=(wZ y).map λ x=>W.d (.str x.2.1):=by
 unfold mv fS oX wZ;rw[yh,List.map_map,List.map_map,List.find?_map,Option.map_map];congr 1;refine congrFun (congrArg _ (funext λ x=>?_)) _;show decide ((Sum.inr x.1:Key)=.inr y)=decide (x.1=y)
 by_cases h:x.1=y
 ·rw[decide_eq_true h,decide_eq_true (by rw[h])]
 ·rw[decide_eq_false h,decide_eq_false λ e=>h (Sum.inr.inj e)]
theorem ahL(c:Cd):inS (cdS c) "we" = !(decide (c ≠ .w)&&decide (c ≠ .e)):=by cases c<;>decide +kernel
def dO:SpD:=λ ws M Q=>∃ z:Str,ws=[.d (.str z)]/\dW z=true/\z.length<=50000/\∀ M',Ext M M'->Q (.d ((res z).getD .none)) M'
theorem wa:∀ ws M Q,dO ws M Q->ws.length=1:=by rintro ws M Q ⟨z,rfl,_⟩;rfl
theorem sf:∀ ws M Q,dO ws M Q->uX bf bE dN {nx:=λ _ M'=>Q (.d .none) M',rt:=Q} (aT tN ws) M:=by
 rintro ws M Q ⟨z,rfl,ha,hzl,k⟩;have s16':=s16;refine⟨_,rfl,z,rfl, " ",rfl,by decide +kernel,by omega,?_⟩;obtain⟨y0,ys,es⟩:=iO z;have hpart:∀ p∈y0::ys,p.length<=z.length/\dW p=true:=λ p hp=>by have:=part_of (z:=z) (p:=p) (c:=32) (by rw[<- aht,es];exact hp);exact⟨this.1,this.2 ha⟩
 rw[es];have hp0:∀ M',ixW M' (.d (.list ((y0::ys).map PyData.str))) 0=some (.d (.str y0)):=λ M'=>acj (i:=0) (f:=PyData.str) rfl rfl;refine⟨rfl,λ d M1 hd1 hM1 x1=>⟨.k hM1,_,rfl,_,_,rfl,hp0 _,rfl,_,.k (k:=.inr y0) hM1,?_⟩⟩;rw[aav];have x1':Ext M M1:=x1;cases ht:wZ y0 with
 | none =>
  have er:res z=none:=by
   unfold res;rw[es];simp only[ht]
  have k':=k M1 x1';rw[er] at k';exact⟨_,rfl,rfl,_,rfl,fV (fV k')⟩
 | some x =>
  obtain⟨hx,ey⟩:=kA ht;obtain⟨n6,n1⟩:=fK x hx;have eres:res z=if ys.length=x.2.2.length/\gg x (rps x.2.2 ys)=true then some (dd x.1 (rps x.2.2 ys)) else none:=by
   unfold res;rw[es];simp only[ht]
  have hlen:x.2.1.length=x.2.2.length:=by rw[<- str_len,gh x hx,List.length_map]
  have hfit:u3 (.d (.str x.2.1))=true:=decide_eq_true (few (by omega));have hpl:((y0::ys).map PyData.str).length=ys.length+1:=by simp
  refine⟨_,rfl,rfl,_,rfl,dB ⟨_,rfl,_,_,rfl,rfl,hfit,_,rfl,_,_,rfl,rfl,rfl,_,_,rfl,rfl,_,_,.d,.d,rfl,_,rfl,?_⟩⟩
  by_cases hn:ys.length=x.2.2.length
  ·have z2:(!PyData.eqv (.int (x.2.1.length:Int)) (.int ((((y0::ys).map PyData.str).length:Int)-1)))=false:=by rw[cN,decide_eq_true (by omega)];rfl
   refine eI (c:=!PyData.eqv (.int (x.2.1.length:Int)) (.int ((((y0::ys).map PyData.str).length:Int)-1))) z2 ?_;refine⟨_,rfl,_,_,rfl,hp0 _,rfl,few (by simp),λ a hMa=>?_⟩;have hc2:slW (.d (.list ((y0::ys).map PyData.str))) (some 1) none=some (.d (.list (ys.map PyData.str))):=by simp only[slW,List.map_cons,(nq _ _).1]
   have ascx:dW x.2.1=true:=by
    have:∀ x∈tabS,dW x.2.1=true:=by decide +kernel
    exact this x hx
   refine⟨_,rfl,_,rfl,_,rfl,_,hc2,rfl,x.2.1,ys.map PyData.str,rfl,ascx,?_⟩;obtain⟨ll,lr⟩:=nM hn;have hMa':M a=none:=by
    cases hq:M a with
    | none=>rfl
    | some o=>rw[x1' a o hq] at hMa;cases hMa
   refine⟨λ i τ M'=>Ext M M'/\M' a=some (.lst (((.str y0:PyData)::(lps x.2.2 ys).take i).map W.d))/\∃ v4 v5,τ=[some (.d (.str z)),some (.d (.list ((y0::ys).map PyData.str))),some (.d (.str x.2.1)),some (.m a),v4,v5],⟨x1'.trans (Ext.new hMa),aA,_,_,rfl⟩,?_,?_⟩
   ·rintro i w τ M' hw ⟨xM,hm,v4,v5,rfl⟩;obtain⟨j,hj,rfl⟩:=gM hw;obtain⟨hlt,hj2⟩:=List.getElem?_eq_some_iff.mp hj;rw[List.getElem_range] at hj2;subst hj2;have hi:i<x.2.2.length:=by
     have:(eB x.2.1).length=x.2.2.length:=by simp[eB,str_len,<- hlen,Str.length]
     simpa [this,hn] using hlt
    obtain⟨c,hc⟩:∃ c,x.2.2[i]? =some c:=⟨_,List.getElem?_eq_getElem hi⟩;obtain⟨y,hy⟩:∃ y,ys[i]? =some y:=⟨_,List.getElem?_eq_getElem (by omega)⟩;have ef:(eB x.2.1).getD i .none=.str (cdS c):=by simp only[eB,gh x hx,List.map_map,List.getD,List.getElem?_map,hc,Option.map_some,Option.getD_some];rfl
    have ed:(ys.map PyData.str).getD i .none=.str y:=by simp[List.getD,hy]
    rw[ef,ed];obtain⟨p1,p2⟩:=hpart y (List.mem_cons_of_mem _ (List.mem_of_getElem? hy));refine⟨_,rfl,rfl,_,_,rfl,_,_,rfl,rfl,_,rfl,_,_,rfl,rfl,_,rfl,?_⟩;rw[ahL];have fin:∀ d',d'=lp c y->∃ ws',M' a=some (.lst ws')/\ws'.length<sizeLine/\Ext M (cn M' a (.lst (ws'++[.d d'])))/\(cn M' a (.lst (ws'++[.d d']))) a=some (.lst (((.str y0:PyData)::(lps x.2.2 ys).take (i+1)).map W.d))/\∃ v4 v5,[some (W.d (.str z)),some (.d (.list ((y0::ys).map PyData.str))),some (.d (.str x.2.1)),some (.m a),some (.d (.str (cdS c))),some (.d (.str y))]=[some (.d (.str z)),some (.d (.list ((y0::ys).map PyData.str))),some (.d (.str x.2.1)),some (.m a),v4,v5]:=λ d' ed'=>by
     refine⟨_,hm,by simp;omega,λ b o e=>?_,?_,_,_,rfl⟩
     ·rw[aR (iC e hMa')];exact xM b o e
     ·rw[aA,List.take_succ,oH hc hy,ed'];simp
    cases hb:(decide (c ≠ .w)&&decide (c ≠ .e)) with
    | false =>
     refine fV ⟨_,rfl,a,_,rfl,hm,_,rfl,fin _ ?_⟩;unfold lp;rw[hb];rfl
    | true =>
     refine dB ⟨_,rfl,a,_,rfl,hm,_,rfl,y,rfl,p2,by omega,fin _ ?_⟩;unfold lp;rw[hb];rfl
   ·rintro τ M' ⟨xM,hm,v4,v5,rfl⟩;have hzl2:(rB (eB x.2.1) (ys.map PyData.str)).length=(lps x.2.2 ys).length:=by
     have:(eB x.2.1).length=x.2.2.length:=by simp[eB,str_len,<- hlen,Str.length]
     simp[rB,this,hn,ll]
    rw[hzl2,List.take_length] at hm;rw[<- ey] at hm;have hFl:∀ d∈lps x.2.2 ys,Fl d:=λ d hd=>by obtain⟨j,hj,e⟩:=List.mem_iff_getElem.mp hd;obtain⟨c,y,_,hy,rfl⟩:=afW (d:=d) (by rw[<- e];exact List.getElem?_eq_getElem hj);obtain⟨p1,p2⟩:=hpart y (List.mem_cons_of_mem _ (List.mem_of_getElem? hy));exact aiu p2 (by omega)
    refine⟨_,rfl,_,(.str x.1::lps x.2.2 ys),rfl,.m hm,x,hx,lps x.2.2 ys,rfl,ll,hFl,λ M2 x2=>⟨_,rfl,?_⟩⟩;obtain⟨g1,g2⟩:=yz hx hn;have k':=k M2 (xM.trans x2);cases hG:goodG x (lps x.2.2 ys) with
    | true =>
     obtain⟨h1,h2⟩:=g1 hG;rw[eres,if_pos ⟨hn,h1⟩,<- h2] at k';exact dB ⟨_,rfl,_,(.str x.1::lps x.2.2 ys),rfl,.m (x2 _ _ hm),k'⟩
    | false =>
     rw[eres,if_neg λ h=>by have:=g2 h.2;rw[hG] at this;cases this] at k';exact fV k'
  ·have z2:(!PyData.eqv (.int (x.2.1.length:Int)) (.int ((((y0::ys).map PyData.str).length:Int)-1)))=true:=by rw[cN,decide_eq_false (by omega)];rfl
   have k':=k M1 x1';rw[eres,if_neg λ h=>hn h.1] at k';exact eJ (c:=!PyData.eqv (.int (x.2.1.length:Int)) (.int ((((y0::ys).map PyData.str).length:Int)-1))) z2 k'
def bN:SpD:=λ ws M Q=>∃ x∈tabS,∃ ds:List PyData,ws=[.d (dd x.1 ds)]/\ds.length=x.2.2.length/\Vd x.2.2 ds/\Q (.d (.str (txD x ds))) M
theorem lS:∀ ws M Q,bN ws M Q->ws.length=1:=by rintro ws M Q ⟨x,_,ds,rfl,_⟩;rfl
theorem jX:∀ ws M Q,bN ws M Q->jk {nx:=λ _ M'=>Q (.d .none) M',rt:=Q} (aT jf ws) M:=by
 rintro ws M Q ⟨x,hx,ds,rfl,hl,hv,k⟩;obtain⟨n6,n1⟩:=fK x hx;have hw:=eZ x hx;refine⟨⟨_,rfl⟩,_,rfl,_,rfl,?_⟩;dsimp only;refine gv ((.str x.1:PyData)::ds) (λ d=>W.d d) (λ d=>.str (dtx d)) (λ τ=>∃ y,τ=[y]) (by simp;omega) ⟨_,rfl⟩ (λ d hd τ hτ R h=>?_) (λ τ=>?_)
 ·obtain⟨y,rfl⟩:=hτ;refine⟨_,rfl,?_⟩;have go:=h [some (.d d)] ⟨_,rfl⟩;rcases List.mem_cons.mp hd with rfl | hd
  ·exact .inl ⟨x.1,rfl,_,rfl,go⟩
  ·obtain⟨c,hc⟩:=j7 hv hl hd;rcases hc with ⟨_,y,rfl,hy⟩ | ⟨_,y,rfl,hy⟩ | ⟨h1,h2,i,rfl,i0,i1⟩
   ·exact .inl ⟨y,rfl,_,rfl,go⟩
   ·exact .inl ⟨y,rfl,_,rfl,go⟩
   ·have c0:=(oB c h1 h2).1;have c1:=lM c;refine .inr ⟨i,rfl,?_,_,rfl,go⟩;have:i.natAbs<=20:=by omega
    have h3:i.natAbs.log2<=i.natAbs:=Nat.log2_le_self _;omega
 ·refine⟨" ",x.1::ds.map dtx,rfl,by simp[dtx],?_,k⟩;have e1:(" " : Str).length=1:=by decide +kernel
  have:=aij (x.1::ds.map dtx) λ y hy=>by
   rcases List.mem_cons.mp hy with rfl | hy
   ·exact(ji hw).2
   ·obtain⟨d,hd,rfl⟩:=List.mem_map.mp hy;obtain⟨c,hc⟩:=j7 hv hl hd;exact(wG hc).1
  rw[e1];simp only[List.length_cons,List.length_map] at this ⊢;omega
def cb:SpD:=λ ws M Q=>∃ x∈tabS,∃ ds:List PyData,ws=[.d (dd x.1 ds)]/\ds.length=x.2.2.length/\Vd x.2.2 ds/\Q (.d (.str (txD x ds))) M
theorem o8:∀ ws M Q,cb ws M Q->ws.length=1:=by rintro ws M Q ⟨x,_,ds,rfl,_⟩;rfl
theorem lQ:∀ ws M Q,cb ws M Q->lK bN {nx:=λ _ M'=>Q (.d .none) M',rt:=Q} (aT kE ws) M:=by
 rintro ws M Q ⟨x,hx,ds,rfl,hl,hv,k⟩;exact⟨_,rfl,x,hx,ds,rfl,hl,hv,k⟩
theorem g6:∀ {l:List Str} {c:Nat},c∈(Str.join ⟨#[s]⟩ l).cps.toList->c=s\/∃ p∈l,c∈p.cps.toList
 | [],c,h=>by simp[Str.join] at h;exact absurd h (by simp[Str.empty])
 | [y],c,h=>.inr ⟨y,by simp,h⟩
 | y::y2::r,c,h=>by
  rw[join_cons] at h;rcases List.mem_append.mp h with h | h
  ·exact .inr ⟨y,by simp,h⟩
  ·rcases List.mem_cons.mp h with h | h
   ·exact .inl h
   ·rcases g6 h with h | ⟨p,hp,h⟩
    ·exact .inl h
    ·exact .inr ⟨p,by simp[hp],h⟩
theorem acY:∀ n<21,10 ∉ (pE ((n:Nat):Int)).cps.toList:=by decide +kernel
theorem abm:∀ c,dX c=true->c≠10:=λ c h e=>by subst e;revert h;decide
theorem ae4(h:wd z=true):10 ∉ z.cps.toList:=λ hm=>abm 10 (zp h 10 hm) rfl
theorem aim(h:Vp c d):10 ∉ (dtx d).cps.toList:=by
 rcases h with ⟨_,y,rfl,hy⟩ | ⟨_,y,rfl,hy⟩ | ⟨h1,h2,i,rfl,i0,i1⟩
 ·exact ae4 hy
 ·exact ae4 (oo y hy)
 ·have c0:=(oB c h1 h2).1;have c1:=lM c;obtain⟨n,rfl⟩:=Int.eq_ofNat_of_zero_le (show 0<=i by omega);exact acY n (by omega)
theorem Gd.ajZ{d:PyData}(h:Gd d):10 ∉ (tx d).cps.toList:=by
 obtain⟨x,hx,ds,rfl,hl,hv⟩:=h;intro hm;have e:tx (dd x.1 ds)=Str.join ⟨#[32]⟩ (x.1::ds.map dtx):=by rw[<- aht];exact StrLaws.glued_eq_join " " _
 rw[e] at hm;rcases g6 hm with h | ⟨p,hp,h⟩
 ·cases h
 ·rcases List.mem_cons.mp hp with rfl | hp
  ·exact ae4 (eZ x hx) h
  ·obtain⟨d,hd,rfl⟩:=List.mem_map.mp hp;obtain⟨c,hc⟩:=j7 hv hl hd;exact aim hc h
def df(L:List PyData):Str:=Txt.join "" (L.map λ d=>tx d ++ "\n")
theorem mn:∀ (ys:List Str) (acc:Array Nat), (ys.foldl (λ acc p=>acc++("" : Str).cps++p.cps) acc).toList=acc.toList++(ys.map λ y=>y.cps.toList).flatten
 | [], acc=>by simp
 | y::ys, acc=>by
  have e:("" : Str).cps = #[]:=by decide +kernel
  rw[List.foldl_cons, mn ys, e];simp
theorem aeM(ys:List Str):(Txt.join "" ys).cps.toList=(ys.map λ y=>y.cps.toList).flatten:=by
 cases ys with
 | nil=>simp[Txt.join, Builtin.Str.glued, Str.empty]
 | cons y ys =>
  show(ys.foldl (λ acc p=>acc++("" : Str).cps++p.cps) y.cps).toList=_;rw[mn];rfl
theorem mD(L:List PyData):(df L).cps.toList=(L.map λ d=>(tx d).cps.toList++[10]).flatten:=by
 unfold df;rw[aeM, List.map_map];congr 1;refine List.map_congr_left λ d _=>?_;show(tx d ++ "\n").cps.toList=_;rw[ig, afC]
theorem ng:∀ (L:List PyData), (Str.join ⟨#[10]⟩ (L.map tx++[("" : Str)])).cps.toList=(L.map λ d=>(tx d).cps.toList++[10]).flatten
 | []=>by
  have e:("" : Str).cps = #[]:=by decide +kernel
  show(("" : Str).cps).toList=_;rw[e];rfl
 | d::L=>by
  have ih:=ng L;obtain⟨y, r, e⟩:∃ y r, L.map tx++[("" : Str)]=y::r:=by
   cases L with
   | nil=>exact⟨_, _, rfl⟩
   | cons d' L'=>exact⟨_, _, rfl⟩
  show(Str.join ⟨#[10]⟩ (tx d::(L.map tx++[("" : Str)]))).cps.toList=_;rw[e, join_cons, <- e, ih];simp
theorem vq{L:List PyData}(hg:∀ d∈L, Gd d):Txt.split (df L) "\n" = L.map tx++[("" : Str)]:=by
 have e:df L=Txt.join ⟨#[10]⟩ (L.map tx++[("" : Str)]):=by refine iJ ?_;rw[mD, <- ng];show _=(Builtin.Str.glued ⟨#[10]⟩ (L.map tx++[("" : Str)])).cps.toList;rw[StrLaws.glued_eq_join]
 rw[e, afC];refine kz (by simp) λ p hp=>?_;rcases List.mem_append.mp hp with hp | hp
 ·obtain⟨d, hd, rfl⟩:=List.mem_map.mp hp;exact(hg d hd).ajZ
 ·rw[List.mem_singleton.mp hp]
  decide +kernel
theorem aaQ(hg:∀ d∈L, Gd d):(df L).length<=101 * L.length:=by
 rw[<- str_len, mD]
 induction L with
 | nil=>simp
 | cons d L ih =>
  have h1:=(hg d (by simp)).len;have h2:=ih λ d hd=>hg d (by simp[hd]);rw[<- str_len] at h1;simp only[List.map_cons, List.flatten_cons, List.length_append, List.length_cons, List.length_nil];omega
theorem xR:∀ (L:List PyData), (∀ d∈L, Gd d)->((L.map λ d=>tx d ++ "\n").map (·.length)).sum<=101 * L.length
 | [], _=>by simp
 | d::L, h=>by
  have h1:=(h d (by simp)).len;have h2:=xR L λ z hz=>h z (by simp[hz]);have e:(tx d ++ "\n").length=(tx d).length+1:=by rw[<- str_len,ig,afC,List.length_append,str_len];rfl
  simp only[List.map_cons,List.sum_cons,List.length_cons];omega
def bM:SpD:=λ ws M Q=>∃ L:List PyData,ws=[.d (.list L)]/\L.length<=12/\(∀ d∈L,Gd d)/\Q (.d (.str (df L))) M
theorem lW:∀ ws M Q,bM ws M Q->ws.length=1:=by rintro ws M Q ⟨L,rfl,_⟩;rfl
theorem ko:∀ ws M Q,bM ws M Q->jc cb {nx:=λ _ M'=>Q (.d .none) M',rt:=Q} (aT jn ws) M:=by
 rintro ws M Q ⟨L,rfl,hL,hg,k⟩;have s16':=s16;have e1:("\n" : Str).length=1:=by decide +kernel
 refine⟨⟨_, rfl⟩, _, rfl, _, rfl, ?_⟩;dsimp only;refine gv L (λ d=>W.d d) (λ d=>.str (tx d ++ "\n")) (λ τ=>∃ y, τ=[y]) (by omega) ⟨_, rfl⟩ (λ d hd τ hτ R h=>?_) (λ τ=>?_)
 ·obtain⟨y, rfl⟩:=hτ;have go:=h [some (.d d)] ⟨_, rfl⟩;have hlen:=(hg d hd).len;obtain⟨x, hx, ds, rfl, hl, hv⟩:=hg d hd;exact⟨_, rfl, x, hx, ds, rfl, hl, hv, .inr ⟨_, _, rfl, rfl, by rw[e1];have:(txD x ds).length<=100:=hlen;omega, _, rfl, go⟩⟩
 ·refine⟨"", L.map λ d=>tx d ++ "\n", rfl, by rw[List.map_map];rfl, ?_, k⟩;have:=xR L hg;have e0:("" : Str).length=0:=by decide +kernel
  rw[e0];omega
def rowsOf(z:Str):List Str:=(Txt.split z "\n").dropLast
def restOf(z:Str):Str:=(Txt.split z "\n").getLastD ""
theorem nv(z:Str):Txt.split z "\n" = rowsOf z++[restOf z]:=by
 have:=split_pos z "\n";unfold rowsOf restOf;cases h:Txt.split z "\n" with
 | nil=>rw[h] at this;simp at this
 | cons a l=>exact(List.dropLast_concat_getLast (by simp)).symm.trans (by simp[List.getLastD])
theorem qM(h:y∈rowsOf z):y.length<=z.length/\(dW z=true->dW y=true):=by
 have hm:y∈Txt.split z "\n":= by rw[nv];exact List.mem_append_left _ h
 rw[afC] at hm;exact part_of hm
def abN(y:Str):PyData:=(res y).getD .none
def rsL(ys:List Str):List PyData:=ys.map abN
def isN:PyData->Bool
 | .none=>true
 | _=>false
theorem aeg(d:PyData):PyData.eqv d .none=isN d:=by cases d<;>rw[PyData.eqv]<;>rfl
theorem xj(y:Str):isN (abN y)=(res y).isNone:=by
 unfold abN;cases h:res y with
 | none=>rfl
 | some d =>
  obtain⟨⟨x, _, ds, rfl, _⟩, _⟩:=Gd.back h;rfl
def fR(n:Nat):PyData:=.tuple [.str "refused", .int (n:Nat)]
def told:PyData->PyData
 | .str z=>match (rsL (rowsOf z)).findIdx? isN with
  | some n=>fR n
  | none=>if restOf z = "" then .tuple [.str "told", .str (PyData.list (rsL (rowsOf z))).shown] else fR (rowsOf z).length
 | _=>fR 0
theorem i7(h:(rsL (rowsOf z)).findIdx? isN=some n):told (.str z)=fR n:=by simp only[told, h]
theorem rT(h:(rsL (rowsOf z)).findIdx? isN=none)(e:restOf z = ""):told (.str z)=.tuple [.str "told", .str (PyData.list (rsL (rowsOf z))).shown]:=by simp only[told, h, if_pos e]
theorem oU(h:(rsL (rowsOf z)).findIdx? isN=none)(e:restOf z ≠ ""):told (.str z)=fR (rowsOf z).length:=by simp only[told, h, if_neg e]
theorem oy(h:gF d "str" = false):told d=fR 0:=by
 cases d<;>first | rfl | simp[gF, tyD] at h
def Od(d:PyData):Prop:=gF d "str" = false\/∃ z:Str,d=.str z/\dW z=true/\z.length<=5000/\(rowsOf z).length<=5000
theorem nH:∀ {ts:List Str},(∀ t∈ts,t.length<=c)->piled ts<=ts.length * (c+2)
 | [],_=>by simp[piled]
 | t::ts,h=>by have h1:=h t (by simp);have h2:=nH (ts:=ts) λ t ht=>h t (by simp[ht]);rw[piled_cons,List.length_cons,Nat.succ_mul];omega
theorem dG:∀ ds:List PyData,PyData.shownAll ds=ds.map PyData.shown
 | []=>rfl
 | d::ds=>by rw[PyData.shownAll,dG ds];rfl
theorem acH:∀ n<21,(PyData.int ((n:Nat):Int)).shown.length<=82:=by decide +kernel
theorem yq(h:wd y=true):(PyData.str y).shown.length<=82:=by have:=repr_len (lL h);have:=(ji h).2;rw[PyData.shown];omega
theorem Gd.shown(h:Gd d):d.shown.length<=600:=by
 obtain⟨x,hx,ds,rfl,hl,hv⟩:=h;obtain⟨n6,n1⟩:=fK x hx;have each:∀ t∈PyData.shownAll ((.str x.1:PyData)::ds),t.length<=82:=by
  rw[dG];intro t ht;obtain⟨d,hd,rfl⟩:=List.mem_map.mp ht;rcases List.mem_cons.mp hd with rfl | hd
  ·exact yq (eZ x hx)
  ·obtain⟨c,hc⟩:=j7 hv hl hd;rcases hc with ⟨_,y,rfl,hy⟩ | ⟨_,y,rfl,hy⟩ | ⟨h1,h2,i,rfl,i0,i1⟩
   ·exact yq hy
   ·exact yq (oo y hy)
   ·have c0:=(oB c h1 h2).1;have c1:=lM c;obtain⟨n,rfl⟩:=Int.eq_ofNat_of_zero_le (show 0<=i by omega);exact acH n (by omega)
 have h1:=nH each;have h2:=i9 (PyData.shownAll ((.str x.1:PyData)::ds));have h3:(PyData.shownAll ((.str x.1:PyData)::ds)).length<=7:=by rw[dG,List.length_map,List.length_cons];omega
 have h4:=Nat.mul_le_mul_right 84 h3;unfold dd;rw[PyData.shown];omega
def GL(L:List PyData):Prop:=∀ d∈L,d=.none\/Gd d
theorem GL.ok(h:GL L):okD 3 (.list L)=true:=by
 simp only[okD];refine xN λ d hd=>?_;rcases h d hd with rfl | h
 ·rfl
 ·exact h.ok.1
theorem GL.repr(h:GL L)(hl:L.length<=5100):fy (.list L)=true:=by
 have ok:=h.ok;have h1:=gw _ (rM 3 _ ok);have h3:=jJ 3 _ ok;have h4:=uZ 3 _ ok;have each:∀ t∈PyData.shownAll L,t.length<=600:=by
  rw[dG];intro t ht;obtain⟨d,hd,rfl⟩:=List.mem_map.mp ht;rcases h d hd with rfl | h
  ·decide +kernel
  ·exact h.shown
 have h5:=nH each;have h6:=kM (PyData.shownAll L);have h7:(PyData.shownAll L).length<=5100:=by rw[dG,List.length_map];exact hl
 have h8:=Nat.mul_le_mul_right 602 h7;have h9:=s4m;have h10:(PyData.list L).shown.length<=sizeLine:=by rw[PyData.shown];omega
 simp only[fy,h1,Bool.true_and,Bool.and_eq_true,decide_eq_true_eq,Bool.or_eq_true,Bool.not_eq_true'];exact⟨⟨h10,by omega⟩,.inl h4⟩
theorem aeU(ys:List Str):GL (rsL ys):=λ d hd=>by
 obtain⟨y,_,rfl⟩:=List.mem_map.mp hd;unfold abN;cases h:res y with
 | none=>exact .inl rfl
 | some d=>exact .inr (Gd.back h).1
theorem aeH(hy:ys[i]? =some y)(hn:res y=none)(hp:∀ j y',j<i->ys[j]? =some y'->res y'≠none):(rsL ys).findIdx? isN=some i:=by
 obtain⟨hi,e⟩:=List.getElem?_eq_some_iff.mp hy;rw[List.findIdx?_eq_some_iff_getElem];refine⟨by rw[rsL,List.length_map];exact hi,?_,λ j hj=>?_⟩
 ·simp only[rsL,List.getElem_map];rw[e,xj,hn];rfl
 ·have hj':j<ys.length:=by omega
  simp only[rsL,List.getElem_map];rw[xj];have:=hp j _ hj (List.getElem?_eq_getElem hj');cases h:res ys[j] with
  | none=>exact absurd h this
  | some d=>simp
theorem zh(h:∀ (j:Nat) (y:Str),ys[j]? =some y->res y≠none):(rsL ys).findIdx? isN=none:=by
 rw[List.findIdx?_eq_none_iff];intro d hd;obtain⟨y,hy,rfl⟩:=List.mem_map.mp hd;obtain⟨j,hj,e⟩:=List.mem_iff_getElem.mp hy;rw[xj];have:=h j y (by rw[List.getElem?_eq_getElem hj,e]);cases q:res y with
 | none=>exact absurd q this
 | some d=>rfl
abbrev aeK(n:Nat):MO:=.exc aN [("at",.d (.int (n:Nat)))]
inductive aeu(d0:PyData) (M:MH) (Q:QD) (E:XQ):Prop
 | mk (z1:gF d0 "str" = false->∀ a M',M' a=some (aeK 0)->Ext M M'->E a M')
   (z2:∀ z,d0=.str z->dW z=true/\z.length<=5000/\(rowsOf z).length<=5000)
   (z3:∀ z,d0=.str z->(rsL (rowsOf z)).findIdx? isN=none->restOf z = "" -> ∀ p M',M p=none->M' p=some (.lst ((rsL (rowsOf z)).map W.d))->Ext M M'->Q (.m p) M')
   (z4:∀ z,d0=.str z->∀ n,(rsL (rowsOf z)).findIdx? isN=some n->∀ a M',M' a=some (aeK n)->Ext M M'->E a M')
   (z5:∀ z,d0=.str z->(rsL (rowsOf z)).findIdx? isN=none->restOf z ≠ "" -> ∀ a M',M' a=some (aeK (rowsOf z).length)->Ext M M'->E a M'):aeu d0 M Q E
def ck:SpX:=λ ws M Q E=>∃ d0,ws=[.d d0,.m dr]/\aeu d0 M Q E
theorem oP:∀ ws M Q E,ck ws M Q E->ws.length=2:=by rintro ws M Q E ⟨L,rfl,_⟩;rfl
inductive RrP(z:Str) (p q:Addr) (M:MH) (i:Nat) (τ:DS) (M':MH):Prop
 | mk (g:∀ j y,j<i->(rowsOf z)[j]? =some y->res y≠none) (x:Ext M M') (hp:M' p=some (.flst (bG (rowsOf z)))) (hq:M' q=some (.lst ((rsL ((rowsOf z).take i)).map W.d))) (y1 y2:Option W)
   (e:τ=[some (.d (.str z)),some (.m dr),some (.m p),some (.d (.str (restOf z))),some (.m q),y1,y2]):RrP z p q M i τ M'
theorem md:∀ ws M Q E,ck ws M Q E->km (λ a _ M=>E a M) bW {nx:=λ _ M'=>Q (.d .none) M',rt:=Q} (aT lg ws) M:=by
 rintro ws M Q E ⟨d0,rfl,k1,k2,k3,k4,k5⟩;have sl:=s16;refine⟨_,rfl,_,_,_,rfl,.d,.str,_,rfl,?_⟩;cases hs:gF d0 "str" with
 | false=>exact fV ⟨rfl,by simp,λ a ha=>k1 hs a _ aA (Ext.new ha)⟩
 | true =>
  obtain⟨z,rfl⟩:∃ z,d0=.str z:=by
   cases d0<;>simp[gF,tyD] at hs;exact⟨_,rfl⟩
  obtain⟨ha,hl,hr⟩:=k2 z rfl;refine dB ⟨_,rfl,z,rfl,"\n", rfl, by decide +kernel, by omega, λ p hp=>?_⟩;rw[nv z];have es:bG (rowsOf z++[restOf z])=bG (rowsOf z)++[.d (.str (restOf z))]:=by simp[bG]
  refine⟨_, rfl, p, bG (rowsOf z), .d (.str (restOf z)), rfl, by rw[aA, es], ?_⟩;rw[gn];refine⟨few (by simp), λ q hq=>?_⟩;have qp:p≠q:=λ e=>by rw[<- e, aA] at hq;cases hq
  have hqM:M q=none:=by rw[aR (Ne.symm qp)] at hq;exact hq
  refine⟨p, bG (rowsOf z), by rw[aR qp, aA], ?_⟩;refine⟨_, rfl, p, (rowsOf z).map PyData.str, rfl, by rw[aA, zb], ?_⟩;have x0:Ext M (cn (cn (cn M p (.lst (bG (rowsOf z)))) q (.lst [])) p (.flst (bG (rowsOf z)))):=λ b o e=>by rw[aR (iC e hp), aR (iC e hqM), aR (iC e hp)];exact e
  refine⟨λ i τ M'=>RrP z p q M i τ M', ⟨λ j y h=>absurd h (Nat.not_lt_zero _), x0, aA, by rw[aR (Ne.symm qp), aA];rfl, _, _, rfl⟩, ?_, ?_⟩
  ·rintro i w τ M' hw ⟨g, x, mp, mq, y1, y2, rfl⟩;obtain⟨y, hy, rfl⟩:=aaM hw;have hi:=(List.getElem?_eq_some_iff.mp hy).1;have ym:=qM (List.mem_of_getElem? hy);refine⟨_, rfl, rfl, _, _, rfl, _, _, rfl, rfl, _, rfl, q, _, rfl, mq, _, rfl, rfl, _, rfl, .str y, rfl, (λ hno=>by rw[show gF (.str y) "str" = true from lb _] at hno;cases hno), λ _=>⟨y, rfl, ym.2 ha, by omega, λ d hd=>?_, λ hn a ha'=>?_⟩⟩
   ·refine⟨_, mq, by simp[rsL];omega, λ j y' hj hy'=>?_, λ b o e=>?_, by rw[aR qp];exact mp, ?_, _, _, rfl⟩
    ·rcases Nat.lt_or_ge j i with h | h
     ·exact g j y' h hy'
     ·have:j=i:=by omega
      subst this;rw[hy] at hy';cases hy';rw[hd];intro z;cases z
    ·rw[aR (iC e hqM)];exact x b o e
    ·rw[aA];have e1:(rowsOf z).take (i+1)=(rowsOf z).take i++[y]:=by rw[List.take_succ, hy];rfl
     have e2:abN y=d:=by unfold abN;rw[hd];rfl
     rw[e1];simp only[rsL, List.map_append, List.map_cons, List.map_nil, e2]
   ·refine⟨_, _, true, aA, rfl, fV ⟨_, rfl, rfl, by simp, ⟨_, aA⟩, λ b hb=>?_⟩⟩;exact k4 z rfl i (aeH hy hn g) b _ aA ((x.trans (Ext.new ha')).trans (Ext.new hb))
  ·rintro τ M' ⟨g, x, mp, mq, y1, y2, rfl⟩;have hel:(qe ((rowsOf z).map PyData.str)).length=(rowsOf z).length:=by simp[qe]
   rw[hel] at g mq;rw[List.take_length] at mq;have fin:=zh λ j y hy=>g j y (List.getElem?_eq_some_iff.mp hy).1 hy;refine⟨mp, ?_⟩;have x2:Ext M (cn M' p (.lst (bG (rowsOf z)))):=λ b o e=>by rw[aR (iC e hp)];exact x b o e
   have mp2:cn M' p (.lst (bG (rowsOf z))) p=some (.lst (bG (rowsOf z))):=aA;have mq2:cn M' p (.lst (bG (rowsOf z))) q=some (.lst ((rsL (rowsOf z)).map W.d)):=by rw[aR (Ne.symm qp)];exact mq
   generalize cn M' p (.lst (bG (rowsOf z)))=M2 at x2 mp2 mq2;refine⟨_, rfl, _, _, .d, .d, rfl, _, rfl, ?_⟩;rw[bq]
   by_cases he:restOf z = ""
   ·rw[decide_eq_true he];exact dB ⟨_,rfl,k3 z rfl fin he q M2 hqM mq2 x2⟩
   ·rw[decide_eq_false he];have el:wg M2 (.m p)=some (rowsOf z).length:=by simp only[wg,mp2];simp[bG]
    exact fV ⟨_,rfl,_,_,rfl,el,rfl,rfl,by simp,λ a ha'=>k5 z rfl fin he a _ aA (x2.trans (Ext.new ha'))⟩
def aP:SpX:=λ ws M Q E=>∃ d0,ws=[.d d0]/\aeu d0 M Q E
theorem lP:∀ ws M Q E,aP ws M Q E->ws.length=1:=by rintro ws M Q E ⟨L,rfl,_⟩;rfl
theorem lF:∀ ws M Q E,aP ws M Q E->jh (λ a _ M=>E a M) ck {nx:=λ _ M'=>Q (.d .none) M',rt:=Q} (aT jg ws) M:=by
 rintro ws M Q E ⟨d0,rfl,h⟩;exact⟨_,rfl,d0,rfl,h⟩
theorem adp:∀ c<128,∀ q,q=34\/q=39->∀ x∈Builtin.Str.reprChar q c,x<128:=by
 have h:((List.range 128).all λ c=>([34,39]:List Nat).all λ q=>(Builtin.Str.reprChar q c).all λ x=>decide (x<128))=true:=by decide +kernel
 intro c hc q hq x hx;have h1:=List.all_eq_true.mp h c (List.mem_range.mpr hc);have h2:=List.all_eq_true.mp h1 q (by simpa using hq);exact of_decide_eq_true (List.all_eq_true.mp h2 x hx)
theorem uk(q:Nat)(hq:q=34\/q=39):∀ (l:List Nat) (acc:Array Nat),(∀ c∈l,c<128)->(∀ c∈acc.toList,c<128)->∀ c∈(l.foldl (λ out c=>out++(Builtin.Str.reprChar q c).toArray) acc).toList,c<128
 | [],acc,_,h=>h
 | a::l,acc,h1,h2=>by
  refine uk q hq l _ (λ c hc=>h1 c (by simp[hc])) λ c hc=>?_;simp only[Array.toList_append,List.mem_append] at hc;rcases hc with hc | hc
  ·exact h2 c hc
  ·exact adp a (h1 a (by simp)) q hq c (by simpa using hc)
theorem abW(h:Asc z):Asc (reprText z):=by
 intro c hc;have hq:reprQuote z=34\/reprQuote z=39:=by
  unfold reprQuote
  split
  ·exact .inl rfl
  ·exact .inr rfl
 have hc':c∈((z.cps.foldl (λ out c=>out++(Builtin.Str.reprChar (reprQuote z) c).toArray) #[reprQuote z]).push (reprQuote z)).toList:=hc;rw[Array.toList_push,<- Array.foldl_toList] at hc';rcases List.mem_append.mp hc' with h1 | h1
 ·refine uk _ hq z.cps.toList _ h (λ x hx=>?_) c h1;simp at hx;rcases hq with hq | hq<;>omega
 ·simp at h1;rcases hq with hq | hq<;>omega
theorem ur:∀ (ts:List Str) (k:Nat) (acc:Str),Asc acc->(∀ t∈ts,Asc t)->Asc (textFrom k acc ts)
 | [],_,_,h,_=>h
 | t::ts,k,acc,h,h2=>by
  refine ur ts (k+1) _ (ee (ee h ?_) (h2 t (by simp))) λ x hx=>h2 x (by simp[hx])
  split<;>exact dm (by decide +kernel)
theorem tT:∀ ts:List Str,(∀ t∈ts,Asc t)->Asc (Str.join ", " ts)
 | [],_=>dm (by decide +kernel)
 | [x],h=>h x (by simp)
 | x::y::r,h=>by show Asc (x ++ ", " ++ Str.join ", " (y::r));exact ee (ee (h x (by simp)) (dm (by decide +kernel))) (tT (y::r) λ t ht=>h t (by simp[ht]))
theorem abD(h:∀ t∈ts,Asc t):Asc (listText ts):=ee (ur ts 0 _ (dm (by decide +kernel)) h) (dm (by decide +kernel))
theorem aec(h:∀ t∈ts,Asc t):Asc (tupleText ts):=by
 unfold tupleText;refine ee (ee (dm (by decide +kernel)) (tT ts h)) ?_
 split<;>exact dm (by decide +kernel)
mutual
theorem qN:∀ (k:Nat) (d:PyData),okD k d=true->Asc d.shown
 | _,.none,_=>by rw[PyData.shown];exact dm (by decide +kernel)
 | _,.bool b,_=>by rw[PyData.shown];cases b<;>exact dm (by decide +kernel)
 | _,.int i,_=>λ c hc=>by
  by_cases h:c<128
  ·exact h
  ·exact absurd hc (shown_int_free' ⟨by omega,by omega⟩ i)
 | k,.str z,h=>by rw[PyData.shown];exact abW (cy (by cases k<;>simpa only[okD] using h))
 | k+1,.list ds,h=>by rw[PyData.shown];exact abD (iL k ds (by simpa only[okD] using h))
 | k+1,.tuple ds,h=>by rw[PyData.shown];exact aec (iL k ds (by simpa only[okD] using h))
 | 0,.list ds,h=>by simp[okD] at h
 | 0,.tuple ds,h=>by simp[okD] at h
 | k,.dict kvs,h=>by cases k<;>simp[okD] at h
theorem iL:∀ (k:Nat) (ds:List PyData),okA k ds=true->∀ t∈PyData.shownAll ds,Asc t
 | _,[],_,t,ht=>by simp[PyData.shownAll] at ht
 | k,d::ds,h,t,ht=>by
  simp only[okA,Bool.and_eq_true] at h;simp only[PyData.shownAll,List.mem_cons] at ht;rcases ht with rfl | ht
  ·exact qN k d h.1
  ·exact iL k ds h.2 t ht
end
theorem jD(n:Nat)(h:n<=6000):okD 2 (fR n)=true:=by
 have big:(2:Nat) ^ 100 > 10000000:=by decide
 simp only[fR,okD,okA,Bool.and_true,Bool.and_eq_true,decide_eq_true_eq];exact⟨by decide +kernel,by omega⟩
theorem aaB(h:Od d):okD 2 (told d)=true:=by
 rcases h with h | ⟨z,rfl,_,_,hr⟩
 ·rw[oy h];exact jD 0 (by omega)
 ·cases hf:(rsL (rowsOf z)).findIdx? isN with
  | some n =>
   rw[i7 hf];obtain⟨hn,_⟩:=List.findIdx?_eq_some_iff_getElem.mp hf;rw[rsL,List.length_map] at hn;exact jD n (by omega)
  | none =>
   by_cases e:restOf z = ""
   ·rw[rT hf e];have ha:=tu (qN 3 (.list (rsL (rowsOf z))) (aeU _).ok);simp only[okD,okA,Bool.and_true,Bool.and_eq_true];exact⟨by decide +kernel,ha⟩
   ·rw[oU hf e];exact jD _ (by omega)
theorem ac0(h:Od d):dR (told d) (told d)=true/\(!PyData.eqv (told d) (told d))=false:=by have ok:=aaB h;refine⟨?_,by rw[nr ok];rfl⟩;have:=gk (by decide) ok;cases e:told d<;>simp[dR]<;>(rw[e] at this;exact this)
def cB:SpD:=λ ws M Q=>∃ d:PyData,ws=[.d d]/\Od d/\∀ M',Ext M M'->Q (.d (told d)) M'
theorem vZ:∀ ws M Q,cB ws M Q->ws.length=1:=by rintro ws M Q ⟨z,rfl,_⟩;rfl
theorem sZ:∀ ws M Q,cB ws M Q->tU aP {nx:=λ _ M'=>Q (.d .none) M',rt:=Q} (aT ua ws) M:=by
 rintro ws M Q ⟨d,rfl,hO,k⟩;have od:∀ z,d=.str z->dW z=true/\z.length<=5000/\(rowsOf z).length<=5000:=λ z e=>by
  rcases hO with h | ⟨z',e',h⟩
  ·subst e;rw[show gF (.str z) "str" = true from lb _] at h;cases h
  ·rw[e] at e';cases e';exact h
 refine⟨_,rfl,d,rfl,⟨λ hs a M' ma x=>?_,od,λ z e hf hr p M' hp mp x=>?_,λ z e n hf a M' ma x=>?_,λ z e hf hr a M' ma x=>?_⟩⟩
 ·have kk:=k M' x;rw[oy hs] at kk;exact⟨_,_,true,ma,rfl,fV ⟨_,rfl,a,_,_,_,rfl,ma,rfl,_,rfl,dB ⟨_,rfl,a,_,_,_,rfl,ma,rfl,_,rfl,dB ⟨_,rfl,a,_,_,_,rfl,ma,rfl,_,rfl,dB ⟨_,rfl,a,_,_,_,rfl,ma,by simp,rfl,_,rfl,few (by simp),kk⟩⟩⟩⟩⟩
 ·have kk:=k M' x;rw[e,rT hf hr] at kk;obtain⟨_,_,h3⟩:=od z e;exact⟨_,_,rfl,.l mp,(aeU _).repr (by rw[rsL,List.length_map];omega),_,rfl,few (by simp),kk⟩
 ·have kk:=k M' x;rw[e,i7 hf] at kk;exact⟨_,_,true,ma,rfl,fV ⟨_,rfl,a,_,_,_,rfl,ma,rfl,_,rfl,dB ⟨_,rfl,a,_,_,_,rfl,ma,rfl,_,rfl,dB ⟨_,rfl,a,_,_,_,rfl,ma,rfl,_,rfl,dB ⟨_,rfl,a,_,_,_,rfl,ma,by simp,rfl,_,rfl,few (by simp),kk⟩⟩⟩⟩⟩
 ·have kk:=k M' x;rw[e,oU hf hr] at kk;exact⟨_,_,true,ma,rfl,fV ⟨_,rfl,a,_,_,_,rfl,ma,rfl,_,rfl,dB ⟨_,rfl,a,_,_,_,rfl,ma,rfl,_,rfl,dB ⟨_,rfl,a,_,_,_,rfl,ma,rfl,_,rfl,dB ⟨_,rfl,a,_,_,_,rfl,ma,by simp,rfl,_,rfl,few (by simp),kk⟩⟩⟩⟩⟩
theorem abh(xs:List α)(x:α):D.cutD (xs++[x]) none (some (-1))=xs:=by
 unfold D.cutD;have e:HT.sIx (xs++[x]).length 0 none=0:=rfl;have e2:HT.sIx (xs++[x]).length (xs++[x]).length (some (-1))=xs.length:=by
  simp only[HT.sIx,List.length_append,List.length_cons,List.length_nil]
  split<;>omega
 rw[e,e2];simp
theorem acP(xs:List PyData)(x:PyData):ixW M (.d (.list (xs++[x]))) (-1)=some (.d x):=by
 have e:ixN (xs++[x]).length (-1)=some xs.length:=by
  simp only[ixN,List.length_append,List.length_cons,List.length_nil]
  split
  ·rename_i h;omega
  ·split
   ·congr 1;omega
   ·omega
 simp only[ixW,atI];rw[e];simp
def eV:SpD:=λ ws M Q=>∃ d:PyData,ws=[.d d]/\Od d/\∀ M',Ext M M'->Q (.d (told d)) M'
theorem xp:∀ ws M Q,eV ws M Q->ws.length=1:=by rintro ws M Q ⟨z,rfl,_⟩;rfl
theorem aiB(L:List PyData):inA .none L=((L.findIdx? isN).isSome):=by
 unfold inA;have:(λ y=>PyData.eqv y .none)=isN:=funext aeg;rw[this,List.findIdx?_isSome]
theorem vh:∀ ws M Q,eV ws M Q->xI dO {nx:=λ _ M'=>Q (.d .none) M',rt:=Q} (aT xv ws) M:=by
 rintro ws M Q ⟨d,rfl,hO,k⟩;have sl:=s16;refine⟨_,rfl,_,_,_,rfl,.d,.str,_,rfl,?_⟩;rcases hO with hs | ⟨z,rfl,ha,hl,hr⟩
 ·rw[hs];have kk:=k M λ _ _ e=>e;rw[oy hs] at kk;exact fV ⟨_,rfl,few (by simp),kk⟩
 rw[show gF (.str z) "str" = true from lb _];refine dB ⟨_,rfl,z,rfl,"\n",rfl,by decide +kernel,by omega,?_⟩;rw[nv z,List.map_append];refine⟨_,rfl,1,rfl,_,rfl,_,rfl,rfl,_,rfl,?_⟩;rw[show List.map PyData.str [restOf z]=[.str (restOf z)] from rfl,abh];refine⟨λ i acc τ M'=>Ext M M'/\acc=rsL ((rowsOf z).take i)/\∃ x,τ=[x],⟨λ _ _ e=>e,rfl,_,rfl⟩,?_,?_⟩
 ·rintro i w acc τ M' hw ⟨x,rfl,y1,rfl⟩;rw[List.map_map] at hw;obtain⟨y,hy,rfl⟩:=gM hw;have hi:=(List.getElem?_eq_some_iff.mp hy).1;have ym:=qM (List.mem_of_getElem? hy);refine⟨by rw[rsL,List.length_map,List.length_take];omega,_,rfl,y,rfl,ym.2 ha,by omega,λ M2 x2=>⟨_,rfl,x.trans x2,?_,_,rfl⟩⟩;rw[List.take_succ,hy];simp[rsL,abN]
 rintro acc τ M1 ⟨x,rfl,y1,rfl⟩;have el:(rowsOf z).take (((rowsOf z).map PyData.str).map W.d).length=rowsOf z:=List.take_of_length_le (by simp);rw[el];have kk:=k M1 x;have gl:=aeU (rowsOf z);have ino:lX .none (rsL (rowsOf z))=true:=by simp only[lX,gk (k:=0) (d:=.none) (by decide) rfl,gk (by decide) gl.ok,Bool.and_self]
 refine⟨_,rfl,.none,rsL (rowsOf z),.d,.inl .d,ino,_,rfl,?_⟩;rw[aiB];cases hf:(rsL (rowsOf z)).findIdx? isN with
 | some n =>
  rw[i7 hf] at kk;obtain⟨hn,h1,h2⟩:=List.findIdx?_eq_some_iff_getElem.mp hf;have hn':n<(rowsOf z).length:=by rw[rsL,List.length_map] at hn;exact hn
  refine fV ⟨_,rfl,_,rfl,.none,n,rfl,ino,⟨hn,λ y hy=>?_,λ m y hm hy=>?_⟩,by omega,_,rfl,few (by simp),kk⟩
  ·rw[List.getElem?_eq_getElem hn] at hy;cases hy;rw[aeg];exact h1
  ·have hm':m<(rsL (rowsOf z)).length:=by omega
   rw[List.getElem?_eq_getElem hm'] at hy;cases hy;rw[aeg];have:=h2 m hm
   simpa using this
 | none =>
  refine dB ⟨_,rfl,1,rfl,-1,_,rfl,acP _ _,rfl,_,_,.d,.d,rfl,_,rfl,?_⟩;rw[bq]
  by_cases e:restOf z = ""
  ·rw[rT hf e] at kk;rw[decide_eq_true e];exact dB ⟨_,rfl,_,_,rfl,.d,gl.repr (by rw[rsL,List.length_map];omega),_,rfl,few (by simp),kk⟩
  ·rw[oU hf e] at kk;rw[decide_eq_false e];have el2:wg M1 (.d (.list ((rowsOf z).map PyData.str++[.str (restOf z)])))=some ((rowsOf z).length+1):=by simp[wg]
   refine fV ⟨_,rfl,_,_,rfl,el2,rfl,_,_,rfl,rfl,_,rfl,few (by simp),?_⟩;have e3:(((rowsOf z).length+1:Nat):Int)-1=(((rowsOf z).length:Nat):Int):=by omega
   show Q (.d (.tuple [.str "refused",.int ((((rowsOf z).length+1:Nat):Int)-1)])) M1;rw[e3];exact kk
theorem nY(i j:Int):dR (.int i) (.int j)=true:=by simp[dR,pZ,SeqAt.shaped,PyData.canLay0,PyData.depth,PyData.hasDict]
theorem yw:∀ {l:List Nat} {n:Nat},n∈l->n<=l.sum
 | a::l,n,h=>by
  rw[List.sum_cons];rcases List.mem_cons.mp h with h | h
  ·omega
  ·have:=yw h;omega
theorem j8:∀ l:List Str,l.length<=(Str.join ⟨#[c]⟩ l).length+1
 | []=>by simp
 | [_]=>by simp
 | x::y::r=>by have h:=j8 (c:=c) (y::r);have e:=congrArg List.length (join_cons (c:=c) x y r);rw[str_len,List.length_append,List.length_cons,str_len,str_len] at e;rw[List.length_cons];omega
theorem ada(z:Str):(rowsOf z).length<=z.length:=by have h:=j8 (c:=10) (Txt.split z ⟨#[10]⟩);rw[StrLaws.join_split,<- afC,nv,List.length_append] at h;simp at h;exact h
theorem pF(ha:dW z=true)(hl:z.length<=5000):Od (.str z):=.inr ⟨z,rfl,ha,hl,by have:=ada z;omega⟩
theorem abq(P:DS->MH->Prop)(hb:∀ τ' M',P τ' M'->b E τ' M')(ha:(∀ τ' M',P τ' M'->b E τ' M')->aW a b E τ M):aW a b E τ M:=ha hb
theorem aaf(b:Bool)(hc:∀ Q:Bool->MH->Prop,Q b M->c τ M Q)(h:if b=true then A E τ M else B E τ M):dIf c A B E τ M:=hc _ h
theorem yI(x:Bool)(hc:∀ Q:Bool->MH->Prop,Q x M->c τ M Q)(h1:x=true->aW A b E τ M)(h2:x=false->b E τ M):aW (dIf c A bh) b E τ M:=hc _ (by
 cases x with
 | true=>exact h1 rfl
 | false=>exact h2 rfl)
inductive kZ(ws:List W) (M:MH) (Q:QD):Prop
 | mk (p:Addr) (ys:List Str) (z0:ws=[.m p,.d (.list (ys.map PyData.str))]) (z1:ys.length<=8) (z2:∀ y∈ys,dW y=true/\y.length<=100) (z3:Bag M p) (z4:∀ (z:Str) M',dW z=true->z.length<=5000->Bag M' p->Q (.d (.str z)) M'):kZ ws M Q
def cA:SpD:=kZ
theorem qb:∀ ws M Q,cA ws M Q->ws.length=2:=by rintro ws M Q ⟨p,ys,rfl,_⟩;rfl
def lsum(ys:List Str):Nat:=(ys.map (·.length)).sum
theorem wK:∀ {ys:List Str},(∀ y∈ys,y.length<=c)->lsum ys<=c * ys.length
 | [],_=>by simp[lsum]
 | y::ys,h=>by have h1:=h y (by simp);have h2:=wK (ys:=ys) λ y hy=>h y (by simp[hy]);unfold lsum at h2 ⊢;rw[List.map_cons,List.sum_cons,List.length_cons,Nat.mul_succ];omega
theorem t7(a b:List Str):lsum (a++b)=lsum a+lsum b:=by simp[lsum]
theorem fD(a:Str)(b:List Str):lsum (a::b)=a.length+lsum b:=by simp[lsum]
theorem nu(ys:List Str)(n:Nat)(y:Str):lsum (js ys n y)=lsum ys+y.length:=by
 unfold js
 conv=>rhs;rw[<- List.take_append_drop n ys]
 rw[t7,t7,fD];omega
theorem tO:∀ (ys:List Str) (n:Nat) (y:Str),lsum (ys.set n y)<=lsum ys+y.length
 | [],n,y=>by simp[lsum]
 | a::ys,0,y=>by rw[List.set_cons_zero,fD,fD];omega
 | a::ys,n+1,y=>by have:=tO ys n y;rw[List.set_cons_succ,fD,fD];omega
theorem acZ(ys:List Str)(n:Nat)(y:Str):js (bG ys) n (.d (.str y))=bG (js ys n y):=by simp[js,bG]
theorem ahW(ys:List Str)(n:Nat)(y:Str):(bG ys).set n (.d (.str y))=bG (ys.set n y):=by simp[bG]
theorem sI(h:z∈js ys n y):z∈ys\/z=y:=by
 unfold js at h;rcases List.mem_append.mp h with h | h
 ·exact .inl (List.mem_of_mem_take h)
 ·rcases List.mem_cons.mp h with h | h
  ·exact .inr h
  ·exact .inl (List.mem_of_mem_drop h)
inductive SpP(p a:Addr) (way at':Int) (τ:DS) (M:MH):Prop
 | mk (ys:List Str) (x4:Option W) (e:τ=[some (.m p),some (.m a),some (.d (.int way)),some (.d (.int at')),x4]) (hm:M a=some (.lst (bG ys))) (b:Bag M p) (ha:∀ y∈ys,dW y=true) (hs:lsum ys<=1201) (hl:ys.length<=9):SpP p a way at' τ M
def ahu:List PyData:=[.str "wish",.str "back",.str "fill m ",.str " fill m",.str "end group a",.str "rank a 8"]
theorem ac4:∀ d∈ahu,∃ z:Str,d=.str z/\dW z=true/\z.length<=11:=by
 have:(ahu.all λ d=>match d with | .str z=>dW z&&decide (z.length<=11) | _=>false)=true:=by decide +kernel
 intro d hd;have h:=List.all_eq_true.mp this d hd;cases d with
 | str z=>simp only[Bool.and_eq_true,decide_eq_true_eq] at h;exact⟨z,rfl,h.1,h.2⟩
 | _=>cases h
def aa6:List PyData:=[.str "back a",.str " ",.str "a",.str ":"]
theorem abM:∀ d∈aa6,∃ z:Str,d=.str z/\dW z=true/\z.length<=11:=by
 have:(aa6.all λ d=>match d with | .str z=>dW z&&decide (z.length<=11) | _=>false)=true:=by decide +kernel
 intro d hd;have h:=List.all_eq_true.mp this d hd;cases d with
 | str z=>simp only[Bool.and_eq_true,decide_eq_true_eq] at h;exact⟨z,rfl,h.1,h.2⟩
 | _=>cases h
def nlT(ys:List Str):Str:=Txt.join "" (ys.map λ y=>y ++ "\n")
theorem acG(ys:List Str):((ys.map λ y=>y++("\n" : Str)).map (·.length)).sum=lsum ys+ys.length:=by
 induction ys with
 | nil=>rfl
 | cons y ys ih =>
  have e:(y++("\n" : Str)).length=y.length+1:=by rw[oq];rfl
  rw[List.map_cons, List.map_cons, List.sum_cons, ih, fD, e, List.length_cons];omega
theorem qV:∀ L:List (List Nat), L.flatten.length=(L.map List.length).sum
 | []=>rfl
 | l::L=>by rw[List.flatten_cons, List.length_append, qV L];rfl
theorem agu(ys:List Str):(nlT ys).length=lsum ys+ys.length:=by
 unfold nlT;rw[<- str_len, aeM, qV, <- acG, List.map_map];congr 1
theorem acB(h:∀ y∈ys, dW y=true):dW (nlT ys)=true:=by
 refine tu λ c hc=>?_;unfold nlT at hc;rw[aeM] at hc;obtain⟨l, hl, hc⟩:=List.mem_flatten.mp hc;obtain⟨t, ht, rfl⟩:=List.mem_map.mp hl;obtain⟨y, hy, rfl⟩:=List.mem_map.mp ht;rw[ig] at hc;rcases List.mem_append.mp hc with hc | hc
 ·exact cy (h y hy) c hc
 ·have:dW ("\n" : Str)=true:=by decide +kernel
  exact cy this c hc
theorem aaj{z:Str}{lo hi:Option Int}{c:Nat}(hc:c∈(Txt.slice z lo hi).cps.toList):c∈z.cps.toList:=by
 unfold Txt.slice at hc
 split at hc
 ·exact hc
 ·have hc':c∈(Builtin.Str.strSliceIndices lo hi 1 z.length).filterMap (z.cps[·]?):=by simpa using hc
  obtain⟨i,_,e⟩:=List.mem_filterMap.mp hc'
  simpa using Array.mem_of_getElem? e
theorem ow:∀ ws M Q,cA ws M Q->mj az cY {nx:=λ _ M'=>Q (.d .none) M',rt:=Q} (aT ni ws) M:=by
 rintro ws M Q ⟨p,ys,rfl,hl,hy,hb,k⟩;have sl:=s16;refine⟨_,rfl,_,_,rfl,.l,λ a ha=>?_⟩;rw[<- zb];have ap:a≠p:=λ e=>by obtain⟨_,_,_,_,z,_⟩:=hb;rw[e,z] at ha;cases ha
 have b1:Bag (cn M a (.lst (bG ys))) p:=ff hb (aR ap.symm);have m1:cn M a (.lst (bG ys)) a=some (.lst (bG ys)):=aA;generalize cn M a (.lst (bG ys))=M1 at b1 m1;refine⟨_,rfl,p,8,rfl,b1,by decide,by decide,λ way M2 w0 w1 b2 g2=>?_⟩;have m2:M2 a=some (.lst (bG ys)):=by rw[g2 a ap];exact m1
 have el:∀ {N:MH},N a=some (.lst (bG ys))->wg N (.m a)=some ys.length:=λ h=>by simp only[wg,h];simp[bG]
 refine⟨_,rfl,_,rfl,_,_,rfl,el m2,rfl,.inl ⟨_,_,rfl,rfl,p,_,rfl,b2,by omega,by omega,λ at' M3 a0 a1 b3 g3=>?_⟩⟩;have m3:M3 a=some (.lst (bG ys)):=by rw[g3 a ap];exact m2
 have s800:lsum ys<=800:=by have:=wK (c:=100) λ y h=>(hy y h).2;omega
 have asc0:∀ y∈ys,dW y=true:=λ y h=>(hy y h).1;obtain⟨n,rfl⟩:=Int.eq_ofNat_of_zero_le a0;dsimp only[gN];refine abq (λ τ' M'=>SpP p a way (n:Nat) τ' M') (λ τ' M4 P=>?_) (λ rest=>?_)
 case refine_2 =>
  have row:n<ys.length->∃ y,ys[n]? =some y/\y∈ys/\ixW M3 (.m a) (n:Nat)=some (.d (.str y))/\ixN (bG ys).length (n:Nat)=some n:=λ h=>by have hy':ys[n]? =some ys[n]:=List.getElem?_eq_getElem h;refine⟨ys[n],hy',List.getElem_mem h,abZ m3 (iX (by simp[bG,hy'])),rY (by omega) (by simp[bG];exact h)⟩
  refine aaf (decide (way<2)&&decide (n<ys.length)) (λ Q' q=>?_) ?_
  ·refine⟨_,rfl,_,_,rfl,rfl,_,rfl,?_⟩
   by_cases h1:way<2
   ·rw[decide_eq_true h1] at q ⊢;refine fV ⟨_,rfl,_,rfl,_,_,rfl,el m3,rfl,_,_,rfl,rfl,_,rfl,?_⟩;rw[Bool.true_and] at q
    by_cases h2:n<ys.length
    ·rw[decide_eq_true h2] at q;rw[decide_eq_true (show((n:Nat):Int)<(ys.length:Nat) by omega)];exact q
    ·rw[decide_eq_false h2] at q;rw[decide_eq_false (show ¬ ((n:Nat):Int)<(ys.length:Nat) by omega)];exact q
   ·rw[decide_eq_false h1] at q ⊢;exact dB q
  by_cases hc:(decide (way<2)&&decide (n<ys.length))=true
  ·rw[if_pos hc];rw[Bool.and_eq_true] at hc;obtain⟨y,hy1,hym,hix,hin⟩:=row (of_decide_eq_true hc.2);have hyy:=hy y hym;refine⟨_,rfl,_,rfl,_,rfl,n,_,rfl,hix,rfl,p,y,rfl,b3,hyy.1,by omega,λ z M5 hz lz b5 g5=>?_⟩;have m5:M5 a=some (.lst (bG ys)):=by rw[g5 a ap];exact m3
   refine⟨_,rfl,_,rfl,a,_,n,n,rfl,rfl,m5,hin,rest _ _ ⟨ys.set n z,_,rfl,by rw[aA,ahW],ff b5 (aR ap.symm),λ y' hy'=>?_,?_,by rw[List.length_set];omega⟩⟩
   ·rcases List.mem_or_eq_of_mem_set hy' with h | rfl
    ·exact asc0 y' h
    ·exact hz
   ·have:=tO ys n z;omega
  rw[if_neg hc];refine aaf (decide (way=2)) (λ Q' q=>⟨_,rfl,_,_,.d,.d,nY _ _,_,rfl,by rw[cN];exact q⟩) ?_
  by_cases h2:way=2
  ·rw[if_pos (decide_eq_true h2)];refine⟨_,rfl,a,_,rfl,m3,_,rfl,_,_,_,rfl,m3,by omega,by omega,by simp[bG];omega,rest _ _ ⟨js ys n "",_,rfl,?_,ff b3 (aR ap.symm),λ y' hy'=>?_,?_,by rw[jz];omega⟩⟩
   ·rw[aA,<- acZ];rfl
   ·rcases sI hy' with h | rfl
    ·exact asc0 y' h
    ·decide +kernel
   ·rw[nu];have:("" : Str).length=0:=by decide +kernel
    omega
  rw[if_neg (by rw[decide_eq_false h2];simp)];refine aaf (decide (way=3)&&decide (n<ys.length)) (λ Q' q=>?_) ?_
  ·refine⟨_,rfl,_,_,.d,.d,nY _ _,_,rfl,?_⟩;rw[cN]
   by_cases h1:way=3
   ·rw[decide_eq_true h1] at q ⊢;refine fV ⟨_,rfl,_,rfl,_,_,rfl,el m3,rfl,_,_,rfl,rfl,_,rfl,?_⟩;rw[Bool.true_and] at q
    by_cases h2:n<ys.length
    ·rw[decide_eq_true h2] at q;rw[decide_eq_true (show((n:Nat):Int)<(ys.length:Nat) by omega)];exact q
    ·rw[decide_eq_false h2] at q;rw[decide_eq_false (show ¬ ((n:Nat):Int)<(ys.length:Nat) by omega)];exact q
   ·rw[decide_eq_false h1] at q ⊢;exact dB q
  by_cases hc3:(decide (way=3)&&decide (n<ys.length))=true
  ·rw[if_pos hc3];rw[Bool.and_eq_true] at hc3;obtain⟨y,hy1,hym,hix,hin⟩:=row (of_decide_eq_true hc3.2);have hyy:=hy y hym;refine⟨_,rfl,a,_,rfl,m3,_,rfl,_,rfl,_,rfl,n,_,rfl,hix,rfl,_,_,_,rfl,m3,by omega,by omega,by simp[bG];omega,rest _ _ ⟨js ys n y,_,rfl,?_,ff b3 (aR ap.symm),λ y' hy'=>?_,?_,by rw[jz];omega⟩⟩
   ·rw[aA,<- acZ];rfl
   ·rcases sI hy' with h | rfl
    ·exact asc0 y' h
    ·exact hyy.1
   ·rw[nu];omega
  rw[if_neg hc3];refine aaf (decide (way=4)) (λ Q' q=>⟨_,rfl,_,_,.d,.d,nY _ _,_,rfl,by rw[cN];exact q⟩) ?_
  by_cases h4:way=4
  ·rw[if_pos (decide_eq_true h4)];refine⟨_,rfl,a,_,rfl,m3,_,rfl,_,rfl,few (by simp),_,rfl,p,6,rfl,b3,by decide,by decide,λ r M5 r0 r1 b5 g5=>?_⟩;have m5:M5 a=some (.lst (bG ys)):=by rw[g5 a ap];exact m3
   obtain⟨d,ed,hd⟩:=yD (M:=M5) (ds:=ahu) r0 (by simpa [ahu] using r1);obtain⟨y,rfl,hya,hyl⟩:=ac4 d hd;refine⟨r,_,rfl,ed,rfl,_,_,_,rfl,m5,by omega,by omega,by simp[bG];omega,rest _ _ ⟨js ys n y,_,rfl,?_,ff b5 (aR ap.symm),λ y' hy'=>?_,?_,by rw[jz];omega⟩⟩
   ·rw[aA,<- acZ];rfl
   ·rcases sI hy' with h | rfl
    ·exact asc0 y' h
    ·exact hya
   ·rw[nu];omega
  rw[if_neg (by rw[decide_eq_false h4];simp)];exact rest _ _ ⟨ys,_,rfl,m3,b3,asc0,by omega,by omega⟩
 obtain⟨zs,x4,rfl,hm,b4,hz,hs,hzl⟩:=P;refine⟨⟨_,rfl⟩,a,_,hm,_,rfl,a,_,rfl,aA,?_⟩;have ez:bG zs=zs.map λ y=>W.d (.str y):=rfl;rw[ez];refine gv zs (λ y=>W.d (.str y)) (λ y=>.str (y ++ "\n")) (λ τ=>∃ y, τ=[y]) (by omega) ⟨_, rfl⟩ (λ y hyz τ hτ R h=>?_) (λ τ=>?_)
 ·obtain⟨x, rfl⟩:=hτ;have:y.length<=lsum zs:=by
   unfold lsum;exact yw (List.mem_map.mpr ⟨y, hyz, rfl⟩)
  have e1:("\n" : Str).length=1:=by decide +kernel
  exact⟨_, rfl, .inr ⟨_, _, rfl, rfl, by rw[e1];omega, _, rfl, h _ ⟨_, rfl⟩⟩⟩
 refine⟨aA, ?_⟩;rw[ez] at hm;rw[aa2 hm];have e0:("" : Str).length=0:=by decide +kernel
 refine⟨"", zs.map λ y=>y ++ "\n", rfl, by rw[List.map_map];rfl, by rw[e0, acG];omega, ?_⟩;have tl:=agu zs;have ta:=acB hz;have et:Txt.join "" (zs.map λ y=>y++("\n" : Str))=nlT zs:=rfl;rw[et];generalize nlT zs=t at tl ta;have fitT:u3 (.d (.str t))=true:=decide_eq_true (by omega);dsimp only[gN];have tst:∀ (m:Int) (τ':DS) (Q':Bool->MH->Prop),τ'[2]? =some (some (.d (.int way)))->Q' (decide (way=m)) M4->aJ (dOp dh (aj 2) (dC (.d (.int m)))) τ' M4 Q':=λ m τ' Q' e q=>⟨_,e,_,_,.d,.d,nY _ _,_,rfl,by rw[cN];exact q⟩;refine yI (decide (way=5)) (λ Q' q=>tst 5 _ Q' rfl q) (λ _=>?_) (λ _=>?_)
 ·refine⟨_,rfl,1,rfl,_,rfl,_,rfl,fitT,k _ _ (tu λ c hc=>cy ta c (aaj hc)) ?_ b4⟩;have:=PySem.Txt.slice_le t none (some (-1));show(Txt.slice t none (some (-1))).length<=5000;omega
 refine yI (decide (way=6)) (λ Q' q=>tst 6 _ Q' rfl q) (λ _=>?_) (λ _=>?_)
 ·refine⟨_,rfl,_,rfl,few (by simp),_,rfl,p,4,rfl,b4,by decide,by decide,λ r M5 r0 r1 b5 g5=>?_⟩;obtain⟨d,ed,hd⟩:=yD (M:=M5) (ds:=aa6) r0 (by simpa [aa6] using r1);obtain⟨y,rfl,hya,hyl⟩:=abM d hd;refine⟨r,_,rfl,ed,rfl,.inr ⟨_,_,rfl,rfl,by omega,k _ _ (tu (ee (cy ta) (cy hya))) ?_ b5⟩⟩;rw[oq];omega
 refine yI (decide (way=7)) (λ Q' q=>tst 7 _ Q' rfl q) (λ _=>?_) (λ _=>?_)
 ·exact⟨_,rfl,_,rfl,p,t,rfl,b4,ta,by omega,λ z M5 hz lz b5 g5=>k z M5 hz (by omega) b5⟩
 exact⟨_,rfl,k t _ ta (by omega) b4⟩
def kU:SpD:=λ ws M Q=>∃ ns:List Int,ws=[.d (.list (ns.map PyData.int))]/\ns.length<=63/\∀ M',Q (.d (.bool true)) M'
theorem aep:∀ ws M Q,kU ws M Q->ws.length=1:=by rintro ws M Q ⟨d,rfl,_⟩;rfl
theorem aa4:∀ ns:List Int,ns.length<=63->kU [.d (.list (ns.map PyData.int))] (λ _=>none) (λ w _=>w=.d (.bool true)):=λ ns h=>⟨ns,rfl,h,λ _=>rfl⟩
theorem qR(hg:∀ d∈L,Gd d):rowsOf (df L)=L.map tx/\restOf (df L) = "":= by
 unfold rowsOf restOf;rw[vq hg];exact⟨List.dropLast_concat,by simp⟩
theorem adH(hg:∀ d∈L,Gd d):rsL (L.map tx)=L:=by
 unfold rsL;rw[List.map_map]
 conv=>rhs;rw[<- List.map_id L]
 refine List.map_congr_left λ d hd=>?_;show abN (tx d)=d;unfold abN;rw[(hg d hd).res];rfl
theorem ac3(hg:∀ d∈L,Gd d):(rsL (rowsOf (df L))).findIdx? isN=none:=by rw[(qR hg).1];refine zh λ j y hy=>?_;obtain⟨d,hd,rfl⟩:=gM hy;rw[(hg d (List.mem_of_getElem? hd)).res];intro z;cases z
theorem aaC(hg:∀ d∈L,Gd d):dW (df L)=true:=by
 have e:df L=nlT (L.map tx):=by unfold df nlT;rw[List.map_map];rfl
 rw[e];refine acB λ y hy=>?_;obtain⟨d,hd,rfl⟩:=List.mem_map.mp hy;exact(hg d hd).asc
def odL(t:Str)(L:List PyData):List PyData:=[.none,.int 5,.bool true,.list [.str t],.tuple [.str t],.list L,.dict []]
theorem afv:∀ d∈odL t L,gF d "str" = false:=by intro d hd;simp only[odL,List.mem_cons,List.not_mem_nil,or_false] at hd;rcases hd with rfl | rfl | rfl | rfl | rfl | rfl | rfl<;>simp[gF,tyD]
theorem adR:told (.str "\n\n")=fR 0:=i7 (by decide +kernel)
theorem adf:told (.str "back a\n\n")=fR 1:=i7 (by decide +kernel)
theorem aeF:told (.str "\n")=fR 0:=i7 (by decide +kernel)
theorem ahS:Od (.str "\n\n"):=pF (by decide +kernel) (by decide +kernel)
theorem aiJ:Od (.str "back a\n\n"):=pF (by decide +kernel) (by decide +kernel)
theorem ai2:Od (.str "\n"):=pF (by decide +kernel) (by decide +kernel)
theorem acs(n:Nat)(h:n<=6000):dR (fR n) (fR n)=true/\PyData.eqv (fR n) (fR n)=true:=by have ok:=jD n h;refine⟨?_,nr ok⟩;have:=gk (by decide) ok;simp only[fR,dR] at this ⊢;rw[this];rfl
theorem abg:∀ ws M Q,kU ws M Q->agL e9 dE az bX bM aP cA cB eV {nx:=λ _ M'=>Q (.d .none) M',rt:=Q} (aT agg ws) M:=by
 rintro ws M Q ⟨ns,rfl,hl,k⟩;have sl:=s16;refine⟨_,rfl,ns,rfl,by omega,λ p M1 _ f1 b1=>?_⟩;refine⟨_,rfl,by omega,by omega,?_⟩;refine⟨λ i τ M'=>Bag M' p/\∃ x0 y2 y3 y4 y5 y6 y7 y8 y9 y10,τ=[x0,some (.m p),y2,y3,y4,y5,y6,y7,y8,y9,y10],⟨b1,_,_,_,_,_,_,_,_,_,_,rfl⟩,?_,?_⟩
 ·rintro i w τ M' hw ⟨b,x0,y2,y3,y4,y5,y6,y7,y8,y9,y10,rfl⟩;refine⟨_,rfl,p,9,rfl,b,by decide,by decide,λ r M2 r0 r1 b2 f2=>⟨_,rfl,by omega,by omega,?_⟩⟩;dsimp only;refine⟨λ i acc τ M'=>Bag M' p/\acc.length<=i/\(∀ d∈acc,Gd d)/\∃ y,τ=[y,some (.m p)],⟨b2,Nat.le_refl _,(λ _ h=>nomatch h),_,rfl⟩,?_,?_⟩
  ·rintro i w acc τ M' hw ⟨b,hal,hg,y,rfl⟩;obtain⟨hi,rfl⟩:=zr hw;refine⟨by omega,_,rfl,p,rfl,b,λ x hx ds M2 hld hv b2 f2=>⟨_,rfl,b2,by simp;omega,λ d hd=>?_,_,rfl⟩⟩;rcases List.mem_append.mp hd with hd | hd
   ·exact hg d hd
   ·rw[List.mem_singleton.mp hd];exact⟨x,hx,ds,rfl,hld,hv⟩
  rintro L τ0 M3 ⟨b3,hal,hg,y,rfl⟩;have hL:L.length<=8:=by
   have:(jQ 0 r.toNat).length=r.toNat:=by simp[jQ]
   omega
  clear hal;have gl:GL L:=λ d hd=>.inr (hg d hd);have rok:=gl.repr (by omega);have hsl:=aaQ hg;have has:=aaC hg;have rokS:fy (.str (df L))=true:=xr (k:=1) (by decide) (by simp only[okD];exact has) (by simp only[big];omega);refine⟨_,rfl,_,rfl,?_⟩;refine gv L (λ d=>W.d d) (λ d=>.str (tx d)) (λ τ=>∃ y,τ=[y]) (by omega) ⟨_,rfl⟩ (λ d hd τ hτ R h=>?_) (λ τ=>?_)
  ·obtain⟨y,rfl⟩:=hτ;have go:=h [some (.d d)] ⟨_,rfl⟩;obtain⟨x,hx,ds,rfl,hl,hv⟩:=hg d hd;exact⟨_,rfl,x,hx,ds,rfl,hl,hv,_,rfl,go⟩
  refine⟨⟨_,rfl⟩,_,rfl,_,rfl,?_⟩;rw[List.map_map];refine gv L (W.d ∘ λ d=>PyData.str (tx d)) (λ d=>.str (tx d ++ "\n")) (λ τ=>∃ y, τ=[y]) (by omega) ⟨_, rfl⟩ (λ d hd τ hτ R h=>?_) (λ τ=>?_)
  ·obtain⟨y, rfl⟩:=hτ;have:=(hg d hd).len;have e1:("\n" : Str).length=1:=by decide +kernel
   exact⟨_, rfl, .inr ⟨_, _, rfl, rfl, by rw[e1];omega, _, rfl, h _ ⟨_, rfl⟩⟩⟩
  have e0:("" : Str).length=0:=by decide +kernel
  refine⟨"", L.map λ d=>tx d ++ "\n", rfl, by rw[List.map_map];rfl, by have:=xR L hg;rw[e0];omega, ?_⟩;have et:Txt.join "" (L.map λ d=>tx d++("\n" : Str))=df L:=rfl;rw[et];refine⟨_, rfl, _, _, rfl, .l, λ f hf=>⟨f, L, rfl, aA, ?_⟩⟩;have x4:=sealed (o:=.lst (L.map W.d)) hf;generalize wU (cn M3 f (.lst (L.map W.d))) f=M4 at x4;have b4:=Ext.bag x4 b3;have okL:=gl.ok;have eqL:dR (.list L) (.list L)=true:=by simp only[dR, gk (by decide) okL, Bool.and_self]
  refine⟨_, rfl, L, rfl, by omega, hg, _, _, rfl, .d, rokS, _, rfl, _, _, rfl, .d, rokS, _, _, .d, .d, rfl, _, rfl, eI (x8 _) ⟨_, rfl, _, rfl, _, _, .d, .d, eqL, _, rfl, eI (by rw[nr okL];rfl) ?_⟩⟩;obtain⟨er, es⟩:=qR hg;refine⟨_, rfl, .str (df L), rfl, ⟨(λ hs=>by rw[show gF (.str (df L)) "str" = true from lb _] at hs;cases hs), λ z e=>?_, λ z e hf hr q M5 hq mq x5=>?_, λ z e n hf=>?_, λ z e hf hr=>?_⟩⟩
  ·cases e;exact⟨has, by omega, by rw[er, List.length_map];omega⟩
  rotate_left
  ·cases e;rw[ac3 hg] at hf;cases hf
  ·cases e;exact absurd es hr
  cases e;rw[er, adH hg] at mq;have b5:=Ext.bag x5 b4;have qp:q≠p:=λ e=>by obtain⟨_, _, _, _, z, _⟩:=b4;rw[e, z] at hq;cases hq
  refine⟨_, rfl, _, _, rfl, .l mq, rok, _, rfl, _, _, rfl, .d, rok, _, _, .d, .d, rfl, _, rfl, eI (x8 _) ?_⟩;refine⟨_, rfl, q, _, rfl, mq, _, rfl, few (by simp), _, mq, by simp;omega, ?_⟩;have b6:Bag (cn M5 q (.lst (L.map W.d++[.d (.tuple [.str "back", .str "a"])]))) p:=ff b5 (aR qp.symm);generalize cn M5 q (.lst (L.map W.d++[.d (.tuple [.str "back", .str "a"])]))=M6 at b6;refine⟨_,rfl,_,rfl,⟨p,L.map tx,by rw[List.map_map];rfl,by rw[List.length_map];exact hL,λ y hy=>?_,b6,λ z M7 hz lz b7=>?_⟩⟩
  ·obtain⟨d,hd,rfl⟩:=List.mem_map.mp hy;exact⟨(hg d hd).asc,(hg d hd).len⟩
  refine⟨_,rfl,_,rfl,few (by simp),_,rfl,_,rfl,few (by simp),_,rfl,_,rfl,few (by simp),_,rfl,p,7,rfl,b7,by decide,by decide,λ r M8 r0 r1 b8 g8=>?_⟩;obtain⟨d,ed,hd⟩:=yD (M:=M8) (ds:=odL (df L) L) r0 (by simpa [odL] using r1);have od:=afv d hd;refine⟨r,_,rfl,ed,rfl,?_⟩;refine⟨_,rfl,_,rfl,_,rfl,_,rfl,_,rfl,_,rfl,few (by simp),_,rfl,?_⟩;have o1:=pF hz lz;have o2:Od (.str (df L)):=pF has (by omega);have o3:Od d:=.inl od;refine⟨λ j τ M'=>Bag M' p/\∃ x0 y2 y3 y4 y5 y6 y7 y8 y9 y10,τ=[x0,some (.m p),y2,y3,y4,y5,y6,y7,y8,y9,y10],⟨b8,_,_,_,_,_,_,_,_,_,_,rfl⟩,?_,λ τ M' h=>h⟩;rintro j w τ M9 hw ⟨b9,x0,y2,y3,y4,y5,y6,y7,y8,y9,y10,rfl⟩;obtain⟨t,rfl,ot⟩:∃ t,w=.d t/\Od t:=by
   obtain⟨t,ht,rfl⟩:=gM hw;have hm:=List.mem_of_getElem? ht;simp only[List.mem_cons,List.not_mem_nil,or_false] at hm;rcases hm with rfl | rfl | rfl | rfl | rfl
   ·exact⟨_,rfl,o1⟩
   ·exact⟨_,rfl,o2⟩
   ·exact⟨_,rfl,o3⟩
   ·exact⟨_,rfl,o1⟩
   ·exact⟨_,rfl,o2⟩
  have te:=ac0 ot;exact⟨_,rfl,t,rfl,ot,λ M10 x10=>⟨_,rfl,t,rfl,ot,λ M11 x11=>⟨_,_,.d,.d,te.1,_,rfl,eI te.2 ⟨Ext.bag x11 (Ext.bag x10 b9),_,_,_,_,_,_,_,_,_,_,rfl⟩⟩⟩⟩
 ·rintro τ M2 ⟨b2,x0,y2,y3,y4,y5,y6,y7,y8,y9,y10,rfl⟩;have r0:=acs 0 (by omega);have r1:=acs 1 (by omega);refine⟨_,rfl,ahS,λ M3 x3=>?_⟩;rw[adR];refine⟨_,rfl,few (by simp),_,_,.d,.d,r0.1,_,rfl,eI (by rw[show PyData.eqv (fR 0) (.tuple [.str "refused",.int 0])=true from r0.2];rfl) ?_⟩;refine⟨_,rfl,aiJ,λ M4 x4=>?_⟩;rw[adf];refine⟨_,rfl,few (by simp),_,_,.d,.d,r1.1,_,rfl,eI (by rw[show PyData.eqv (fR 1) (.tuple [.str "refused",.int 1])=true from r1.2];rfl) ?_⟩;have e1:rowsOf "" = []:=by decide +kernel
  have e2:restOf "" = "":= by decide +kernel
  refine⟨.str "",rfl,⟨(λ hs=>by rw[show gF (.str "") "str" = true from lb _] at hs;cases hs),λ z e=>?_,λ z e hf hr q M5 hq mq x5=>?_,λ z e n hf=>?_,λ z e hf hr=>?_⟩⟩
  ·cases e;exact⟨by decide +kernel,by decide +kernel,by rw[e1];decide⟩
  rotate_left
  ·cases e;rw[e1] at hf;cases hf
  ·cases e;exact absurd e2 hr
  cases e;rw[e1] at mq;have o0:okD 1 (.list [])=true:=rfl;refine⟨_,rfl,few (by simp),_,_,.l (ds:=[]) mq,.d,by simp only[dR,gk (by decide) o0,Bool.and_self],_,rfl,?_⟩;rw[nr o0];refine fV ⟨_,rfl,ai2,λ M6 x6=>?_⟩;rw[aeF];refine⟨_,rfl,few (by simp),_,_,.d,.d,r0.1,?_⟩;rw[show PyData.eqv (fR 0) (.tuple [.str "refused",.int 0])=true from r0.2];exact k _
end K16
namespace K16
open L2 D Stc
def top(i:Nat):Stmt:=PySem.Challenge.pw_placedworks_k16_lists_of_deeds.main.body.getD i (.Pass ⟨0,0,0,0⟩)
abbrev ku:Stmt:=top 29
abbrev gm:Stmt:=top 32
abbrev iA:Stmt:=top 30
abbrev ft:Stmt:=top 34
abbrev il:Stmt:=top 31
abbrev fA:Stmt:=top 33
abbrev iF:Stmt:=top 35
abbrev iz:Stmt:=top 36
abbrev eQ:Stmt:=top 41
abbrev eF:Stmt:=top 42
abbrev dM:Stmt:=top 21
abbrev eN:Stmt:=top 20
abbrev dA:Stmt:=top 22
abbrev cE:Stmt:=inClass (top 15) 0
abbrev cZ:Stmt:=top 25
abbrev eC:Stmt:=top 24
abbrev gj:Stmt:=top 4
abbrev fv:Stmt:=top 2
abbrev eS:Stmt:=top 3
abbrev gf:Stmt:=top 10
abbrev eK:Stmt:=top 11
abbrev f7:Stmt:=top 9
abbrev cP:Stmt:=top 23
abbrev cO:Stmt:=top 26
abbrev bZ:Stmt:=top 27
abbrev hJ:Stmt:=top 45
abbrev fw:Stmt:=top 48
abbrev ij:Stmt:=top 47
abbrev cW:Stmt:=top 43
abbrev eD:Stmt:=top 37
abbrev eE:Stmt:=top 38
abbrev hZ:Stmt:=top 39
abbrev ip:Stmt:=top 40
abbrev ix:Stmt:=top 44
abbrev lI:Stmt:=top 46
abbrev ou:Stmt:=top 49
structure Env(w:World)(K:FG)(mg:Str->Option Value):Prop where
 m_BadRow:mg "BadRow" = some (.ref iw)
 m_NoRow:mg "NoRow" = some (.ref aN)
 m_NoText:mg "NoText" = some (.ref aV)
 m_PlaceError:mg "PlaceError" = some (.ref cT)
 m_read_deed:mg "read_deed" = some (.ref dr)
 x_NoRow:XO.XC K aN
 x_NoText:XO.XC K aV
 e_NoRow_NoRow:W.exmOne K (.ref aN) (.ref aN)=some true
 e_NoText_PlaceError:W.exmOne K (.ref aV) (.ref cT)=some true
 i_NoRow_BadRow_NoText:W.kitAny K (.ref aN) [.ref iw,.ref aV]=some false
 i_NoRow_PlaceError:W.kitAny K (.ref aN) [.ref cT]=some true
 i_NoRow_ValueError:W.kitAny K (.ref aN) [.type "ValueError"]=some true
 xk_NoText:W.keepIn K (.ref aV)=true
 xn_NoText:XO.xno K aV=true
 xt_NoText:W.typeIn K (.ref aV)=some (.type "type")
 m_BOUNDS:mg "BOUNDS" = some (.ref hV)
 m_ENDING_SORTS:mg "ENDING_SORTS" = some (.ref dw)
 m_PARTS:mg "PARTS" = some (.ref kD)
 k_BOUNDS:jx w K hV fF
 k_PARTS:jx w K kD f9
 t_ENDING_SORTS:sr K (.ref dw) (.tuple [.str "wish",.str "store",.str "door",.str "rule"])=true
 n_NoRow_at:qD K aN "at"
 b_ValueError:mg "ValueError" = none
 b_abs:mg "abs" = none
 b_all:mg "all" = none
 b_bool:mg "bool" = none
 b_enumerate:mg "enumerate" = none
 b_int:mg "int" = none
 b_isinstance:mg "isinstance" = none
 b_len:mg "len" = none
 b_list:mg "list" = none
 b_max:mg "max" = none
 b_min:mg "min" = none
 b_range:mg "range" = none
 b_repr:mg "repr" = none
 b_sorted:mg "sorted" = none
 b_str:mg "str" = none
 b_tuple:mg "tuple" = none
 b_zip:mg "zip" = none
 c_FIGURES:∃ t,mg "FIGURES" = some (.str "0123456789" t)
 c_LONGEST_WORD:∃ t,mg "LONGEST_WORD" = some (.int 8 t)
 c_MOST_FIGURES:∃ t,mg "MOST_FIGURES" = some (.int 10 t)
section
variable (P:Program)(w:World)(K:FG)(mg:Str->Option Value)(base:Heap)
abbrev yU:=ZZ P w K mg base (Fn K mg "_law_bag" ku ["_law_script"]) 1 ["_law_script"] e9
abbrev iB:=ZZ P w K mg base (Fn K mg "_law_codes" gm []) 1 [] bf
abbrev eW:=ZZ P w K mg base (Fn K mg "_law_take" iA ["_law_bag_here", "_law_many"]) 1 ["_law_bag_here", "_law_many"] az
abbrev iZ:=ZZ P w K mg base (Fn K mg "_law_number" ft ["_law_bag_here", "_law_low", "_law_high"]) 2 ["_law_bag_here", "_law_low", "_law_high"] bu
abbrev uP:=ZZ P w K mg base (Fn K mg "_law_word" il ["_law_bag_here"]) 2 ["_law_bag_here"] de
abbrev iV:=ZZ P w K mg base (Fn K mg "_law_bounds" fA ["_law_code"]) 1 ["_law_code"] bw
abbrev uI:=ZZ P w K mg base (Fn K mg "_law_part" iF ["_law_bag_here", "_law_code"]) 3 ["_law_bag_here", "_law_code"] dH
abbrev uo:=ZZ P w K mg base (Fn K mg "_law_deed" iz ["_law_bag_here"]) 4 ["_law_bag_here"] dE
abbrev lD:=ZZ P w K mg base (Fn K mg "_law_figures" eQ ["_law_number_here"]) 1 ["_law_number_here"] bY
abbrev jR:=ZZ P w K mg base (Fn K mg "_law_written" eF ["_law_thing"]) 2 ["_law_thing"] bX
abbrev jd:=ZZ P w K mg base (Fn K mg "show_parts" dM ["parts"]) 1 ["parts"] bN
abbrev jM:=ZZ P w K mg base (Fn K mg "show_deed" eN ["deed"]) 2 ["deed"] cb
abbrev je:=ZZ P w K mg base (Fn K mg "show_deeds" dA ["deeds"]) 3 ["deeds"] bM
abbrev g9:=ZZ P w K mg base (Fn K mg "read_number" cZ ["text"]) 1 ["text"] bB
abbrev qF:=ZZ P w K mg base (Fn K mg "is_word" gj ["thing"]) 1 ["thing"] cG
abbrev mX:=ZZ P w K mg base (Fn K mg "is_whole" fv ["thing"]) 1 ["thing"] bI
abbrev jN:=ZZ P w K mg base (Fn K mg "is_within" eS ["thing", "low", "high"]) 2 ["thing", "low", "high"] bP
abbrev qI:=ZZ P w K mg base (Fn K mg "is_part" gf ["form", "part"]) 3 ["form", "part"] cU
abbrev jV:=ZZ P w K mg base (Fn K mg "keep_fits" eK ["forms", "deed"]) 1 ["forms", "deed"] cm
abbrev tP:=ZZ P w K mg base (Fn K mg "_law_bent" hJ ["_law_bag_here", "_law_text"]) 2 ["_law_bag_here", "_law_text"] cY
abbrev mT:=ZZ P w K mg base (Fn K mg "_law_spoilt" fw ["_law_bag_here", "_law_rows"]) 3 ["_law_bag_here", "_law_rows"] cA
abbrev uH:=ZZ P w K mg base (Fn K mg "_law_told" ij ["_law_thing"]) 8 ["_law_thing"] cB
abbrev ia:=ZZ P w K mg base (Fn K mg "_law_number_in" cW ["_law_text"]) 1 ["_law_text"] bE
abbrev lC:=ZZ P w K mg base (Fn K mg "_law_is_word" eD ["_law_thing"]) 1 ["_law_thing"] bV
abbrev ki:=ZZ P w K mg base (Fn K mg "_law_between" eE ["_law_thing", "_law_low", "_law_high"]) 1 ["_law_thing", "_law_low", "_law_high"] bD
abbrev tI:=ZZ P w K mg base (Fn K mg "_law_fits" hZ ["_law_code", "_law_thing", "_law_ahead"]) 2 ["_law_code", "_law_thing", "_law_ahead"] dP
abbrev tR:=ZZ P w K mg base (Fn K mg "_law_good" ip ["_law_thing"]) 3 ["_law_thing"] dN
abbrev uO:=ZZ P w K mg base (Fn K mg "_law_read" ix ["_law_text"]) 4 ["_law_text"] dO
abbrev yZ:=ZZ P w K mg base (Fn K mg "_law_due" lI ["_law_thing"]) 5 ["_law_thing"] eV
end
section
variable {P:Program}{w:World}{K:FG}{mg:Str->Option Value}{base:Heap}
theorem ahH:(["_law_cell"]:List Str).Nodup:=by decide +kernel
theorem abr:aK w9 ["_law_script"] (ao ku):=⟨rfl,rfl,rfl,by decide +kernel,rfl,by decide +kernel,by decide +kernel⟩
theorem aa3{f:Addr}{fd:FuncData}(E:Env w K mg)(F:Fn K mg "_law_bag" ku ["_law_script"] f fd) :
  cQ P w K mg base CX0 1 f fd ["_law_script"] (eX K e9):=by
 refine bC (t:=xb) F.fn abr zX (λ cdv A outer s H E' hr=>?_) u7;refine Jd.h ?_;exact ag (ak (jH (av (ah) (av (ah) (av (ah) (av (gA rfl (tX (own:=(["_law_cell"]:List Str)) (fr:=[]) rfl) (bF (aQ (dvQ 0) (aS) (aO (ah)))) (λ _ _ _ _ _ _=>aI (i:=0) ahH rfl (Or.inl rfl)) (λ _ _ _ _ _ _=>bO) (λ _ _ _ _ _ _=>dg abf ag6 rfl E.b_abs ahi (av (dvQ 0) (aa)))) (aa)))))))
theorem mU:aK pH [] (ao gm):=⟨rfl,rfl,rfl,by decide +kernel,rfl,by decide +kernel,by decide +kernel⟩
theorem vv{f:Addr}{fd:FuncData}(E:Env w K mg)(F:Fn K mg "_law_codes" gm [] f fd) :
  cQ P w K mg base CX0 1 f fd [] (eX K bf):=by
 refine bC (t:=qf) F.fn mU sM (λ cdv A outer s H E' hr=>?_) pz;refine Jd.h ?_;exact ae (aB (i:=0) mU.nd rfl (Or.inl rfl) (qm (trs:=[(dC (.d (.str "group")),dC (.d (.str "ws"))),(dC (.d (.str "wish")),dC (.d (.str "wwckth"))),(dC (.d (.str "copies")),dC (.d (.str "wck"))),(dC (.d (.str "edition")),dC (.d (.str "wth"))),(dC (.d (.str "back")),dC (.d (.str "w"))),(dC (.d (.str "rank")),dC (.d (.str "wp")))]) (bc (ai) (ai) (bc (ai) (ai) (bc (ai) (ai) (bc (ai) (ai) (bc (ai) (ai) (bc (ai) (ai) (nS))))))))) <|
  ae (cJ (aaJ (dvQ 0) (aaZ (trs:=[(dC (.d (.str "store")),dC (.d (.str "ww"))),(dC (.d (.str "door")),dC (.d (.str "ww"))),(dC (.d (.str "rule")),dC (.d (.str "wwack"))),(dC (.d (.str "empty")),dC (.d (.str "w"))),(dC (.d (.str "fill")),dC (.d (.str "w"))),(dC (.d (.str "end")),dC (.d (.str "ew")))]) (bc (ai) (ai) (bc (ai) (ai) (bc (ai) (ai) (bc (ai) (ai) (bc (ai) (ai) (bc (ai) (ai) (nS)))))))))) <|
  ag (ak (dvQ 0))
theorem fo:aK tS ["_law_bag_here", "_law_many"] (ao iA):=⟨rfl,rfl,rfl,by decide +kernel,rfl,by decide +kernel,by decide +kernel⟩
theorem wF{f:Addr}{fd:FuncData}(E:Env w K mg)(F:Fn K mg "_law_take" iA ["_law_bag_here", "_law_many"] f fd) :
  cQ P w K mg base CX0 1 f fd ["_law_bag_here", "_law_many"] (eX K az):=by
 refine bC (t:=tK) F.fn fo wb (λ cdv A outer s H E' hr=>?_) rK;refine Jd.h ?_;exact ae (aD (aw (acm hr.h) agp (aY aZ aX (dvQ 0) (ah)) (ah))
   (ae (aB (i:=2) fo.nd rfl (Or.inl rfl) (ah)) <|
   ae (aD (aw vA nc (aY aZ aX (dvQ 0) (ah)) (dg a9 cw rfl E.b_len cz (av (aY aZ aX (dvQ 0) (ah)) (aa))))
    (ag (aB (i:=2) fo.nd rfl (Or.inl rfl) (aY aZ aX (aY aZ aX (dvQ 0) (ah)) (aY aZ aX (dvQ 0) (ah)))))
    (au)) <|
   ae (yG (dvQ 0) (ah) (ah) afN) <|
   ae (aD (aw aiy agc (dvQ 2) (ah))
    (ag (fM (dvQ 2) (jB (dvQ 0) (ah))))
    (au)) <|
   ag (fM (aH hW fQ (aH aM aE (aH aM aE (aH jT gV (aY aZ aX (dvQ 0) (ah)) (ah)) (aH hW fQ (dvQ 2) (ah))) (aH jT gV (ah) (aY aZ aX (dvQ 0) (ah)))) (ah)) (jB (dvQ 0) (ah))))
   (au)) <|
  ae (aD (aw v3 m9 (aY aZ aX (dvQ 0) (ah)) (ah))
   (ae (aB (i:=3) fo.nd rfl (Or.inl rfl) (aH hW fQ (aY aZ aX (dvQ 0) (ah)) (dvQ 1))) <|
   ae (fM (aH rW sF (aY aZ aX (dvQ 0) (ah)) (dvQ 1)) (jB (dvQ 0) (ah))) <|
   ag (ak (dvQ 3)))
   (au)) <|
  ae (aB (i:=4) fo.nd rfl (Or.inl rfl) (aH hW fQ (aH jT gV (aH aM aE (aY aZ aX (dvQ 0) (ah)) (ah)) (ah)) (ah))) <|
  ae (aB (i:=5) fo.nd rfl (Or.inl rfl) (aH hW fQ (aH jT gV (aH hW fQ (aH jT gV (dvQ 4) (dvQ 4)) (ah)) (ah)) (ah))) <|
  ae (aD (aw v3 m9 (dvQ 1) (ah))
   (ag (ak (aH hW fQ (aH aM aE (aH jT gV (dvQ 5) (ah)) (dvQ 4)) (dvQ 1))))
   (au)) <|
  ag (ak (aH hW fQ (aH rW sF (dvQ 5) (ah)) (dvQ 1)))
theorem sU:aK m7 ["_law_bag_here", "_law_low", "_law_high"] (ao ft):=⟨rfl,rfl,rfl,by decide +kernel,rfl,by decide +kernel,by decide +kernel⟩
theorem sO{f:Addr}{fd:FuncData}(E:Env w K mg)(F:Fn K mg "_law_number" ft ["_law_bag_here", "_law_low", "_law_high"] f fd)(z_l_take:eW P w K mg base) :
  cQ P w K mg base CX0 2 f fd ["_law_bag_here", "_law_low", "_law_high"] (eX K bu):=by
 obtain⟨_,_,G_l_take,O_l_take⟩:=z_l_take;refine bC (t:=mz az) F.fn sU p6 (λ cdv A outer s H E' hr=>?_) oh;refine Jd.h ?_;exact ag (ak (aY aZ aX (fg (av (dvQ 1) (av (dvQ 2) (av (aH aM aE (dvQ 1) (dy O_l_take (hr.mono (by decide)) rfl G_l_take.mg G_l_take.fn.kp G_l_take.bd (av (dvQ 0) (av (aH aM aE (aH kF gS (dvQ 2) (dvQ 1)) (ah)) (aa))))) (aa))))) (dg (xw rfl) adb rfl E.b_min agE (av (ah) (av (dy O_l_take (hr.mono (by decide)) rfl G_l_take.mg G_l_take.fn.kp G_l_take.bd (av (dvQ 0) (av (ah) (aa)))) (aa))))))
theorem ait:(["_law_k", "_law_letters", "_law_bag_here"]:List Str).Nodup:=by decide +kernel
theorem jO:aK oI ["_law_bag_here"] (ao il):=⟨rfl,rfl,rfl,by decide +kernel,rfl,by decide +kernel,by decide +kernel⟩
theorem xO{f:Addr}{fd:FuncData}(E:Env w K mg)(F:Fn K mg "_law_word" il ["_law_bag_here"] f fd)(z_l_take:eW P w K mg base) :
  cQ P w K mg base CX0 2 f fd ["_law_bag_here"] (eX K de):=by
 obtain⟨_,_,G_l_take,O_l_take⟩:=z_l_take;refine bC (t:=n9 az) F.fn jO vJ (λ cdv A outer s H E' hr=>?_) tq;refine Jd.h ?_;exact ae (aB (i:=1) jO.nd rfl (Or.inl rfl) (fg (av (ai) (av (ai) (av (ai) (av (ai) (av (ai) (av (ai) (av (ai) (av (ai) (av (ai) (av (ai) (aa))))))))))))) <|
  ae (aB (i:=2) jO.nd rfl (Or.inr rfl) (ai)) <|
  ae (aD (aw v3 m9 (dy O_l_take (hr.mono (by decide)) rfl G_l_take.mg G_l_take.fn.kp G_l_take.bd (av (dvQ 0) (av (ah) (aa)))) (ah))
   (ag (ak (aY aZ aX (dvQ 1) (dy O_l_take (hr.mono (by decide)) rfl G_l_take.mg G_l_take.fn.kp G_l_take.bd (av (dvQ 0) (av (ah) (aa)))))))
   (au)) <|
  ag (ak (iu (ai) (gA rfl (tX (own:=(["_law_k"]:List Str)) (fr:=[2,0]) rfl) (fJ rfl E.b_range (av (aH aM aE (ah) (dy O_l_take (hr.mono (by decide)) rfl G_l_take.mg G_l_take.fn.kp G_l_take.bd (av (dvQ 0) (av (ah) (aa))))) (aa))) (λ _ _ _ _ _ _=>aI (i:=0) ait rfl (Or.inl rfl)) (λ _ _ _ _ _ _=>bO) (λ _ _ _ _ _ _=>aY aZ aX (dvQ 1) (dy O_l_take (hr.mono (by decide)) rfl G_l_take.mg G_l_take.fn.kp G_l_take.bd (av (dvQ 2) (av (ah) (aa))))))))
theorem sH:aK my ["_law_code"] (ao fA):=⟨rfl,rfl,rfl,by decide +kernel,rfl,by decide +kernel,by decide +kernel⟩
theorem rE{f:Addr}{fd:FuncData}(E:Env w K mg)(F:Fn K mg "_law_bounds" fA ["_law_code"] f fd) :
  cQ P w K mg base CX0 1 f fd ["_law_code"] (eX K bw):=by
 refine bC (t:=mO) F.fn sH pj (λ cdv A outer s H E' hr=>?_) oV;refine Jd.h ?_;exact ag (ak (ue (abo hr) (qm (trs:=[(dC (.d (.str "s")),iI (af (dC (.d (.int 1))) (af (dC (.d (.int 9))) (aF)))),(dC (.d (.str "c")),iI (af (dC (.d (.int 0))) (af (dC (.d (.int 6))) (aF)))),(dC (.d (.str "k")),iI (af (dC (.d (.int 0))) (af (dC (.d (.int 5))) (aF)))),(dC (.d (.str "t")),iI (af (dC (.d (.int 0))) (af (dC (.d (.int 2))) (aF)))),(dC (.d (.str "h")),iI (af (dC (.d (.int 1))) (af (dC (.d (.int 3))) (aF)))),(dC (.d (.str "p")),iI (af (dC (.d (.int 0))) (af (dC (.d (.int 7))) (aF)))),(dC (.d (.str "a")),iI (af (dC (.d (.int 1))) (af (dC (.d (.int 20))) (aF))))]) (bc (ai) (cp (av (ah) (av (ah) (aa)))) (bc (ai) (cp (av (ah) (av (ah) (aa)))) (bc (ai) (cp (av (ah) (av (ah) (aa)))) (bc (ai) (cp (av (ah) (av (ah) (aa)))) (bc (ai) (cp (av (ah) (av (ah) (aa)))) (bc (ai) (cp (av (ah) (av (ah) (aa)))) (bc (ai) (cp (av (ah) (av (ah) (aa)))) (nS))))))))) (dvQ 0)))
theorem jP:aK tM ["_law_bag_here", "_law_code"] (ao iF):=⟨rfl,rfl,rfl,by decide +kernel,rfl,by decide +kernel,by decide +kernel⟩
theorem xW{f:Addr}{fd:FuncData}(E:Env w K mg)(F:Fn K mg "_law_part" iF ["_law_bag_here", "_law_code"] f fd)(z_l_word:uP P w K mg base)(z_l_take:eW P w K mg base)(z_l_bounds:iV P w K mg base)(z_l_number:iZ P w K mg base) :
  cQ P w K mg base CX0 3 f fd ["_law_bag_here", "_law_code"] (eX K dH):=by
 obtain⟨_,_,G_l_word,O_l_word⟩:=z_l_word;obtain⟨_,_,G_l_take,O_l_take⟩:=z_l_take;obtain⟨_,_,G_l_bounds,O_l_bounds⟩:=z_l_bounds;obtain⟨_,_,G_l_number,O_l_number⟩:=z_l_number;refine bC (t:=uK de az bw bu) F.fn jP v7 (λ cdv A outer s H E' hr=>?_) se;refine Jd.h ?_;exact ae (aD (aw (cu hr.h) bt (dvQ 1) (ai))
   (ag (ak (dy O_l_word (hr.mono (by decide)) rfl G_l_word.mg G_l_word.fn.kp G_l_word.bd (av (dvQ 0) (aa)))))
   (au)) <|
  ae (aD (aw (cu hr.h) bt (dvQ 1) (ai))
   (ag (ak (aY aZ aX (fg (av (ai) (av (ai) (av (ai) (av (ai) (aa)))))) (dy O_l_take (hr.mono (by decide)) rfl G_l_take.mg G_l_take.fn.kp G_l_take.bd (av (dvQ 0) (av (ah) (aa)))))))
   (au)) <|
  ae (fM (dy O_l_bounds (hr.mono (by decide)) rfl G_l_bounds.mg G_l_bounds.fn.kp G_l_bounds.bd (av (dvQ 1) (aa))) (fN rfl (bp (aI (i:=2) jP.nd rfl (Or.inl rfl)) (bp (aI (i:=3) jP.nd rfl (Or.inl rfl)) (eP))))) <|
  ag (ak (dy O_l_number (hr.mono (by decide)) rfl G_l_number.mg G_l_number.fn.kp G_l_number.bd (av (dvQ 0) (av (dvQ 2) (av (dvQ 3) (aa))))))
theorem fX:aK tJ ["_law_bag_here"] (ao iz):=⟨rfl,rfl,rfl,by decide +kernel,rfl,by decide +kernel,by decide +kernel⟩
theorem zt{f:Addr}{fd:FuncData}(E:Env w K mg)(F:Fn K mg "_law_deed" iz ["_law_bag_here"] f fd)(z_l_codes:iB P w K mg base)(z_l_take:eW P w K mg base)(z_l_number:iZ P w K mg base)(z_l_part:uI P w K mg base) :
  cQ P w K mg base CX0 4 f fd ["_law_bag_here"] (eX K dE):=by
 obtain⟨_,_,G_l_codes,O_l_codes⟩:=z_l_codes;obtain⟨_,_,G_l_take,O_l_take⟩:=z_l_take;obtain⟨_,_,G_l_number,O_l_number⟩:=z_l_number;obtain⟨_,_,G_l_part,O_l_part⟩:=z_l_part;refine bC (t:=uv bf az bu dH) F.fn fX vn (λ cdv A outer s H E' hr=>?_) rH;refine Jd.h ?_;exact ae (aB (i:=1) fX.nd rfl (Or.inl rfl) (kH O_l_codes (hr.mono (by decide)) rfl G_l_codes.mg G_l_codes.fn.kp G_l_codes.bd)) <|
  ae (aB (i:=2) fX.nd rfl (Or.inl rfl) (aY aZ aX (uh (dg (qy rfl) abR rfl E.b_sorted zD (av (dvQ 1) (aa)))) (dy O_l_take (hr.mono (by decide)) rfl G_l_take.mg G_l_take.fn.kp G_l_take.bd (av (dvQ 0) (av (ah) (aa)))))) <|
  ae (aB (i:=3) fX.nd rfl (Or.inl rfl) (jH (av (dvQ 2) (aa)))) <|
  ae (e8 PassesOwn.never rfl (bF (ue (abo hr) (dvQ 1) (dvQ 2))) (aI (i:=4) fX.nd rfl (Or.inl rfl))
   (ag (aD (aw (cu hr.h) bt (dvQ 4) (ai))
    (ag (cJ (d5 (dvQ 3) (dy O_l_number (hr.mono (by decide)) rfl G_l_number.mg G_l_number.fn.kp G_l_number.bd (av (dvQ 0) (av (ah) (av (dg (kP rfl) rV rfl E.b_max zN (av (ah) (av (aH kF gS (aY aZ aX (dvQ 3) (p5 rg kg (ah))) (ah)) (aa)))) (aa))))))))
    (ag (cJ (d5 (dvQ 3) (dy O_l_part (hr.mono (by decide)) rfl G_l_part.mg G_l_part.fn.kp G_l_part.bd (av (dvQ 0) (av (dvQ 4) (aa)))))))))) <|
  ag (ak (acv d3 gG rfl E.b_tuple gJ (av (dvQ 3) (aa))))
theorem fc:aK k7 ["_law_number_here"] (ao eQ):=⟨rfl,rfl,rfl,by decide +kernel,rfl,by decide +kernel,by decide +kernel⟩
theorem qG{f:Addr}{fd:FuncData}(E:Env w K mg)(F:Fn K mg "_law_figures" eQ ["_law_number_here"] f fd) :
  cQ P w K mg base CX0 1 f fd ["_law_number_here"] (eX K bY):=by
 refine bC (t:=jS) F.fn fc nO (λ cdv A outer s H E' hr=>?_) l7;refine Jd.h ?_;exact ae (aB (i:=1) fc.nd rfl (Or.inl rfl) (ai)) <|
  ae (vz PassesOwn.never (aw v3 m9 (dvQ 0) (ah))
   (ae (aB (i:=1) fc.nd rfl (Or.inl rfl) (aH aM aE (aY aZ aX (ai) (aH hW fQ (dvQ 0) (ah))) (dvQ 1))) <|
   ag (aB (i:=0) fc.nd rfl (Or.inl rfl) (aH rW sF (dvQ 0) (ah))))) <|
  ag (ak (aH aM aE (aY aZ aX (ai) (dvQ 0)) (dvQ 1)))
theorem dF:aK kj ["_law_thing"] (ao eF):=⟨rfl,rfl,rfl,by decide +kernel,rfl,by decide +kernel,by decide +kernel⟩
theorem pT{f:Addr}{fd:FuncData}(E:Env w K mg)(F:Fn K mg "_law_written" eF ["_law_thing"] f fd)(z_l_figures:lD P w K mg base) :
  cQ P w K mg base CX0 2 f fd ["_law_thing"] (eX K bX):=by
 obtain⟨_,_,G_l_figures,O_l_figures⟩:=z_l_figures;refine bC (t:=lu bY) F.fn dF oQ (λ cdv A outer s H E' hr=>?_) l9;refine Jd.h ?_;exact ae (aB (i:=1) dF.nd rfl (Or.inl rfl) (aY aZ aX (dvQ 0) (ah))) <|
  ae (e8 PassesOwn.never rfl (bF (aQ (dvQ 0) (aO (ah)) (aS))) (aI (i:=2) dF.nd rfl (Or.inl rfl))
   (ag (aD (bQ (dg bx cI rfl E.b_isinstance aL (av (dvQ 2) (av (bT rfl E.b_str gC) (aa)))))
    (ag (aB (i:=1) dF.nd rfl (Or.inl rfl) (aH aM aE (aH aM aE (dvQ 1) (ai)) (dvQ 2))))
    (ag (aB (i:=1) dF.nd rfl (Or.inl rfl) (aH aM aE (aH aM aE (dvQ 1) (ai)) (dy O_l_figures (hr.mono (by decide)) rfl G_l_figures.mg G_l_figures.fn.kp G_l_figures.bd (av (dvQ 2) (aa))))))))) <|
  ag (ak (dvQ 1))
theorem aiZ:(["part"]:List Str).Nodup:=by decide +kernel
theorem oM:aK jf ["parts"] (ao dM):=⟨rfl,rfl,rfl,by decide +kernel,rfl,by decide +kernel,by decide +kernel⟩
theorem nX{f:Addr}{fd:FuncData}(E:Env w K mg)(F:Fn K mg "show_parts" dM ["parts"] f fd) :
  cQ P w K mg base CX0 1 f fd ["parts"] (eX K bN):=by
 refine bC (t:=jk) F.fn oM lS (λ cdv A outer s H E' hr=>?_) jX;refine Jd.h ?_;exact ag (ak (iu (ai) (gA rfl (tX (own:=(["part"]:List Str)) (fr:=[]) rfl) (bF (dvQ 0)) (λ _ _ _ _ _ _=>aI (i:=0) aiZ rfl (Or.inl rfl)) (λ _ _ _ _ _ _=>bO) (λ _ _ _ _ _ _=>acv zK afl rfl E.b_str gC (av (dvQ 0) (aa))))))
theorem rj:aK kE ["deed"] (ao eN):=⟨rfl,rfl,rfl,by decide +kernel,rfl,by decide +kernel,by decide +kernel⟩
theorem rm{f:Addr}{fd:FuncData}(E:Env w K mg)(F:Fn K mg "show_deed" eN ["deed"] f fd)(z_show_parts:jd P w K mg base) :
  cQ P w K mg base CX0 2 f fd ["deed"] (eX K cb):=by
 obtain⟨_,_,G_show_parts,O_show_parts⟩:=z_show_parts;refine bC (t:=lK bN) F.fn rj o8 (λ cdv A outer s H E' hr=>?_) lQ;refine Jd.h ?_;exact ag (ak (dy O_show_parts (hr.mono (by decide)) rfl G_show_parts.mg G_show_parts.fn.kp G_show_parts.bd (av (dvQ 0) (aa))))
theorem aiC:(["deed"]:List Str).Nodup:=by decide +kernel
theorem nI:aK jn ["deeds"] (ao dA):=⟨rfl,rfl,rfl,by decide +kernel,rfl,by decide +kernel,by decide +kernel⟩
theorem nC{f:Addr}{fd:FuncData}(E:Env w K mg)(F:Fn K mg "show_deeds" dA ["deeds"] f fd)(z_show_deed:jM P w K mg base) :
  cQ P w K mg base CX0 3 f fd ["deeds"] (eX K bM):=by
 obtain⟨_,_,G_show_deed,O_show_deed⟩:=z_show_deed;refine bC (t:=jc cb) F.fn nI lW (λ cdv A outer s H E' hr=>?_) ko;refine Jd.h ?_;exact ag (ak (iu (ai) (gA rfl (tX (own:=(["deed"]:List Str)) (fr:=[]) rfl) (bF (dvQ 0)) (λ _ _ _ _ _ _=>aI (i:=0) aiC rfl (Or.inl rfl)) (λ _ _ _ _ _ _=>bO) (λ _ _ _ _ _ _=>aH aM aE (dy O_show_deed (hr.mono (by decide)) rfl G_show_deed.mg G_show_deed.fn.kp G_show_deed.bd (av (dvQ 0) (aa))) (ai)))))
theorem nJ:aK qX ["self", "at"] (ao cE):=⟨rfl,rfl,rfl,by decide +kernel,rfl,by decide +kernel,by decide +kernel⟩
theorem nZ{f:Addr}{fd:FuncData}(E:Env w K mg)(F:Xi K aN "NoRow.__init__" cE ["self", "at"] f fd):qY P w K mg base CX0 1 f fd ["self", "at"] (yn aN ["at"]):=ahf F.fn nJ F.xm.xc E.n_NoRow_at rfl (λ _=>rfl) rfl rfl
theorem ahJ:(["sign"]:List Str).Nodup:=by decide +kernel
theorem l6:aK iH ["text"] (ao cZ):=⟨rfl,rfl,rfl,by decide +kernel,rfl,by decide +kernel,by decide +kernel⟩
theorem lY{f:Addr}{fd:FuncData}(E:Env w K mg)(F:Fn K mg "read_number" cZ ["text"] f fd) :
  cQ P w K mg base CX0 1 f fd ["text"] (eX K bB):=by
 refine bC (t:=iE) F.fn l6 kN (λ cdv A outer s H E' hr=>?_) jw;refine Jd.h ?_;exact ae (aD (bL (mY gB eG gB eG (ah) (dg a9 cw rfl E.b_len cz (av (dvQ 0) (aa))) (qL rfl (E.c_MOST_FIGURES).choose_spec)))
   (ag (ak (da)))
   (au)) <|
  ae (aD (bL (bQ (dg (hR rfl) uw rfl E.b_all ug (av (gA rfl (tX (own:=(["sign"]:List Str)) (fr:=[]) rfl) (bF (dvQ 0)) (λ _ _ _ _ _ _=>aI (i:=0) ahJ rfl (Or.inl rfl)) (λ _ _ _ _ _ _=>bO) (λ _ _ _ _ _ _=>gu zG sV (dvQ 0) (zJ rfl (E.c_FIGURES).choose_spec))) (aa)))))
   (ag (ak (da)))
   (au)) <|
  ae (aD (dS (jF (aw (cu hr.h) bt (aY aZ aX (dvQ 0) (ah)) (ai)) (ib (aw (fB hr.h) du (dvQ 0) (ai)))))
   (ag (ak (da)))
   (au)) <|
  ag (ak (acv wx aeC rfl E.b_int xJ (av (dvQ 0) (aa))))
theorem pU:aK lH ["form", "text"] (ao eC):=⟨rfl,rfl,rfl,by decide +kernel,rfl,by decide +kernel,by decide +kernel⟩
theorem qj{f:Addr}{fd:FuncData}(E:Env w K mg)(F:Fn K mg "read_part" eC ["form", "text"] f fd)(z_read_number:g9 P w K mg base) :
  cQ P w K mg base CX0 2 f fd ["form", "text"] (eX K cf):=by
 obtain⟨_,_,G_read_number,O_read_number⟩:=z_read_number;refine bC (t:=lq bB) F.fn pU nA (λ cdv A outer s H E' hr=>?_) lT;refine Jd.h ?_;exact ag (ak (zi (abF rfl E.m_BOUNDS E.k_BOUNDS (dvQ 0)) (dy O_read_number (hr.mono (by decide)) rfl G_read_number.mg G_read_number.fn.kp G_read_number.bd (av (dvQ 1) (aa))) (dvQ 1)))
theorem ai3:(["sign"]:List Str).Nodup:=by decide +kernel
theorem vo:aK j9 ["thing"] (ao gj):=⟨rfl,rfl,rfl,by decide +kernel,rfl,by decide +kernel,by decide +kernel⟩
theorem vG{f:Addr}{fd:FuncData}(E:Env w K mg)(F:Fn K mg "is_word" gj ["thing"] f fd) :
  cQ P w K mg base CX0 1 f fd ["thing"] (eX K cG):=by
 refine bC (t:=kY) F.fn vo sv (λ cdv A outer s H E' hr=>?_) q8;refine Jd.h ?_;exact ae (aD (dS (cD (bL (bQ (dg bx cI rfl E.b_isinstance aL (av (dvQ 0) (av (bT rfl E.b_str gC) (aa)))))) (cM (bL (mY gB eG gB eG (ah) (dg a9 cw rfl E.b_len cz (av (dvQ 0) (aa))) (qL rfl (E.c_LONGEST_WORD).choose_spec))))))
   (ag (ak (fU)))
   (au)) <|
  ag (ak (dg (hR rfl) uw rfl E.b_all ug (av (gA rfl (tX (own:=(["sign"]:List Str)) (fr:=[]) rfl) (bF (dvQ 0)) (λ _ _ _ _ _ _=>aI (i:=0) ai3 rfl (Or.inl rfl)) (λ _ _ _ _ _ _=>bO) (λ _ _ _ _ _ _=>lh gB eG gB eG (ai) (dvQ 0) (ai))) (aa))))
theorem rR:aK iN ["thing"] (ao fv):=⟨rfl,rfl,rfl,by decide +kernel,rfl,by decide +kernel,by decide +kernel⟩
theorem sG{f:Addr}{fd:FuncData}(E:Env w K mg)(F:Fn K mg "is_whole" fv ["thing"] f fd) :
  cQ P w K mg base CX0 1 f fd ["thing"] (eX K bI):=by
 refine bC (t:=iP) F.fn rR qh (λ cdv A outer s H E' hr=>?_) nz;refine Jd.h ?_;exact ag (ak (fZ (dg bx cI rfl E.b_isinstance aL (av (dvQ 0) (av (bT rfl E.b_int xJ) (aa)))) (f6 (yE (dg bx cI rfl E.b_isinstance aL (av (dvQ 0) (av (bT rfl E.b_bool yT) (aa))))))))
theorem p9:aK gO ["thing", "low", "high"] (ao eS):=⟨rfl,rfl,rfl,by decide +kernel,rfl,by decide +kernel,by decide +kernel⟩
theorem pX{f:Addr}{fd:FuncData}(E:Env w K mg)(F:Fn K mg "is_within" eS ["thing", "low", "high"] f fd)(z_is_whole:mX P w K mg base) :
  cQ P w K mg base CX0 2 f fd ["thing", "low", "high"] (eX K bP):=by
 obtain⟨_,_,G_is_whole,O_is_whole⟩:=z_is_whole;refine bC (t:=gU bI) F.fn p9 oe (λ cdv A outer s H E' hr=>?_) l8;refine Jd.h ?_;exact ag (ak (fZ (dy O_is_whole (hr.mono (by decide)) rfl G_is_whole.mg G_is_whole.fn.kp G_is_whole.bd (av (dvQ 0) (aa))) (f6 (lh gB eG gB eG (dvQ 1) (dvQ 0) (dvQ 2)))))
theorem iT:aK rf ["form", "part"] (ao gf):=⟨rfl,rfl,rfl,by decide +kernel,rfl,by decide +kernel,by decide +kernel⟩
theorem vw{f:Addr}{fd:FuncData}(E:Env w K mg)(F:Fn K mg "is_part" gf ["form", "part"] f fd)(z_is_word:qF P w K mg base)(z_is_within:jN P w K mg base) :
  cQ P w K mg base CX0 3 f fd ["form", "part"] (eX K cU):=by
 obtain⟨_,_,G_is_word,O_is_word⟩:=z_is_word;obtain⟨_,_,G_is_within,O_is_within⟩:=z_is_within;refine bC (t:=p7 cG bP) F.fn iT s9 (λ cdv A outer s H E' hr=>?_) qA;refine Jd.h ?_;exact ae (aD (aw (cu hr.h) bt (dvQ 0) (ai))
   (ag (ak (dy O_is_word (hr.mono (by decide)) rfl G_is_word.mg G_is_word.fn.kp G_is_word.bd (av (dvQ 1) (aa)))))
   (au)) <|
  ae (aD (aw (cu hr.h) bt (dvQ 0) (ai))
   (ag (ak (fZ (dg bx cI rfl E.b_isinstance aL (av (dvQ 1) (av (bT rfl E.b_str gC) (aa)))) (f6 (gu (zl hr.h) r9 (dvQ 1) (xD rfl E.m_ENDING_SORTS E.t_ENDING_SORTS))))))
   (au)) <|
  ae (fM (ae5 rfl E.m_BOUNDS E.k_BOUNDS (dvQ 0)) (fN rfl (bp (aI (i:=2) iT.nd rfl (Or.inl rfl)) (bp (aI (i:=3) iT.nd rfl (Or.inl rfl)) (eP))))) <|
  ag (ak (dy O_is_within (hr.mono (by decide)) rfl G_is_within.mg G_is_within.fn.kp G_is_within.bd (av (dvQ 1) (av (dvQ 2) (av (dvQ 3) (aa))))))
theorem gz:aK k9 ["forms", "deed"] (ao eK):=⟨rfl,rfl,rfl,by decide +kernel,rfl,by decide +kernel,by decide +kernel⟩
theorem qQ{f:Addr}{fd:FuncData}(E:Env w K mg)(F:Fn K mg "keep_fits" eK ["forms", "deed"] f fd) :
  cQ P w K mg base CX0 1 f fd ["forms", "deed"] (eX K cm):=by
 refine bC (t:=lG) F.fn gz oY (λ cdv A outer s H E' hr=>?_) l5;refine Jd.h ?_;exact ae (aB (i:=2) gz.nd rfl (Or.inl rfl) (aY aZ aX (dvQ 1) (aH aM aE (q9 hr (dvQ 0) (ai)) (ah)))) <|
  ae (aB (i:=3) gz.nd rfl (Or.inl rfl) (aY aZ aX (dvQ 1) (aH aM aE (q9 hr (dvQ 0) (ai)) (ah)))) <|
  ag (ak (gu gB eG (dvQ 3) (dg (kP rfl) rV rfl E.b_max zN (av (aH kF gS (dvQ 2) (ah)) (av (ah) (aa))))))
theorem gK:aK qw ["thing"] (ao f7):=⟨rfl,rfl,rfl,by decide +kernel,rfl,by decide +kernel,by decide +kernel⟩
theorem va{f:Addr}{fd:FuncData}(E:Env w K mg)(F:Fn K mg "is_deed" f7 ["thing"] f fd)(z_is_part:qI P w K mg base)(z_keep_fits:jV P w K mg base) :
  cQ P w K mg base CX0 4 f fd ["thing"] (eX K cV):=by
 obtain⟨_,_,G_is_part,O_is_part⟩:=z_is_part;obtain⟨_,_,G_keep_fits,O_keep_fits⟩:=z_keep_fits;refine bC (t:=pW cU cm) F.fn gK rC (λ cdv A outer s H E' hr=>?_) qU;refine Jd.h ?_;exact ae (aD (dS (cD (bL (bQ (dg bx cI rfl E.b_isinstance aL (av (dvQ 0) (av (bT rfl E.b_tuple gJ) (aa)))))) (cD (bL (vg (dvQ 0))) (cM (bL (bQ (dg bx cI rfl E.b_isinstance aL (av (aY aZ aX (dvQ 0) (ah)) (av (bT rfl E.b_str gC) (aa))))))))))
   (ag (ak (fU)))
   (au)) <|
  ae (aB (i:=1) gK.nd rfl (Or.inl rfl) (tD rfl E.m_PARTS E.k_PARTS (aY aZ aX (dvQ 0) (ah)))) <|
  ae (aD (dS (cD (aw tG nF (dvQ 1) (da)) (cM (aw (fB hr.h) du (dg a9 cw rfl E.b_len cz (av (dvQ 0) (aa))) (aH aM aE (dg a9 cw rfl E.b_len cz (av (dvQ 1) (aa))) (ah))))))
   (ag (ak (fU)))
   (au)) <|
  ae (e8 PassesOwn.never rfl (zv rfl E.b_zip (av (dvQ 1) (av (aQ (dvQ 0) (aO (ah)) (aS)) (aa)))) (fN rfl (bp (aI (i:=2) gK.nd rfl (Or.inl rfl)) (bp (aI (i:=3) gK.nd rfl (Or.inl rfl)) (eP))))
   (ag (aD (bL (bQ (dy O_is_part (hr.mono (by decide)) rfl G_is_part.mg G_is_part.fn.kp G_is_part.bd (av (dvQ 2) (av (dvQ 3) (aa))))))
    (ag (ak (fU)))
    (au)))) <|
  ag (ak (afO (gu (yp hr.h) vY (ai) (dvQ 1)) (f6 (dy O_keep_fits (hr.mono (by decide)) rfl G_keep_fits.mg G_keep_fits.fn.kp G_keep_fits.bd (av (dvQ 1) (av (dvQ 0) (aa)))))))
theorem age:(["form", "part"]:List Str).Nodup:=by decide +kernel
theorem fb:aK k6 ["text"] (ao cP):=⟨rfl,rfl,rfl,by decide +kernel,rfl,by decide +kernel,by decide +kernel⟩
theorem ql{f:Addr}{fd:FuncData}(E:Env w K mg)(F:Fn K mg "read_deed" cP ["text"] f fd)
  {f_read_part:Addr}{fd_read_part:FuncData}(G_read_part:Fn K mg "read_part" eC ["form", "text"] f_read_part fd_read_part)(O_read_part:cQ P w K mg base CX0 2 f_read_part fd_read_part ["form", "text"] (eX K cf))
  {f_is_deed:Addr}{fd_is_deed:FuncData}(G_is_deed:Fn K mg "is_deed" f7 ["thing"] f_is_deed fd_is_deed)(O_is_deed:cQ P w K mg base CX0 4 f_is_deed fd_is_deed ["thing"] (eX K cV)) :
  cQ P w K mg base (CXE P w) 5 f fd ["text"] (mf K bW):=by
 refine sJ (t:=λ Ex=>jL Ex cf cV) F.fn fb oO (λ cdv A outer s H E' Ex hr hE hP=>?_) lU;refine Jd.h ?_;exact ae (aD (bL (bQ (dg bx cI rfl E.b_isinstance aL (av (dvQ 0) (av (bT rfl E.b_str gC) (aa))))))
   (ag (gP hE E.x_NoText E.xn_NoText E.xt_NoText E.xk_NoText hr rfl E.m_NoText (av (ai) (aa))))
   (au)) <|
  ae (aB (i:=1) fb.nd rfl (Or.inl rfl) (lj (dvQ 0) (ai))) <|
  ae (aB (i:=2) fb.nd rfl (Or.inl rfl) (tD rfl E.m_PARTS E.k_PARTS (aY aZ aX (dvQ 1) (ah)))) <|
  ae (aD (dS (cD (aw tG nF (dvQ 2) (da)) (cM (aw (fB hr.h) du (dg a9 cw rfl E.b_len cz (av (dvQ 1) (aa))) (aH aM aE (dg a9 cw rfl E.b_len cz (av (dvQ 2) (aa))) (ah))))))
   (ag (gP hE E.x_NoText E.xn_NoText E.xt_NoText E.xk_NoText hr rfl E.m_NoText (av (ai) (aa))))
   (au)) <|
  ae (aB (i:=3) fb.nd rfl (Or.inl rfl) (acv d3 gG rfl E.b_tuple gJ (av (adY (aQ (dvQ 1) (aS) (aO (ah))) (gA rfl (tX (own:=(["form", "part"]:List Str)) (fr:=[]) rfl) (vc rfl E.b_zip (av (dvQ 2) (av (aQ (dvQ 1) (aO (ah)) (aS)) (aa)))) (λ _ _ _ _ _ _=>fN rfl (bp (aI (i:=0) age rfl (Or.inl rfl)) (bp (aI (i:=1) age rfl (Or.inl rfl)) (eP)))) (λ _ _ _ _ _ _=>bO) (λ _ _ _ _ _ _=>dy O_read_part (hr.mono (by decide)) rfl G_read_part.mg G_read_part.fn.kp G_read_part.bd (av (dvQ 0) (av (dvQ 1) (aa)))))) (aa)))) <|
  ae (aD (bL (bQ (dy O_is_deed (hr.mono (by decide)) rfl G_is_deed.mg G_is_deed.fn.kp G_is_deed.bd (av (dvQ 3) (aa)))))
   (ag (gP hE E.x_NoText E.xn_NoText E.xt_NoText E.xk_NoText hr rfl E.m_NoText (av (ai) (aa))))
   (au)) <|
  ag (ak (dvQ 3))
theorem cR:aK lg ["text", "read"] (ao cO):=⟨rfl,rfl,rfl,by decide +kernel,rfl,by decide +kernel,by decide +kernel⟩
theorem qS{f:Addr}{fd:FuncData}(E:Env w K mg)(F:Fn K mg "read_rows" cO ["text", "read"] f fd)
  {f_NoRow_init:Addr}{fd_NoRow_init:FuncData}(G_NoRow_init:Xi K aN "NoRow.__init__" cE ["self", "at"] f_NoRow_init fd_NoRow_init)(O_NoRow_init:qY P w K mg base CX0 1 f_NoRow_init fd_NoRow_init ["self", "at"] (yn aN ["at"]))
  {f_read_deed:Addr}{fd_read_deed:FuncData}(G_read_deed:Fn K mg "read_deed" cP ["text"] f_read_deed fd_read_deed)(O_read_deed:cQ P w K mg base (CXE P w) 5 f_read_deed fd_read_deed ["text"] (mf K bW)) :
  cQ P w K mg base (CXE P w) 6 f fd ["text", "read"] (mf K ck):=by
 refine sJ (t:=λ Ex=>km Ex bW) F.fn cR oP (λ cdv A outer s H E' Ex hr hE hP=>?_) md;refine Jd.h ?_;exact ae (aD (bL (bQ (dg bx cI rfl E.b_isinstance aL (av (dvQ 0) (av (bT rfl E.b_str gC) (aa))))))
   (ag (mR hE G_NoRow_init.xm O_NoRow_init.fn (hr.mono (by decide)) rfl E.m_NoRow G_NoRow_init.bd (av (ah) (aa))))
   (au)) <|
  ae (aB (i:=2) cR.nd rfl (Or.inl rfl) (u9 (dvQ 0) (ai))) <|
  ae (aB (i:=3) cR.nd rfl (Or.inl rfl) (aeh (dvQ 2))) <|
  ae (aB (i:=4) cR.nd rfl (Or.inl rfl) (jH (aa))) <|
  ae (sd (e8 hP rfl (vU rfl E.b_enumerate (av (dvQ 2) (aa))) (fN rfl (bp (aI (i:=5) cR.nd rfl (Or.inl rfl)) (bp (aI (i:=6) cR.nd rfl (Or.inl rfl)) (eP))))
   (ag (ud rfl rfl (λ _ _ _ _ hE hP =>
    ag (cJ (d5 (dvQ 4) (ail hE O_read_deed (hr.mono (by decide)) E.m_read_deed G_read_deed.mg G_read_deed.fn.kp G_read_deed.bd (dvQ 1) (av (dvQ 6) (aa)))))) (adW hE (λ _=>PassesOwnAt.leavingOf (SameStack.mark _ _)) rfl E.m_PlaceError (m8.cons E.e_NoText_PlaceError (m8.nil)) (λ xa hEx =>
    ag (sQ rfl (by simp) rfl hEx G_NoRow_init.xm O_NoRow_init ((hr.h.mark _).mono (by decide)) rfl E.m_NoRow G_NoRow_init.bd (av (dvQ 5) (aa)))) (tV)))))) <|
  ae (aD (aw (fB hr.h) du (dvQ 3) (ai))
   (ag (mR hE G_NoRow_init.xm O_NoRow_init.fn (hr.mono (by decide)) rfl E.m_NoRow G_NoRow_init.bd (av (dg a9 cw rfl E.b_len cz (av (dvQ 2) (aa))) (aa))))
   (au)) <|
  ag (ak (dvQ 4))
theorem nB:aK jg ["text"] (ao bZ):=⟨rfl,rfl,rfl,by decide +kernel,rfl,by decide +kernel,by decide +kernel⟩
theorem oG{f:Addr}{fd:FuncData}(E:Env w K mg)(F:Fn K mg "read_deeds" bZ ["text"] f fd)
  {f_read_rows:Addr}{fd_read_rows:FuncData}(G_read_rows:Fn K mg "read_rows" cO ["text", "read"] f_read_rows fd_read_rows)(O_read_rows:cQ P w K mg base (CXE P w) 6 f_read_rows fd_read_rows ["text", "read"] (mf K ck)) :
  cQ P w K mg base (CXE P w) 7 f fd ["text"] (mf K aP):=by
 refine sJ (t:=λ Ex=>jh Ex ck) F.fn nB lP (λ cdv A outer s H E' Ex hr hE hP=>?_) lF;refine Jd.h ?_;exact ag (ak (ahx hE O_read_rows (hr.mono (by decide)) rfl G_read_rows.mg G_read_rows.fn.kp G_read_rows.bd (av (dvQ 0) (av (ac8 rfl E.m_read_deed) (aa)))))
theorem eO:aK uF ["_law_bag_here", "_law_text"] (ao hJ):=⟨rfl,rfl,rfl,by decide +kernel,rfl,by decide +kernel,by decide +kernel⟩
theorem yH{f:Addr}{fd:FuncData}(E:Env w K mg)(F:Fn K mg "_law_bent" hJ ["_law_bag_here", "_law_text"] f fd)(z_l_take:eW P w K mg base) :
  cQ P w K mg base CX0 2 f fd ["_law_bag_here", "_law_text"] (eX K cY):=by
 obtain⟨_,_,G_l_take,O_l_take⟩:=z_l_take;refine bC (t:=uB az) F.fn eO vI (λ cdv A outer s H E' hr=>?_) sW;refine Jd.h ?_;exact ae (aB (i:=2) eO.nd rfl (Or.inl rfl) (ai)) <|
  ae (aB (i:=3) eO.nd rfl (Or.inl rfl) (aY aZ aX (dvQ 2) (dy O_l_take (hr.mono (by decide)) rfl G_l_take.mg G_l_take.fn.kp G_l_take.bd (av (dvQ 0) (av (dg a9 cw rfl E.b_len cz (av (dvQ 2) (aa))) (aa)))))) <|
  ae (aB (i:=4) eO.nd rfl (Or.inl rfl) (dy O_l_take (hr.mono (by decide)) rfl G_l_take.mg G_l_take.fn.kp G_l_take.bd (av (dvQ 0) (av (aH aM aE (dg a9 cw rfl E.b_len cz (av (dvQ 1) (aa))) (ah)) (aa))))) <|
  ae (aB (i:=5) eO.nd rfl (Or.inl rfl) (dy O_l_take (hr.mono (by decide)) rfl G_l_take.mg G_l_take.fn.kp G_l_take.bd (av (dvQ 0) (av (ah) (aa))))) <|
  ae (aD (aw vA nc (dvQ 5) (ah))
   (ag (ak (aH aM aE (aH aM aE (aQ (dvQ 1) (aS) (aO (dvQ 4))) (dvQ 3)) (aQ (dvQ 1) (aO (dvQ 4)) (aS)))))
   (au)) <|
  ae (aD (aw (cu hr.h) bt (dvQ 5) (ah))
   (ag (ak (aH aM aE (aH aM aE (aQ (dvQ 1) (aS) (aO (dvQ 4))) (dvQ 3)) (aQ (dvQ 1) (aO (aH aM aE (dvQ 4) (ah))) (aS)))))
   (au)) <|
  ae (aD (aw (cu hr.h) bt (dvQ 5) (ah))
   (ag (ak (aH aM aE (aQ (dvQ 1) (aS) (aO (dvQ 4))) (aQ (dvQ 1) (aO (aH aM aE (dvQ 4) (ah))) (aS)))))
   (au)) <|
  ae (aD (aw (cu hr.h) bt (dvQ 5) (ah))
   (ag (ak (aH aM aE (aH aM aE (aQ (dvQ 1) (aS) (aO (dvQ 4))) (aaK (aQ (dvQ 1) (aO (dvQ 4)) (aO (aH aM aE (dvQ 4) (ah)))) (aO (p5 rg kg (ah))))) (aQ (dvQ 1) (aO (aH aM aE (dvQ 4) (ah))) (aS)))))
   (au)) <|
  ae (aD (aw (cu hr.h) bt (dvQ 5) (ah))
   (ag (ak (aH aM aE (aH aM aE (aQ (dvQ 1) (aS) (aO (dvQ 4))) (ai)) (aQ (dvQ 1) (aO (dvQ 4)) (aS)))))
   (au)) <|
  ae (aB (i:=6) eO.nd rfl (Or.inl rfl) (aQ (dvQ 1) (aO (dvQ 4)) (aS))) <|
  ae (aB (i:=7) eO.nd rfl (Or.inl rfl) (aH aM aE (abw (dvQ 6) (ai)) (ah))) <|
  ag (ak (aH aM aE (aH aM aE (aQ (dvQ 1) (aS) (aO (dvQ 4))) (aH ad1 aaF (aQ (dvQ 6) (aS) (aO (dvQ 7))) (ah))) (aQ (dvQ 6) (aO (dvQ 7)) (aS))))
theorem ahC:(["_law_row"]:List Str).Nodup:=by decide +kernel
theorem eL:aK ni ["_law_bag_here", "_law_rows"] (ao fw):=⟨rfl,rfl,rfl,by decide +kernel,rfl,by decide +kernel,by decide +kernel⟩
theorem rJ{f:Addr}{fd:FuncData}(E:Env w K mg)(F:Fn K mg "_law_spoilt" fw ["_law_bag_here", "_law_rows"] f fd)(z_l_take:eW P w K mg base)(z_l_bent:tP P w K mg base) :
  cQ P w K mg base CX0 3 f fd ["_law_bag_here", "_law_rows"] (eX K cA):=by
 obtain⟨_,_,G_l_take,O_l_take⟩:=z_l_take;obtain⟨_,_,G_l_bent,O_l_bent⟩:=z_l_bent;refine bC (t:=mj az cY) F.fn eL qb (λ cdv A outer s H E' hr=>?_) ow;refine Jd.h ?_;exact ae (aB (i:=1) eL.nd rfl (Or.inl rfl) (acv ja pY rfl E.b_list zT (av (dvQ 1) (aa)))) <|
  ae (aB (i:=2) eL.nd rfl (Or.inl rfl) (dy O_l_take (hr.mono (by decide)) rfl G_l_take.mg G_l_take.fn.kp G_l_take.bd (av (dvQ 0) (av (ah) (aa))))) <|
  ae (aB (i:=3) eL.nd rfl (Or.inl rfl) (dy O_l_take (hr.mono (by decide)) rfl G_l_take.mg G_l_take.fn.kp G_l_take.bd (av (dvQ 0) (av (aH aM aE (dg a9 cw rfl E.b_len cz (av (dvQ 1) (aa))) (ah)) (aa))))) <|
  ae (aD (dS (jF (aw vA nc (dvQ 2) (ah)) (ib (aw vA nc (dvQ 3) (dg a9 cw rfl E.b_len cz (av (dvQ 1) (aa)))))))
   (ag (fM (dy O_l_bent (hr.mono (by decide)) rfl G_l_bent.mg G_l_bent.fn.kp G_l_bent.bd (av (dvQ 0) (av (aY aZ aX (dvQ 1) (dvQ 3)) (aa)))) (jB (dvQ 1) (dvQ 3))))
   (ag (aD (aw (cu hr.h) bt (dvQ 2) (ah))
    (ag (cJ (iK (dvQ 1) (av (dvQ 3) (av (ai) (aa))))))
    (ag (aD (dS (jF (aw (cu hr.h) bt (dvQ 2) (ah)) (ib (aw vA nc (dvQ 3) (dg a9 cw rfl E.b_len cz (av (dvQ 1) (aa)))))))
     (ag (cJ (iK (dvQ 1) (av (dvQ 3) (av (aY aZ aX (dvQ 1) (dvQ 3)) (aa))))))
     (ag (aD (aw (cu hr.h) bt (dvQ 2) (ah))
      (ag (cJ (iK (dvQ 1) (av (dvQ 3) (av (aY aZ aX (fg (av (ai) (av (ai) (av (ai) (av (ai) (av (ai) (av (ai) (aa)))))))) (dy O_l_take (hr.mono (by decide)) rfl G_l_take.mg G_l_take.fn.kp G_l_take.bd (av (dvQ 0) (av (ah) (aa))))) (aa))))))
      (au)))))))) <|
  ae (aB (i:=4) eL.nd rfl (Or.inl rfl) (iu (ai) (vj (gA rfl (tX (own:=(["_law_row"]:List Str)) (fr:=[]) rfl) (rZ (dvQ 1)) (λ _ _ _ _ _ _=>aI (i:=0) ahC rfl (Or.inl rfl)) (λ _ _ _ _ _ _=>bO) (λ _ _ _ _ _ _=>aH aM aE (dvQ 0) (ai)))))) <|
  ae (aD (aw (cu hr.h) bt (dvQ 2) (ah))
   (ag (ak (aQ (dvQ 4) (aS) (aO (p5 rg kg (ah))))))
   (au)) <|
  ae (aD (aw (cu hr.h) bt (dvQ 2) (ah))
   (ag (ak (aH aM aE (dvQ 4) (aY aZ aX (fg (av (ai) (av (ai) (av (ai) (av (ai) (aa)))))) (dy O_l_take (hr.mono (by decide)) rfl G_l_take.mg G_l_take.fn.kp G_l_take.bd (av (dvQ 0) (av (ah) (aa))))))))
   (au)) <|
  ae (aD (aw (cu hr.h) bt (dvQ 2) (ah))
   (ag (ak (dy O_l_bent (hr.mono (by decide)) rfl G_l_bent.mg G_l_bent.fn.kp G_l_bent.bd (av (dvQ 0) (av (dvQ 4) (aa))))))
   (au)) <|
  ag (ak (dvQ 4))
theorem p8:aK ua ["_law_thing"] (ao ij):=⟨rfl,rfl,rfl,by decide +kernel,rfl,by decide +kernel,by decide +kernel⟩
theorem za{f:Addr}{fd:FuncData}(E:Env w K mg)(F:Fn K mg "_law_told" ij ["_law_thing"] f fd)
  {f_read_deeds:Addr}{fd_read_deeds:FuncData}(G_read_deeds:Fn K mg "read_deeds" bZ ["text"] f_read_deeds fd_read_deeds)(O_read_deeds:cQ P w K mg base (CXE P w) 7 f_read_deeds fd_read_deeds ["text"] (mf K aP)) :
  cQ P w K mg base CX0 8 f fd ["_law_thing"] (eX K cB):=by
 refine bC (t:=tU aP) F.fn p8 vZ (λ cdv A outer s H E' hr=>?_) sZ;refine Jd.h ?_;exact ag (ud rfl rfl (λ _ _ _ _ hE hP =>
   ag (ak (cp (av (ai) (av (dg (d6 hr.h) gH rfl E.b_repr iQ (av (ahx hE O_read_deeds (hr.mono (by decide)) rfl G_read_deeds.mg G_read_deeds.fn.kp G_read_deeds.bd (av (dvQ 0) (aa))) (aa))) (aa)))))) (afn (i:=1) rfl E.m_NoRow (m8.cons E.e_NoRow_NoRow (m8.nil)) p8.nd rfl rfl rfl (λ _ =>
   ae (aD (dS (cD (bL (bQ (aaN E.b_isinstance (m8.cons ⟨E.x_NoRow,E.i_NoRow_PlaceError⟩ (m8.nil)) rfl E.m_PlaceError (dvQ 1)))) (cD (bL (bQ (aaD E.b_isinstance (m8.cons ⟨E.x_NoRow,E.i_NoRow_ValueError⟩ (m8.nil)) rfl E.b_ValueError og (dvQ 1)))) (cM (bQ (aan (cs:=[.ref iw,.ref aV]) E.b_isinstance (m8.cons ⟨E.x_NoRow,E.i_NoRow_BadRow_NoText⟩ (m8.nil)) (uD rfl E.m_BadRow (uD rfl E.m_NoText (adL))) (dvQ 1)))))))
     (ag (ak (cp (av (ai) (av (ah) (aa))))))
     (au)) <|
    ag (ak (cp (av (ai) (av (aaU (acw.cons ⟨E.x_NoRow,E.n_NoRow_at⟩ (acw.nil)) (dvQ 1)) (aa)))))) (tV)))
theorem dv:aK fG ["_law_text"] (ao cW):=⟨rfl,rfl,rfl,by decide +kernel,rfl,by decide +kernel,by decide +kernel⟩
theorem lR{f:Addr}{fd:FuncData}(E:Env w K mg)(F:Fn K mg "_law_number_in" cW ["_law_text"] f fd) :
  cQ P w K mg base CX0 1 f fd ["_law_text"] (eX K bE):=by
 refine bC (t:=iG) F.fn dv kB (λ cdv A outer s H E' hr=>?_) jv;refine Jd.h ?_;exact ae (aD (dS (cD (aw (cu hr.h) bt (dvQ 0) (ai)) (cD (aw v3 m9 (dg a9 cw rfl E.b_len cz (av (dvQ 0) (aa))) (ah)) (cM (dS (jF (aw (cu hr.h) bt (dg a9 cw rfl E.b_len cz (av (dvQ 0) (aa))) (ah)) (ib (aw (cu hr.h) bt (aY aZ aX (dvQ 0) (ah)) (ai)))))))))
   (ag (ak (da)))
   (au)) <|
  ae (aB (i:=1) dv.nd rfl (Or.inl rfl) (ah)) <|
  ae (e8 PassesOwn.never rfl (bF (dvQ 0)) (aI (i:=2) dv.nd rfl (Or.inl rfl))
   (ae (aD (aw ad4 abE (dvQ 2) (ai))
    (ag (ak (da)))
    (au)) <|
   ag (aB (i:=1) dv.nd rfl (Or.inl rfl) (aH aM aE (aH jT gV (ah) (dvQ 1)) (xE (ai) (dvQ 2)))))) <|
  ag (ak (dvQ 1))
theorem ah7:(["_law_sign"]:List Str).Nodup:=by decide +kernel
theorem pR:aK jW ["_law_thing"] (ao eD):=⟨rfl,rfl,rfl,by decide +kernel,rfl,by decide +kernel,by decide +kernel⟩
theorem pQ{f:Addr}{fd:FuncData}(E:Env w K mg)(F:Fn K mg "_law_is_word" eD ["_law_thing"] f fd) :
  cQ P w K mg base CX0 1 f fd ["_law_thing"] (eX K bV):=by
 refine bC (t:=kO) F.fn pR nG (λ cdv A outer s H E' hr=>?_) lV;refine Jd.h ?_;exact ae (aD (dS (cD (bL (bQ (dg bx cI rfl E.b_isinstance aL (av (dvQ 0) (av (bT rfl E.b_str gC) (aa)))))) (cD (aw vA nc (dg a9 cw rfl E.b_len cz (av (dvQ 0) (aa))) (ah)) (cM (aw v3 m9 (dg a9 cw rfl E.b_len cz (av (dvQ 0) (aa))) (ah))))))
   (ag (ak (fU)))
   (au)) <|
  ag (ak (dg (hR rfl) uw rfl E.b_all ug (av (gA rfl (tX (own:=(["_law_sign"]:List Str)) (fr:=[]) rfl) (bF (dvQ 0)) (λ _ _ _ _ _ _=>aI (i:=0) ah7 rfl (Or.inl rfl)) (λ _ _ _ _ _ _=>bO) (λ _ _ _ _ _ _=>gu zG sV (dvQ 0) (ai))) (aa))))
theorem pN:aK kh ["_law_thing", "_law_low", "_law_high"] (ao eE):=⟨rfl,rfl,rfl,by decide +kernel,rfl,by decide +kernel,by decide +kernel⟩
theorem qH{f:Addr}{fd:FuncData}(E:Env w K mg)(F:Fn K mg "_law_between" eE ["_law_thing", "_law_low", "_law_high"] f fd) :
  cQ P w K mg base CX0 1 f fd ["_law_thing", "_law_low", "_law_high"] (eX K bD):=by
 refine bC (t:=kT) F.fn pN oS (λ cdv A outer s H E' hr=>?_) me;refine Jd.h ?_;exact ag (ak (fZ (dg bx cI rfl E.b_isinstance aL (av (dvQ 0) (av (bT rfl E.b_int xJ) (aa)))) (fZ (yE (dg bx cI rfl E.b_isinstance aL (av (dvQ 0) (av (bT rfl E.b_bool yT) (aa))))) (f6 (lh gB eG gB eG (dvQ 1) (dvQ 0) (dvQ 2))))))
theorem kJ:aK u5 ["_law_code", "_law_thing", "_law_ahead"] (ao hZ):=⟨rfl,rfl,rfl,by decide +kernel,rfl,by decide +kernel,by decide +kernel⟩
theorem zj{f:Addr}{fd:FuncData}(E:Env w K mg)(F:Fn K mg "_law_fits" hZ ["_law_code", "_law_thing", "_law_ahead"] f fd)(z_l_is_word:lC P w K mg base)(z_l_bounds:iV P w K mg base)(z_l_between:ki P w K mg base) :
  cQ P w K mg base CX0 2 f fd ["_law_code", "_law_thing", "_law_ahead"] (eX K dP):=by
 obtain⟨_,_,G_l_is_word,O_l_is_word⟩:=z_l_is_word;obtain⟨_,_,G_l_bounds,O_l_bounds⟩:=z_l_bounds;obtain⟨_,_,G_l_between,O_l_between⟩:=z_l_between;refine bC (t:=uz bV bw bD) F.fn kJ vN (λ cdv A outer s H E' hr=>?_) sj;refine Jd.h ?_;exact ae (aD (aw (cu hr.h) bt (dvQ 0) (ai))
   (ag (ak (dy O_l_is_word (hr.mono (by decide)) rfl G_l_is_word.mg G_l_is_word.fn.kp G_l_is_word.bd (av (dvQ 1) (aa)))))
   (au)) <|
  ae (aD (aw (cu hr.h) bt (dvQ 0) (ai))
   (ag (ak (fZ (dg bx cI rfl E.b_isinstance aL (av (dvQ 1) (av (bT rfl E.b_str gC) (aa)))) (f6 (gu (zl hr.h) r9 (dvQ 1) (fg (av (ai) (av (ai) (av (ai) (av (ai) (aa)))))))))))
   (au)) <|
  ae (fM (dy O_l_bounds (hr.mono (by decide)) rfl G_l_bounds.mg G_l_bounds.fn.kp G_l_bounds.bd (av (dvQ 0) (aa))) (fN rfl (bp (aI (i:=3) kJ.nd rfl (Or.inl rfl)) (bp (aI (i:=4) kJ.nd rfl (Or.inl rfl)) (eP))))) <|
  ae (aD (aw (cu hr.h) bt (dvQ 0) (ai))
   (ag (ak (fZ (dy O_l_between (hr.mono (by decide)) rfl G_l_between.mg G_l_between.fn.kp G_l_between.bd (av (dvQ 2) (av (ah) (av (ah) (aa))))) (f6 (dy O_l_between (hr.mono (by decide)) rfl G_l_between.mg G_l_between.fn.kp G_l_between.bd (av (dvQ 1) (av (ah) (av (dg (kP rfl) rV rfl E.b_max zN (av (ah) (av (aH kF gS (dvQ 2) (ah)) (aa)))) (aa)))))))))
   (au)) <|
  ag (ak (dy O_l_between (hr.mono (by decide)) rfl G_l_between.mg G_l_between.fn.kp G_l_between.bd (av (dvQ 1) (av (dvQ 3) (av (dvQ 4) (aa))))))
theorem aiT:(["_law_k", "_law_codes_here", "_law_thing"]:List Str).Nodup:=by decide +kernel
theorem qW:aK tQ ["_law_thing"] (ao ip):=⟨rfl,rfl,rfl,by decide +kernel,rfl,by decide +kernel,by decide +kernel⟩
theorem zZ{f:Addr}{fd:FuncData}(E:Env w K mg)(F:Fn K mg "_law_good" ip ["_law_thing"] f fd)(z_l_codes:iB P w K mg base)(z_l_fits:tI P w K mg base) :
  cQ P w K mg base CX0 3 f fd ["_law_thing"] (eX K dN):=by
 obtain⟨_,_,G_l_codes,O_l_codes⟩:=z_l_codes;obtain⟨_,_,G_l_fits,O_l_fits⟩:=z_l_fits;refine bC (t:=u4 bf dP) F.fn qW wc (λ cdv A outer s H E' hr=>?_) sm;refine Jd.h ?_;exact ae (aD (dS (cD (bL (bQ (dg bx cI rfl E.b_isinstance aL (av (dvQ 0) (av (bT rfl E.b_tuple gJ) (aa)))))) (cD (aw (cu hr.h) bt (dg a9 cw rfl E.b_len cz (av (dvQ 0) (aa))) (ah)) (cM (bL (bQ (dg bx cI rfl E.b_isinstance aL (av (aY aZ aX (dvQ 0) (ah)) (av (bT rfl E.b_str gC) (aa))))))))))
   (ag (ak (fU)))
   (au)) <|
  ae (aB (i:=1) qW.nd rfl (Or.inr rfl) (ux (abo hr) (kH O_l_codes (hr.mono (by decide)) rfl G_l_codes.mg G_l_codes.fn.kp G_l_codes.bd) (aY aZ aX (dvQ 0) (ah)))) <|
  ae (aD (dS (cD (aw tG nF (dvQ 1) (da)) (cM (aw (fB hr.h) du (dg a9 cw rfl E.b_len cz (av (dvQ 1) (aa))) (aH kF gS (dg a9 cw rfl E.b_len cz (av (dvQ 0) (aa))) (ah))))))
   (ag (ak (fU)))
   (au)) <|
  ag (ak (dg (hR rfl) uw rfl E.b_all ug (av (gA rfl (tX (own:=(["_law_k"]:List Str)) (fr:=[1,0]) rfl) (fJ rfl E.b_range (av (dg a9 cw rfl E.b_len cz (av (dvQ 1) (aa))) (aa))) (λ _ _ _ _ _ _=>aI (i:=0) aiT rfl (Or.inl rfl)) (λ _ _ _ _ _ _=>bO) (λ _ _ _ _ _ _=>dy O_l_fits (hr.mono (by decide)) rfl G_l_fits.mg G_l_fits.fn.kp G_l_fits.bd (av (aY aZ aX (dvQ 1) (dvQ 0)) (av (aY aZ aX (dvQ 2) (aH aM aE (dvQ 0) (ah))) (av (aY aZ aX (dvQ 2) (dvQ 0)) (aa)))))) (aa))))
theorem fu:aK tN ["_law_text"] (ao ix):=⟨rfl,rfl,rfl,by decide +kernel,rfl,by decide +kernel,by decide +kernel⟩
theorem yF{f:Addr}{fd:FuncData}(E:Env w K mg)(F:Fn K mg "_law_read" ix ["_law_text"] f fd)(z_l_codes:iB P w K mg base)(z_l_number_in:ia P w K mg base)(z_l_good:tR P w K mg base) :
  cQ P w K mg base CX0 4 f fd ["_law_text"] (eX K dO):=by
 obtain⟨_,_,G_l_codes,O_l_codes⟩:=z_l_codes;obtain⟨_,_,G_l_number_in,O_l_number_in⟩:=z_l_number_in;obtain⟨_,_,G_l_good,O_l_good⟩:=z_l_good;refine bC (t:=uX bf bE dN) F.fn fu wa (λ cdv A outer s H E' hr=>?_) sf;refine Jd.h ?_;exact ae (aB (i:=1) fu.nd rfl (Or.inl rfl) (lj (dvQ 0) (ai))) <|
  ae (aB (i:=2) fu.nd rfl (Or.inl rfl) (ux (abo hr) (kH O_l_codes (hr.mono (by decide)) rfl G_l_codes.mg G_l_codes.fn.kp G_l_codes.bd) (aY aZ aX (dvQ 1) (ah)))) <|
  ae (aD (dS (cD (aw tG nF (dvQ 2) (da)) (cM (aw (fB hr.h) du (dg a9 cw rfl E.b_len cz (av (dvQ 2) (aa))) (aH kF gS (dg a9 cw rfl E.b_len cz (av (dvQ 1) (aa))) (ah))))))
   (ag (ak (da)))
   (au)) <|
  ae (aB (i:=3) fu.nd rfl (Or.inl rfl) (jH (av (aY aZ aX (dvQ 1) (ah)) (aa)))) <|
  ae (e8 PassesOwn.never rfl (wJ rfl E.b_zip (av (dvQ 2) (av (aQ (dvQ 1) (aO (ah)) (aS)) (aa)))) (fN rfl (bp (aI (i:=4) fu.nd rfl (Or.inl rfl)) (bp (aI (i:=5) fu.nd rfl (Or.inl rfl)) (eP))))
   (ag (aD (aw zG sV (dvQ 4) (ai))
    (ag (cJ (d5 (dvQ 3) (dvQ 5))))
    (ag (cJ (d5 (dvQ 3) (dy O_l_number_in (hr.mono (by decide)) rfl G_l_number_in.mg G_l_number_in.fn.kp G_l_number_in.bd (av (dvQ 5) (aa))))))))) <|
  ae (aD (bL (bQ (dy O_l_good (hr.mono (by decide)) rfl G_l_good.mg G_l_good.fn.kp G_l_good.bd (av (acv d3 gG rfl E.b_tuple gJ (av (dvQ 3) (aa))) (aa)))))
   (ag (ak (da)))
   (au)) <|
  ag (ak (acv d3 gG rfl E.b_tuple gJ (av (dvQ 3) (aa))))
theorem afY:(["_law_row"]:List Str).Nodup:=by decide +kernel
theorem oz:aK xv ["_law_thing"] (ao lI):=⟨rfl,rfl,rfl,by decide +kernel,rfl,by decide +kernel,by decide +kernel⟩
theorem aa0{f:Addr}{fd:FuncData}(E:Env w K mg)(F:Fn K mg "_law_due" lI ["_law_thing"] f fd)(z_l_read:uO P w K mg base) :
  cQ P w K mg base CX0 5 f fd ["_law_thing"] (eX K eV):=by
 obtain⟨_,_,G_l_read,O_l_read⟩:=z_l_read;refine bC (t:=xI dO) F.fn oz xp (λ cdv A outer s H E' hr=>?_) vh;refine Jd.h ?_;exact ae (aD (bL (bQ (dg bx cI rfl E.b_isinstance aL (av (dvQ 0) (av (bT rfl E.b_str gC) (aa))))))
   (ag (ak (cp (av (ai) (av (ah) (aa))))))
   (au)) <|
  ae (aB (i:=1) oz.nd rfl (Or.inl rfl) (lj (dvQ 0) (ai))) <|
  ae (iU (i:=2) oz.nd rfl (Or.inl rfl) rfl (tX (own:=(["_law_row"]:List Str)) (fr:=[]) rfl) (bF (aQ (dvQ 1) (aS) (aO (p5 rg kg (ah))))) (λ _ _ _ _ _ _=>aI (i:=0) afY rfl (Or.inl rfl)) (λ _ _ _ _ _ _=>bO) (λ _ _ _ _ _ _=>dy O_l_read (hr.mono (by decide)) rfl G_l_read.mg G_l_read.fn.kp G_l_read.bd (av (dvQ 0) (aa)))) <|
  ae (aD (aw (zl hr.h) r9 (da) (dvQ 2))
   (ag (ak (cp (av (ai) (av (vR hr (dvQ 2) (da)) (aa))))))
   (au)) <|
  ae (aD (aw (fB hr.h) du (aY aZ aX (dvQ 1) (p5 rg kg (ah))) (ai))
   (ag (ak (cp (av (ai) (av (aH kF gS (dg a9 cw rfl E.b_len cz (av (dvQ 1) (aa))) (ah)) (aa))))))
   (au)) <|
  ag (ak (cp (av (ai) (av (dg (d6 hr.h) gH rfl E.b_repr iQ (av (dvQ 2) (aa))) (aa)))))
theorem agP:(["_law_j", "_law_bag_here"]:List Str).Nodup:=by decide +kernel
theorem ag8:(["_law_thing"]:List Str).Nodup:=by decide +kernel
theorem afp:(["_law_row"]:List Str).Nodup:=by decide +kernel
theorem gc:aK agg ["_law_script"] (ao ou):=⟨rfl,rfl,rfl,by decide +kernel,rfl,by decide +kernel,by decide +kernel⟩
theorem af5{f:Addr}{fd:FuncData}(E:Env w K mg)(F:Fn K mg "law" ou ["_law_script"] f fd)(z_l_bag:yU P w K mg base)(z_l_deed:uo P w K mg base)(z_l_take:eW P w K mg base)(z_l_written:jR P w K mg base)(z_show_deeds:je P w K mg base)
  {f_read_deeds:Addr}{fd_read_deeds:FuncData}(G_read_deeds:Fn K mg "read_deeds" bZ ["text"] f_read_deeds fd_read_deeds)(O_read_deeds:cQ P w K mg base (CXE P w) 7 f_read_deeds fd_read_deeds ["text"] (mf K aP))(z_l_spoilt:mT P w K mg base)(z_l_told:uH P w K mg base)(z_l_due:yZ P w K mg base) :
  cQ P w K mg base CX0 9 f fd ["_law_script"] (eX K kU):=by
 obtain⟨_,_,G_l_bag,O_l_bag⟩:=z_l_bag;obtain⟨_,_,G_l_deed,O_l_deed⟩:=z_l_deed;obtain⟨_,_,G_l_take,O_l_take⟩:=z_l_take;obtain⟨_,_,G_l_written,O_l_written⟩:=z_l_written;obtain⟨_,_,G_show_deeds,O_show_deeds⟩:=z_show_deeds;obtain⟨_,_,G_l_spoilt,O_l_spoilt⟩:=z_l_spoilt;obtain⟨_,_,G_l_told,O_l_told⟩:=z_l_told;obtain⟨_,_,G_l_due,O_l_due⟩:=z_l_due;refine bC (t:=agL e9 dE az bX bM aP cA cB eV) F.fn gc aep (λ cdv A outer s H E' hr=>?_) abg;refine Jd.h ?_;exact ae (aB (i:=1) gc.nd rfl (Or.inr rfl) (dy O_l_bag (hr.mono (by decide)) rfl G_l_bag.mg G_l_bag.fn.kp G_l_bag.bd (av (dvQ 0) (aa)))) <|
  ae (e8 PassesOwn.never rfl (fJ rfl E.b_range (av (ah) (aa))) (aI (i:=2) gc.nd rfl (Or.inl rfl))
   (ae (iU (i:=3) gc.nd rfl (Or.inl rfl) rfl (tX (own:=(["_law_j"]:List Str)) (fr:=[1]) rfl) (fJ rfl E.b_range (av (dy O_l_take (hr.mono (by decide)) rfl G_l_take.mg G_l_take.fn.kp G_l_take.bd (av (dvQ 1) (av (ah) (aa)))) (aa))) (λ _ _ _ _ _ _=>aI (i:=0) agP rfl (Or.inl rfl)) (λ _ _ _ _ _ _=>bO) (λ _ _ _ _ _ _=>dy O_l_deed (hr.mono (by decide)) rfl G_l_deed.mg G_l_deed.fn.kp G_l_deed.bd (av (dvQ 1) (aa)))) <|
   ae (iU (i:=4) gc.nd rfl (Or.inl rfl) rfl (tX (own:=(["_law_thing"]:List Str)) (fr:=[]) rfl) (bF (dvQ 3)) (λ _ _ _ _ _ _=>aI (i:=0) ag8 rfl (Or.inl rfl)) (λ _ _ _ _ _ _=>bO) (λ _ _ _ _ _ _=>dy O_l_written (hr.mono (by decide)) rfl G_l_written.mg G_l_written.fn.kp G_l_written.bd (av (dvQ 0) (aa)))) <|
   ae (aB (i:=5) gc.nd rfl (Or.inl rfl) (iu (ai) (gA rfl (tX (own:=(["_law_row"]:List Str)) (fr:=[]) rfl) (bF (dvQ 4)) (λ _ _ _ _ _ _=>aI (i:=0) afp rfl (Or.inl rfl)) (λ _ _ _ _ _ _=>bO) (λ _ _ _ _ _ _=>aH aM aE (dvQ 0) (ai))))) <|
   ae (aB (i:=6) gc.nd rfl (Or.inl rfl) (uh (acv ja pY rfl E.b_list zT (av (dvQ 3) (aa))))) <|
   ae (aD (dS (cD (aw (fB hr.h) du (dg (d6 hr.h) gH rfl E.b_repr iQ (av (dy O_show_deeds (hr.mono (by decide)) rfl G_show_deeds.mg G_show_deeds.fn.kp G_show_deeds.bd (av (dvQ 6) (aa))) (aa))) (dg (d6 hr.h) gH rfl E.b_repr iQ (av (dvQ 5) (aa)))) (cM (aw (fB hr.h) du (dvQ 6) (dvQ 3)))))
    (ag (ak (fU)))
    (au)) <|
   ae (aB (i:=7) gc.nd rfl (Or.inl rfl) (ahx tW O_read_deeds (hr.mono (by decide)) rfl G_read_deeds.mg G_read_deeds.fn.kp G_read_deeds.bd (av (dvQ 5) (aa)))) <|
   ae (aD (aw (fB hr.h) du (dg (d6 hr.h) gH rfl E.b_repr iQ (av (dvQ 7) (aa))) (dg (d6 hr.h) gH rfl E.b_repr iQ (av (dvQ 3) (aa))))
    (ag (ak (fU)))
    (au)) <|
   ae (cJ (d5 (dvQ 7) (cp (av (ai) (av (ai) (aa)))))) <|
   ae (aB (i:=8) gc.nd rfl (Or.inl rfl) (dy O_l_spoilt (hr.mono (by decide)) rfl G_l_spoilt.mg G_l_spoilt.fn.kp G_l_spoilt.bd (av (dvQ 1) (av (dvQ 4) (aa))))) <|
   ae (aB (i:=9) gc.nd rfl (Or.inl rfl) (aY aZ aX (fg (av (da) (av (ah) (av (fU) (av (fg (av (dvQ 5) (aa))) (av (cp (av (dvQ 5) (aa))) (av (dvQ 3) (av (yu) (aa))))))))) (dy O_l_take (hr.mono (by decide)) rfl G_l_take.mg G_l_take.fn.kp G_l_take.bd (av (dvQ 1) (av (ah) (aa)))))) <|
   ag (e8 PassesOwn.never rfl (bF (fg (av (dvQ 8) (av (dvQ 5) (av (dvQ 9) (av (dvQ 8) (av (dvQ 5) (aa)))))))) (aI (i:=10) gc.nd rfl (Or.inl rfl))
    (ag (aD (aw (fB hr.h) du (dy O_l_told (hr.mono (by decide)) rfl G_l_told.mg G_l_told.fn.kp G_l_told.bd (av (dvQ 10) (aa))) (dy O_l_due (hr.mono (by decide)) rfl G_l_due.mg G_l_due.fn.kp G_l_due.bd (av (dvQ 10) (aa))))
     (ag (ak (fU)))
     (au)))))) <|
  ae (aD (dS (cD (aw (fB hr.h) du (dy O_l_told (hr.mono (by decide)) rfl G_l_told.mg G_l_told.fn.kp G_l_told.bd (av (ai) (aa))) (cp (av (ai) (av (ah) (aa))))) (cM (aw (fB hr.h) du (dy O_l_told (hr.mono (by decide)) rfl G_l_told.mg G_l_told.fn.kp G_l_told.bd (av (ai) (aa))) (cp (av (ai) (av (ah) (aa))))))))
   (ag (ak (fU)))
   (au)) <|
  ag (ak (fZ (gu (cu hr.h) bt (ahx tW O_read_deeds (hr.mono (by decide)) rfl G_read_deeds.mg G_read_deeds.fn.kp G_read_deeds.bd (av (ai) (aa))) (fg (aa))) (f6 (gu (cu hr.h) bt (dy O_l_told (hr.mono (by decide)) rfl G_l_told.mg G_l_told.fn.kp G_l_told.bd (av (ai) (aa))) (cp (av (ai) (av (ah) (aa))))))))
theorem all_mk{l:W.OpenLaw}{w:World}{K:FG}{h:Heap}{mg:Str->Option Value}{fa:Addr}(X:K.In h)(G:h.Ns mainGlobals mg)(hfa:mg "law" = some (.ref fa))
  (p_l_bag:PFn K "_law_bag" ku)
  (p_l_codes:PFn K "_law_codes" gm)
  (p_l_take:PFn K "_law_take" iA)
  (p_l_number:PFn K "_law_number" ft)
  (p_l_word:PFn K "_law_word" il)
  (p_l_bounds:PFn K "_law_bounds" fA)
  (p_l_part:PFn K "_law_part" iF)
  (p_l_deed:PFn K "_law_deed" iz)
  (p_l_figures:PFn K "_law_figures" eQ)
  (p_l_written:PFn K "_law_written" eF)
  (p_show_parts:PFn K "show_parts" dM)
  (p_show_deed:PFn K "show_deed" eN)
  (p_show_deeds:PFn K "show_deeds" dA)
  {f_NoRow_init:Addr}{oc_NoRow_init kV_NoRow_init dc_NoRow_init pm_NoRow_init cd_NoRow_init ct_NoRow_init:Value}{od_NoRow_init an_NoRow_init:Option Addr}{sl_NoRow_init:Array (Option Value)}
  (a_NoRow_init:W.findIn K (.ref aN) "__init__" = some (some (.ref f_NoRow_init)))(i_NoRow_init:W.typeIn K (.ref f_NoRow_init)=some (.type "function"))(l_NoRow_init:K.lookup f_NoRow_init=some ⟨oc_NoRow_init,od_NoRow_init,.func (W.fnOf "__init__" "NoRow.__init__" (bS cE) (bj cE) (ao cE) .none kV_NoRow_init dc_NoRow_init pm_NoRow_init an_NoRow_init cd_NoRow_init ct_NoRow_init),sl_NoRow_init⟩)(c_NoRow_init:W.codeIn K cd_NoRow_init "NoRow.__init__" = true)(k_NoRow_init:W.keepIn K (.ref f_NoRow_init)=true)
  (xm_NoRow_init:XO.xmk K aN=true)(xt_NoRow_init:W.typeIn K (.ref aN)=some (.type "type"))(xk_NoRow_init:W.keepIn K (.ref aN)=true)
  (p_read_number:PFn K "read_number" cZ)
  (p_read_part:PFn K "read_part" eC)
  (p_is_word:PFn K "is_word" gj)
  (p_is_whole:PFn K "is_whole" fv)
  (p_is_within:PFn K "is_within" eS)
  (p_is_part:PFn K "is_part" gf)
  (p_keep_fits:PFn K "keep_fits" eK)
  (p_is_deed:PFn K "is_deed" f7)
  {f_read_deed:Addr}{oc_read_deed kV_read_deed dc_read_deed pm_read_deed cd_read_deed ct_read_deed:Value}{od_read_deed an_read_deed:Option Addr}{sl_read_deed:Array (Option Value)}
  (a_read_deed:W.nsIn K mainGlobals "read_deed" = some (some (.ref f_read_deed)))(l_read_deed:K.lookup f_read_deed=some ⟨oc_read_deed,od_read_deed,.func (W.fnOf "read_deed" "read_deed" (bS cP) (bj cP) (ao cP) .none kV_read_deed dc_read_deed pm_read_deed an_read_deed cd_read_deed ct_read_deed),sl_read_deed⟩)(c_read_deed:W.codeIn K cd_read_deed "read_deed" = true)(k_read_deed:W.keepIn K (.ref f_read_deed)=true)
  {f_read_rows:Addr}{oc_read_rows kV_read_rows dc_read_rows pm_read_rows cd_read_rows ct_read_rows:Value}{od_read_rows an_read_rows:Option Addr}{sl_read_rows:Array (Option Value)}
  (a_read_rows:W.nsIn K mainGlobals "read_rows" = some (some (.ref f_read_rows)))(l_read_rows:K.lookup f_read_rows=some ⟨oc_read_rows,od_read_rows,.func (W.fnOf "read_rows" "read_rows" (bS cO) (bj cO) (ao cO) .none kV_read_rows dc_read_rows pm_read_rows an_read_rows cd_read_rows ct_read_rows),sl_read_rows⟩)(c_read_rows:W.codeIn K cd_read_rows "read_rows" = true)(k_read_rows:W.keepIn K (.ref f_read_rows)=true)
  {f_read_deeds:Addr}{oc_read_deeds kV_read_deeds dc_read_deeds pm_read_deeds cd_read_deeds ct_read_deeds:Value}{od_read_deeds an_read_deeds:Option Addr}{sl_read_deeds:Array (Option Value)}
  (a_read_deeds:W.nsIn K mainGlobals "read_deeds" = some (some (.ref f_read_deeds)))(l_read_deeds:K.lookup f_read_deeds=some ⟨oc_read_deeds,od_read_deeds,.func (W.fnOf "read_deeds" "read_deeds" (bS bZ) (bj bZ) (ao bZ) .none kV_read_deeds dc_read_deeds pm_read_deeds an_read_deeds cd_read_deeds ct_read_deeds),sl_read_deeds⟩)(c_read_deeds:W.codeIn K cd_read_deeds "read_deeds" = true)(k_read_deeds:W.keepIn K (.ref f_read_deeds)=true)
  (p_l_bent:PFn K "_law_bent" hJ)
  (p_l_spoilt:PFn K "_law_spoilt" fw)
  (p_l_told:PFn K "_law_told" ij)
  (p_l_number_in:PFn K "_law_number_in" cW)
  (p_l_is_word:PFn K "_law_is_word" eD)
  (p_l_between:PFn K "_law_between" eE)
  (p_l_fits:PFn K "_law_fits" hZ)
  (p_l_good:PFn K "_law_good" ip)
  (p_l_read:PFn K "_law_read" ix)
  (p_l_due:PFn K "_law_due" lI)
  {f_law:Addr}{oc_law kV_law dc_law pm_law cd_law ct_law:Value}{od_law an_law:Option Addr}{sl_law:Array (Option Value)}
  (a_law:W.nsIn K mainGlobals "law" = some (some (.ref f_law)))(l_law:K.lookup f_law=some ⟨oc_law,od_law,.func (W.fnOf "law" "law" (bS ou) (bj ou) (ao ou) .none kV_law dc_law pm_law an_law cd_law ct_law),sl_law⟩)(c_law:W.codeIn K cd_law "law" = true)(k_law:W.keepIn K (.ref f_law)=true)
  (xg_BadRow:W.nsIn K mainGlobals "BadRow" = some (some (.ref iw)))
  (xg_NoRow:W.nsIn K mainGlobals "NoRow" = some (some (.ref aN)))
  (xg_NoText:W.nsIn K mainGlobals "NoText" = some (some (.ref aV)))
  (xg_PlaceError:W.nsIn K mainGlobals "PlaceError" = some (some (.ref cT)))
  (xg_read_deed:W.nsIn K mainGlobals "read_deed" = some (some (.ref dr)))
  (xg1:W.specialIn K (.builtin "object.__class__") "__get__" = some (some (.builtin "getset_descriptor.__get__")))(xg2:W.takesIn K (.builtin "object.__class__")=some true)
  (x1_NoRow:XO.aap K aN=true)(x2_NoRow:W.findIn K (.ref aN) "__setattr__" = some (some (.builtin "object.__setattr__")))(x3_NoRow:W.findIn K (.ref aN) "__getattribute__" = some (some (.builtin "BaseException.__getattribute__")))(x4_NoRow:W.findIn K (.ref aN) "__getattr__" = some none)(x5_NoRow:W.findIn K (.ref aN) "__class__" = some (some (.builtin "object.__class__")))
  (x1_NoText:XO.aap K aV=true)(x2_NoText:W.findIn K (.ref aV) "__setattr__" = some (some (.builtin "object.__setattr__")))(x3_NoText:W.findIn K (.ref aV) "__getattribute__" = some (some (.builtin "BaseException.__getattribute__")))(x4_NoText:W.findIn K (.ref aV) "__getattr__" = some none)(x5_NoText:W.findIn K (.ref aV) "__class__" = some (some (.builtin "object.__class__")))
  (xf_e_NoRow_NoRow:W.exmOne K (.ref aN) (.ref aN)=some true)
  (xf_e_NoText_PlaceError:W.exmOne K (.ref aV) (.ref cT)=some true)
  (xf_i_NoRow_BadRow_NoText:W.kitAny K (.ref aN) [.ref iw,.ref aV]=some false)
  (xf_i_NoRow_PlaceError:W.kitAny K (.ref aN) [.ref cT]=some true)
  (xf_i_NoRow_ValueError:W.kitAny K (.ref aN) [.type "ValueError"]=some true)
  (xf_xk_NoText:W.keepIn K (.ref aV)=true)
  (xf_xn_NoText:XO.xno K aV=true)
  (xf_xt_NoText:W.typeIn K (.ref aV)=some (.type "type"))
  (gm_BOUNDS:W.nsIn K mainGlobals "BOUNDS" = some (some (.ref hV)))
  (gm_ENDING_SORTS:W.nsIn K mainGlobals "ENDING_SORTS" = some (some (.ref dw)))
  (gm_PARTS:W.nsIn K mainGlobals "PARTS" = some (some (.ref kD)))
  (ki_BOUNDS:ahs K hV fF=true)(kh_BOUNDS:hashesOf K hV=some (fF.map λ p=>PyData.keyHash w.params p.1))
  (ki_PARTS:ahs K kD f9=true)(kh_PARTS:hashesOf K kD=some (f9.map λ p=>PyData.keyHash w.params p.1))
  (tt_ENDING_SORTS:sr K (.ref dw) (.tuple [.str "wish",.str "store",.str "door",.str "rule"])=true)
  (n_NoRow_at:W.findIn K (.ref aN) "at" = some none)
  (b_ValueError:W.nsIn K mainGlobals "ValueError" = some none)
  (b_abs:W.nsIn K mainGlobals "abs" = some none)
  (b_all:W.nsIn K mainGlobals "all" = some none)
  (b_bool:W.nsIn K mainGlobals "bool" = some none)
  (b_enumerate:W.nsIn K mainGlobals "enumerate" = some none)
  (b_int:W.nsIn K mainGlobals "int" = some none)
  (b_isinstance:W.nsIn K mainGlobals "isinstance" = some none)
  (b_len:W.nsIn K mainGlobals "len" = some none)
  (b_list:W.nsIn K mainGlobals "list" = some none)
  (b_max:W.nsIn K mainGlobals "max" = some none)
  (b_min:W.nsIn K mainGlobals "min" = some none)
  (b_range:W.nsIn K mainGlobals "range" = some none)
  (b_repr:W.nsIn K mainGlobals "repr" = some none)
  (b_sorted:W.nsIn K mainGlobals "sorted" = some none)
  (b_str:W.nsIn K mainGlobals "str" = some none)
  (b_tuple:W.nsIn K mainGlobals "tuple" = some none)
  (b_zip:W.nsIn K mainGlobals "zip" = some none)
  {t_FIGURES:Tok}(g_FIGURES:W.nsIn K mainGlobals "FIGURES" = some (some (.str "0123456789" t_FIGURES)))
  {t_LONGEST_WORD:Tok}(g_LONGEST_WORD:W.nsIn K mainGlobals "LONGEST_WORD" = some (some (.int 8 t_LONGEST_WORD)))
  {t_MOST_FIGURES:Tok}(g_MOST_FIGURES:W.nsIn K mainGlobals "MOST_FIGURES" = some (some (.int 10 t_MOST_FIGURES))) :
  ∃ fd:FuncData,(∀ (s:Shared) (v:Value),BindsTo s fd ⟨[v],[]⟩ [("_law_script",v)])/\∀ base:Heap,K.In base->base.Ns mainGlobals mg->cQ l.prog w K mg base CX0 9 fa fd ["_law_script"] (eX K kU):=by
 have e:=hfa.symm.trans (W.mg_of X G a_law);cases e;have E:Env w K mg:=⟨W.mg_of X G xg_BadRow,W.mg_of X G xg_NoRow,W.mg_of X G xg_NoText,W.mg_of X G xg_PlaceError,W.mg_of X G xg_read_deed,⟨x1_NoRow,x2_NoRow,x3_NoRow,x4_NoRow,x5_NoRow,xg1,xg2⟩,⟨x1_NoText,x2_NoText,x3_NoText,x4_NoText,x5_NoText,xg1,xg2⟩,xf_e_NoRow_NoRow,xf_e_NoText_PlaceError,xf_i_NoRow_BadRow_NoText,xf_i_NoRow_PlaceError,xf_i_NoRow_ValueError,xf_xk_NoText,xf_xn_NoText,xf_xt_NoText,W.mg_of X G gm_BOUNDS,W.mg_of X G gm_ENDING_SORTS,W.mg_of X G gm_PARTS,⟨ki_BOUNDS,kh_BOUNDS,by decide +kernel,by decide⟩,⟨ki_PARTS,kh_PARTS,by decide +kernel,by decide⟩,tt_ENDING_SORTS,n_NoRow_at,W.mg_none_of X G b_ValueError,W.mg_none_of X G b_abs,W.mg_none_of X G b_all,W.mg_none_of X G b_bool,W.mg_none_of X G b_enumerate,W.mg_none_of X G b_int,W.mg_none_of X G b_isinstance,W.mg_none_of X G b_len,W.mg_none_of X G b_list,W.mg_none_of X G b_max,W.mg_none_of X G b_min,W.mg_none_of X G b_range,W.mg_none_of X G b_repr,W.mg_none_of X G b_sorted,W.mg_none_of X G b_str,W.mg_none_of X G b_tuple,W.mg_none_of X G b_zip,⟨_,W.mg_of X G g_FIGURES⟩,⟨_,W.mg_of X G g_LONGEST_WORD⟩,⟨_,W.mg_of X G g_MOST_FIGURES⟩⟩;obtain⟨_,_,G_l_bag⟩:∃ f fd,Fn K mg "_law_bag" ku ["_law_script"] f fd:=p_l_bag.fn X G (λ _ _ _ _ _ _ us hl=>by obtain⟨_,rfl⟩:=D.d9 hl;rfl);obtain⟨_,_,G_l_codes⟩:∃ f fd,Fn K mg "_law_codes" gm [] f fd:=p_l_codes.fn X G (λ _ _ _ _ _ _ us hl=>by obtain rfl:=D.af6 hl;rfl);obtain⟨_,_,G_l_take⟩:∃ f fd,Fn K mg "_law_take" iA ["_law_bag_here", "_law_many"] f fd:=p_l_take.fn X G (λ _ _ _ _ _ _ us hl=>by obtain⟨_,_,rfl⟩:=D.l4 hl;rfl);obtain⟨_,_,G_l_number⟩:∃ f fd,Fn K mg "_law_number" ft ["_law_bag_here", "_law_low", "_law_high"] f fd:=p_l_number.fn X G (λ _ _ _ _ _ _ us hl=>by obtain⟨_,_,_,rfl⟩:=D.aai hl;rfl);obtain⟨_,_,G_l_word⟩:∃ f fd,Fn K mg "_law_word" il ["_law_bag_here"] f fd:=p_l_word.fn X G (λ _ _ _ _ _ _ us hl=>by obtain⟨_,rfl⟩:=D.d9 hl;rfl);obtain⟨_,_,G_l_bounds⟩:∃ f fd,Fn K mg "_law_bounds" fA ["_law_code"] f fd:=p_l_bounds.fn X G (λ _ _ _ _ _ _ us hl=>by obtain⟨_,rfl⟩:=D.d9 hl;rfl);obtain⟨_,_,G_l_part⟩:∃ f fd,Fn K mg "_law_part" iF ["_law_bag_here", "_law_code"] f fd:=p_l_part.fn X G (λ _ _ _ _ _ _ us hl=>by obtain⟨_,_,rfl⟩:=D.l4 hl;rfl);obtain⟨_,_,G_l_deed⟩:∃ f fd,Fn K mg "_law_deed" iz ["_law_bag_here"] f fd:=p_l_deed.fn X G (λ _ _ _ _ _ _ us hl=>by obtain⟨_,rfl⟩:=D.d9 hl;rfl);obtain⟨_,_,G_l_figures⟩:∃ f fd,Fn K mg "_law_figures" eQ ["_law_number_here"] f fd:=p_l_figures.fn X G (λ _ _ _ _ _ _ us hl=>by obtain⟨_,rfl⟩:=D.d9 hl;rfl);obtain⟨_,_,G_l_written⟩:∃ f fd,Fn K mg "_law_written" eF ["_law_thing"] f fd:=p_l_written.fn X G (λ _ _ _ _ _ _ us hl=>by obtain⟨_,rfl⟩:=D.d9 hl;rfl);obtain⟨_,_,G_show_parts⟩:∃ f fd,Fn K mg "show_parts" dM ["parts"] f fd:=p_show_parts.fn X G (λ _ _ _ _ _ _ us hl=>by obtain⟨_,rfl⟩:=D.d9 hl;rfl);obtain⟨_,_,G_show_deed⟩:∃ f fd,Fn K mg "show_deed" eN ["deed"] f fd:=p_show_deed.fn X G (λ _ _ _ _ _ _ us hl=>by obtain⟨_,rfl⟩:=D.d9 hl;rfl);obtain⟨_,_,G_show_deeds⟩:∃ f fd,Fn K mg "show_deeds" dA ["deeds"] f fd:=p_show_deeds.fn X G (λ _ _ _ _ _ _ us hl=>by obtain⟨_,rfl⟩:=D.d9 hl;rfl);have G_NoRow_init:Xi K aN "NoRow.__init__" cE ["self", "at"] _ _:=ah9 E.x_NoRow a_NoRow_init i_NoRow_init l_NoRow_init c_NoRow_init k_NoRow_init xm_NoRow_init xt_NoRow_init xk_NoRow_init (λ _ _ _ _ _ _ us hl=>by obtain⟨_,_,rfl⟩:=D.l4 hl;rfl);obtain⟨_,_,G_read_number⟩:∃ f fd,Fn K mg "read_number" cZ ["text"] f fd:=p_read_number.fn X G (λ _ _ _ _ _ _ us hl=>by obtain⟨_,rfl⟩:=D.d9 hl;rfl);obtain⟨_,_,G_read_part⟩:∃ f fd,Fn K mg "read_part" eC ["form", "text"] f fd:=p_read_part.fn X G (λ _ _ _ _ _ _ us hl=>by obtain⟨_,_,rfl⟩:=D.l4 hl;rfl);obtain⟨_,_,G_is_word⟩:∃ f fd,Fn K mg "is_word" gj ["thing"] f fd:=p_is_word.fn X G (λ _ _ _ _ _ _ us hl=>by obtain⟨_,rfl⟩:=D.d9 hl;rfl);obtain⟨_,_,G_is_whole⟩:∃ f fd,Fn K mg "is_whole" fv ["thing"] f fd:=p_is_whole.fn X G (λ _ _ _ _ _ _ us hl=>by obtain⟨_,rfl⟩:=D.d9 hl;rfl);obtain⟨_,_,G_is_within⟩:∃ f fd,Fn K mg "is_within" eS ["thing", "low", "high"] f fd:=p_is_within.fn X G (λ _ _ _ _ _ _ us hl=>by obtain⟨_,_,_,rfl⟩:=D.aai hl;rfl);obtain⟨_,_,G_is_part⟩:∃ f fd,Fn K mg "is_part" gf ["form", "part"] f fd:=p_is_part.fn X G (λ _ _ _ _ _ _ us hl=>by obtain⟨_,_,rfl⟩:=D.l4 hl;rfl);obtain⟨_,_,G_keep_fits⟩:∃ f fd,Fn K mg "keep_fits" eK ["forms", "deed"] f fd:=p_keep_fits.fn X G (λ _ _ _ _ _ _ us hl=>by obtain⟨_,_,rfl⟩:=D.l4 hl;rfl);obtain⟨_,_,G_is_deed⟩:∃ f fd,Fn K mg "is_deed" f7 ["thing"] f fd:=p_is_deed.fn X G (λ _ _ _ _ _ _ us hl=>by obtain⟨_,rfl⟩:=D.d9 hl;rfl);have G_read_deed:Fn K mg "read_deed" cP ["text"] _ _:=zu X G a_read_deed l_read_deed c_read_deed k_read_deed (λ _ _ _ _ _ _ us hl=>by obtain⟨_,rfl⟩:=D.d9 hl;rfl);have G_read_rows:Fn K mg "read_rows" cO ["text", "read"] _ _:=zu X G a_read_rows l_read_rows c_read_rows k_read_rows (λ _ _ _ _ _ _ us hl=>by obtain⟨_,_,rfl⟩:=D.l4 hl;rfl);have G_read_deeds:Fn K mg "read_deeds" bZ ["text"] _ _:=zu X G a_read_deeds l_read_deeds c_read_deeds k_read_deeds (λ _ _ _ _ _ _ us hl=>by obtain⟨_,rfl⟩:=D.d9 hl;rfl);obtain⟨_,_,G_l_bent⟩:∃ f fd,Fn K mg "_law_bent" hJ ["_law_bag_here", "_law_text"] f fd:=p_l_bent.fn X G (λ _ _ _ _ _ _ us hl=>by obtain⟨_,_,rfl⟩:=D.l4 hl;rfl);obtain⟨_,_,G_l_spoilt⟩:∃ f fd,Fn K mg "_law_spoilt" fw ["_law_bag_here", "_law_rows"] f fd:=p_l_spoilt.fn X G (λ _ _ _ _ _ _ us hl=>by obtain⟨_,_,rfl⟩:=D.l4 hl;rfl);obtain⟨_,_,G_l_told⟩:∃ f fd,Fn K mg "_law_told" ij ["_law_thing"] f fd:=p_l_told.fn X G (λ _ _ _ _ _ _ us hl=>by obtain⟨_,rfl⟩:=D.d9 hl;rfl);obtain⟨_,_,G_l_number_in⟩:∃ f fd,Fn K mg "_law_number_in" cW ["_law_text"] f fd:=p_l_number_in.fn X G (λ _ _ _ _ _ _ us hl=>by obtain⟨_,rfl⟩:=D.d9 hl;rfl);obtain⟨_,_,G_l_is_word⟩:∃ f fd,Fn K mg "_law_is_word" eD ["_law_thing"] f fd:=p_l_is_word.fn X G (λ _ _ _ _ _ _ us hl=>by obtain⟨_,rfl⟩:=D.d9 hl;rfl);obtain⟨_,_,G_l_between⟩:∃ f fd,Fn K mg "_law_between" eE ["_law_thing", "_law_low", "_law_high"] f fd:=p_l_between.fn X G (λ _ _ _ _ _ _ us hl=>by obtain⟨_,_,_,rfl⟩:=D.aai hl;rfl);obtain⟨_,_,G_l_fits⟩:∃ f fd,Fn K mg "_law_fits" hZ ["_law_code", "_law_thing", "_law_ahead"] f fd:=p_l_fits.fn X G (λ _ _ _ _ _ _ us hl=>by obtain⟨_,_,_,rfl⟩:=D.aai hl;rfl);obtain⟨_,_,G_l_good⟩:∃ f fd,Fn K mg "_law_good" ip ["_law_thing"] f fd:=p_l_good.fn X G (λ _ _ _ _ _ _ us hl=>by obtain⟨_,rfl⟩:=D.d9 hl;rfl);obtain⟨_,_,G_l_read⟩:∃ f fd,Fn K mg "_law_read" ix ["_law_text"] f fd:=p_l_read.fn X G (λ _ _ _ _ _ _ us hl=>by obtain⟨_,rfl⟩:=D.d9 hl;rfl);obtain⟨_,_,G_l_due⟩:∃ f fd,Fn K mg "_law_due" lI ["_law_thing"] f fd:=p_l_due.fn X G (λ _ _ _ _ _ _ us hl=>by obtain⟨_,rfl⟩:=D.d9 hl;rfl);have G_law:Fn K mg "law" ou ["_law_script"] _ _:=zu X G a_law l_law c_law k_law (λ _ _ _ _ _ _ us hl=>by obtain⟨_,rfl⟩:=D.d9 hl;rfl);refine⟨W.fnOf "law" "law" (bS ou) (bj ou) (ao ou) .none kV_law dc_law pm_law an_law cd_law ct_law,λ s v=>.of_eq rfl,λ base _ _=>?_⟩;have z_l_bag:yU l.prog w K mg base:=⟨_,_,G_l_bag,aa3 E G_l_bag⟩;have z_l_codes:iB l.prog w K mg base:=⟨_,_,G_l_codes,vv E G_l_codes⟩;have z_l_take:eW l.prog w K mg base:=⟨_,_,G_l_take,wF E G_l_take⟩;have z_l_number:iZ l.prog w K mg base:=⟨_,_,G_l_number,sO E G_l_number z_l_take⟩;have z_l_word:uP l.prog w K mg base:=⟨_,_,G_l_word,xO E G_l_word z_l_take⟩;have z_l_bounds:iV l.prog w K mg base:=⟨_,_,G_l_bounds,rE E G_l_bounds⟩;have z_l_part:uI l.prog w K mg base:=⟨_,_,G_l_part,xW E G_l_part z_l_word z_l_take z_l_bounds z_l_number⟩;have z_l_deed:uo l.prog w K mg base:=⟨_,_,G_l_deed,zt E G_l_deed z_l_codes z_l_take z_l_number z_l_part⟩;have z_l_figures:lD l.prog w K mg base:=⟨_,_,G_l_figures,qG E G_l_figures⟩;have z_l_written:jR l.prog w K mg base:=⟨_,_,G_l_written,pT E G_l_written z_l_figures⟩;have z_show_parts:jd l.prog w K mg base:=⟨_,_,G_show_parts,nX E G_show_parts⟩;have z_show_deed:jM l.prog w K mg base:=⟨_,_,G_show_deed,rm E G_show_deed z_show_parts⟩;have z_show_deeds:je l.prog w K mg base:=⟨_,_,G_show_deeds,nC E G_show_deeds z_show_deed⟩;have O_NoRow_init:=nZ (P:=l.prog) (w:=w) (base:=base) E G_NoRow_init;have z_read_number:g9 l.prog w K mg base:=⟨_,_,G_read_number,lY E G_read_number⟩;have O_read_part:=qj (P:=l.prog) (w:=w) (base:=base) E G_read_part z_read_number;have z_is_word:qF l.prog w K mg base:=⟨_,_,G_is_word,vG E G_is_word⟩;have z_is_whole:mX l.prog w K mg base:=⟨_,_,G_is_whole,sG E G_is_whole⟩;have z_is_within:jN l.prog w K mg base:=⟨_,_,G_is_within,pX E G_is_within z_is_whole⟩;have z_is_part:qI l.prog w K mg base:=⟨_,_,G_is_part,vw E G_is_part z_is_word z_is_within⟩;have z_keep_fits:jV l.prog w K mg base:=⟨_,_,G_keep_fits,qQ E G_keep_fits⟩;have O_is_deed:=va (P:=l.prog) (w:=w) (base:=base) E G_is_deed z_is_part z_keep_fits;have O_read_deed:=ql (P:=l.prog) (w:=w) (base:=base) E G_read_deed G_read_part O_read_part G_is_deed O_is_deed;have O_read_rows:=qS (P:=l.prog) (w:=w) (base:=base) E G_read_rows G_NoRow_init O_NoRow_init G_read_deed O_read_deed;have O_read_deeds:=oG (P:=l.prog) (w:=w) (base:=base) E G_read_deeds G_read_rows O_read_rows;have z_l_bent:tP l.prog w K mg base:=⟨_,_,G_l_bent,yH E G_l_bent z_l_take⟩;have z_l_spoilt:mT l.prog w K mg base:=⟨_,_,G_l_spoilt,rJ E G_l_spoilt z_l_take z_l_bent⟩;have z_l_told:uH l.prog w K mg base:=⟨_,_,G_l_told,za E G_l_told G_read_deeds O_read_deeds⟩;have z_l_number_in:ia l.prog w K mg base:=⟨_,_,G_l_number_in,lR E G_l_number_in⟩;have z_l_is_word:lC l.prog w K mg base:=⟨_,_,G_l_is_word,pQ E G_l_is_word⟩;have z_l_between:ki l.prog w K mg base:=⟨_,_,G_l_between,qH E G_l_between⟩;have z_l_fits:tI l.prog w K mg base:=⟨_,_,G_l_fits,zj E G_l_fits z_l_is_word z_l_bounds z_l_between⟩;have z_l_good:tR l.prog w K mg base:=⟨_,_,G_l_good,zZ E G_l_good z_l_codes z_l_fits⟩;have z_l_read:uO l.prog w K mg base:=⟨_,_,G_l_read,yF E G_l_read z_l_codes z_l_number_in z_l_good⟩;have z_l_due:yZ l.prog w K mg base:=⟨_,_,G_l_due,aa0 E G_l_due z_l_read⟩;have O_law:=af5 (P:=l.prog) (w:=w) (base:=base) E G_law z_l_bag z_l_deed z_l_take z_l_written z_show_deeds G_read_deeds O_read_deeds z_l_spoilt z_l_told z_l_due;exact O_law
end
theorem walk{l:W.OpenLaw}{q:Program}{loose:List Str}{XP:(Str->Option Value)->Heap->Prop}{YP:World->Heap->Prop}{d:DefRec}{K:Params->FG}(hq:PyProof.Rows.importsNone q=true)(hn:l.most=some 63)(hdf:d.params.defaults=[])
  (hY:∀ (w:World) (h:Heap),YP w h->(K w.params).In h)
  (F:∀ (w:World) (mg:Str->Option Value) (fa:Addr) (h:Heap),(K w.params).In h->h.Ns mainGlobals mg->mg d.name=some (.ref fa) ->
   ∃ fd:FuncData,(∀ (s:Shared) (u:Value),BindsTo s fd ⟨[u],[]⟩ [("_law_script",u)])/\∀ base:Heap,(K w.params).In base->base.Ns mainGlobals mg->cQ l.prog w (K w.params) mg base CX0 9 fa fd ["_law_script"] (eX (K w.params) kU)) :
  W.WalkO q loose XP YP l.row.toRowW d [] (λ f vs=>PySem.call f vs):=
 L2.ae3 (n:=63) (k:=9) (x:= "_law_script") (CX:=λ _=>CX0) (sp:=λ w=>eX (K w.params) kU) hq hn (by decide) hdf ⟨rfl,rfl,by decide,by decide⟩ hY F (λ _ H a ns hl hO hS=>D.yN hl hO hS aa4) λ _ _ _ _ _ z=>z
end K16
end
namespace PySem.W.Fast
def tw14228648226573709567:=0
def tw6516132383673074293:=0
def tw5086630721601707856:=0
def tw9431790569552621231:=0
def tw7689180572248872814:=0
def tw15162306783637893005:=0
def tw12192845966400073770:=0
def tw11057241477924579656:=0
def tw10923124658516400485:=0
def tw6110299040374657189:=0
def tw14991565214242967906:=0
def tw11181111386691437408:=0
def tw15545354644972197184:=0
end PySem.W.Fast
open PySem PySem.W PyProof.Rows
local macro_rules | `(tactic| walk_at "kf")=>`(tactic| (refine' D.afw ?a ?l ?c ?k; (case a=>k_is); (case l=>k_is); (case c=>k_is); (case k=>k_is)))
local macro_rules | `(tactic| walk_at "km")=>`(tactic| (refine' D.pmf_mk ?a ?i ?l ?c ?k; (case a=>k_is); (case i=>k_is); (case l=>k_is); (case c=>k_is); (case k=>k_is)))
set_option maxRecDepth 100000
set_option maxHeartbeats 0
theorem PySem.Challenge.cw_placedworks_k16_lists_of_deeds_holds : PySem.Challenge.rw_placedworks_k16_lists_of_deeds.Holds := by
 w_on;o_law;k_head; (case hw=>w_witness2)
 k_fill
 refine K16.walk (l:=PySem.Challenge.rw_placedworks_k16_lists_of_deeds) ?Q rfl rfl (λ w h Y=>PySem.W.kIn_of Y) ?F
 case Q=>kernel_rfl
 case F =>
  intro w mg fa h KX G hmg;refine' K16.all_mk KX G hmg ?p_l_bag ?p_l_codes ?p_l_take ?p_l_number ?p_l_word ?p_l_bounds ?p_l_part ?p_l_deed ?p_l_figures ?p_l_written ?p_show_parts ?p_show_deed ?p_show_deeds ?a_NoRow_init ?i_NoRow_init ?l_NoRow_init ?c_NoRow_init ?k_NoRow_init ?xm_NoRow_init ?xt_NoRow_init ?xk_NoRow_init ?p_read_number ?p_read_part ?p_is_word ?p_is_whole ?p_is_within ?p_is_part ?p_keep_fits ?p_is_deed ?a_read_deed ?l_read_deed ?c_read_deed ?k_read_deed ?a_read_rows ?l_read_rows ?c_read_rows ?k_read_rows ?a_read_deeds ?l_read_deeds ?c_read_deeds ?k_read_deeds ?p_l_bent ?p_l_spoilt ?p_l_told ?p_l_number_in ?p_l_is_word ?p_l_between ?p_l_fits ?p_l_good ?p_l_read ?p_l_due ?a_law ?l_law ?c_law ?k_law ?xg_BadRow ?xg_NoRow ?xg_NoText ?xg_PlaceError ?xg_read_deed ?xg1 ?xg2 ?x1_NoRow ?x2_NoRow ?x3_NoRow ?x4_NoRow ?x5_NoRow ?x1_NoText ?x2_NoText ?x3_NoText ?x4_NoText ?x5_NoText ?xf_e_NoRow_NoRow ?xf_e_NoText_PlaceError ?xf_i_NoRow_BadRow_NoText ?xf_i_NoRow_PlaceError ?xf_i_NoRow_ValueError ?xf_xk_NoText ?xf_xn_NoText ?xf_xt_NoText ?gm_BOUNDS ?gm_ENDING_SORTS ?gm_PARTS ?ki_BOUNDS ?kh_BOUNDS ?ki_PARTS ?kh_PARTS ?tt_ENDING_SORTS ?n_NoRow_at ?b_ValueError ?b_abs ?b_all ?b_bool ?b_enumerate ?b_int ?b_isinstance ?b_len ?b_list ?b_max ?b_min ?b_range ?b_repr ?b_sorted ?b_str ?b_tuple ?b_zip ?g_FIGURES ?g_LONGEST_WORD ?g_MOST_FIGURES
  (case p_l_bag=>walk_at "kf")
  (case p_l_codes=>walk_at "kf")
  (case p_l_take=>walk_at "kf")
  (case p_l_number=>walk_at "kf")
  (case p_l_word=>walk_at "kf")
  (case p_l_bounds=>walk_at "kf")
  (case p_l_part=>walk_at "kf")
  (case p_l_deed=>walk_at "kf")
  (case p_l_figures=>walk_at "kf")
  (case p_l_written=>walk_at "kf")
  (case p_show_parts=>walk_at "kf")
  (case p_show_deed=>walk_at "kf")
  (case p_show_deeds=>walk_at "kf")
  (case a_NoRow_init=>k_is)
  (case i_NoRow_init=>k_is)
  (case l_NoRow_init=>k_is)
  (case c_NoRow_init=>k_is)
  (case k_NoRow_init=>k_is)
  (case xm_NoRow_init=>kernel_rfl)
  (case xt_NoRow_init=>k_is)
  (case xk_NoRow_init=>k_is)
  (case p_read_number=>walk_at "kf")
  (case p_read_part=>walk_at "kf")
  (case p_is_word=>walk_at "kf")
  (case p_is_whole=>walk_at "kf")
  (case p_is_within=>walk_at "kf")
  (case p_is_part=>walk_at "kf")
  (case p_keep_fits=>walk_at "kf")
  (case p_is_deed=>walk_at "kf")
  (case a_read_deed=>k_is)
  (case l_read_deed=>k_is)
  (case c_read_deed=>k_is)
  (case k_read_deed=>k_is)
  (case a_read_rows=>k_is)
  (case l_read_rows=>k_is)
  (case c_read_rows=>k_is)
  (case k_read_rows=>k_is)
  (case a_read_deeds=>k_is)
  (case l_read_deeds=>k_is)
  (case c_read_deeds=>k_is)
  (case k_read_deeds=>k_is)
  (case p_l_bent=>walk_at "kf")
  (case p_l_spoilt=>walk_at "kf")
  (case p_l_told=>walk_at "kf")
  (case p_l_number_in=>walk_at "kf")
  (case p_l_is_word=>walk_at "kf")
  (case p_l_between=>walk_at "kf")
  (case p_l_fits=>walk_at "kf")
  (case p_l_good=>walk_at "kf")
  (case p_l_read=>walk_at "kf")
  (case p_l_due=>walk_at "kf")
  (case a_law=>k_is)
  (case l_law=>k_is)
  (case c_law=>k_is)
  (case k_law=>k_is)
  (case xg_BadRow=>k_is)
  (case xg_NoRow=>k_is)
  (case xg_NoText=>k_is)
  (case xg_PlaceError=>k_is)
  (case xg_read_deed=>k_is)
  (case xg1=>k_is)
  (case xg2=>k_is)
  (case x1_NoRow=>kernel_rfl)
  (case x2_NoRow=>k_is)
  (case x3_NoRow=>k_is)
  (case x4_NoRow=>k_is)
  (case x5_NoRow=>k_is)
  (case x1_NoText=>kernel_rfl)
  (case x2_NoText=>k_is)
  (case x3_NoText=>k_is)
  (case x4_NoText=>k_is)
  (case x5_NoText=>k_is)
  (case xf_e_NoRow_NoRow=>kernel_rfl)
  (case xf_e_NoText_PlaceError=>kernel_rfl)
  (case xf_i_NoRow_BadRow_NoText=>kernel_rfl)
  (case xf_i_NoRow_PlaceError=>kernel_rfl)
  (case xf_i_NoRow_ValueError=>kernel_rfl)
  (case xf_xk_NoText=>kernel_rfl)
  (case xf_xn_NoText=>kernel_rfl)
  (case xf_xt_NoText=>kernel_rfl)
  (case gm_BOUNDS=>k_is)
  (case gm_ENDING_SORTS=>k_is)
  (case gm_PARTS=>k_is)
  (case ki_BOUNDS=>kernel_rfl)
  (case kh_BOUNDS=>kernel_rfl)
  (case ki_PARTS=>kernel_rfl)
  (case kh_PARTS=>kernel_rfl)
  (case tt_ENDING_SORTS=>kernel_rfl)
  (case n_NoRow_at=>k_is)
  (case b_ValueError=>k_is)
  (case b_abs=>k_is)
  (case b_all=>k_is)
  (case b_bool=>k_is)
  (case b_enumerate=>k_is)
  (case b_int=>k_is)
  (case b_isinstance=>k_is)
  (case b_len=>k_is)
  (case b_list=>k_is)
  (case b_max=>k_is)
  (case b_min=>k_is)
  (case b_range=>k_is)
  (case b_repr=>k_is)
  (case b_sorted=>k_is)
  (case b_str=>k_is)
  (case b_tuple=>k_is)
  (case b_zip=>k_is)
  (case g_FIGURES=>k_is)
  (case g_LONGEST_WORD=>k_is)
  (case g_MOST_FIGURES=>k_is)
