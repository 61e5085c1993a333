import PyProof.Rows.All
import Wide.All
import OpenK.AllK
import Wide.FinOn
import Lean
import PyProof.EqAt
import PyProof.EqKinds
import PyProof.TupleCall
import KE.KSortTup
import KE.KDictSum
import PyProof.Rows.Range3
import PyProof.Rows.SortRev
import PyProof.StrBlock2
import PyProof.ZipIter
import PyProof.Rows.ZipGen
import PyProof.NeKinds
import PyProof.DictCompW
import PyProof.DictWalks
import PyProof.AttrMissHeap
import PyProof.WalksS
import KE.KDictOf
import KE.KListMore
import KE.KEqDict
import PyProof.StationsW
import PyProof.InstStoreFacts
import PyProof.ExcBaseAll.ValueError
import PyProof.ExcClass2
import PyProof.RulesAs
import KE.KTryMore
import PyProof.ExcArgs
import KE.KIsAll
import OpenK.KOwn
import PyProof.P3In
import PyProof.DictUpdate
import PyProof.MeetsSeq2
import KE.KIntText
import KE.KRevSl
import PyProof.Rows.StrLawsPart
import PyProof.EnumMake
import PyProof.Draws
import PyProof.ListRange
import PyProof.TupleOfStr
import KE.KLam
import KE.KNestM
import KE.KMinKey
import PyProof.Rows.StrSplitMax
import PyProof.StrLawsOccR
import PyProof.Rows.SetFrom
import PySem.SetTable
import PyProof.TupleKey
import PySem.Challenge.RW_placedworks_k53_twice
set_option genSizeOf false
set_option genSizeOfSpec false
set_option bootstrap.genMatcherCode false
set_option Elab.async false
set_option linter.all false
set_option maxRecDepth 100000
abbrev FG:=PySem.W.Frag
abbrev PN:=List (PySem.Addr×PySem.Obj)
abbrev VP:=PySem.Value->PySem.Shared->Prop
abbrev ND(x:PySem.Str):Prop:=(x==("__debug__" : PySem.Str))=false
section
open PySem PySem.Spec PyProof.Rows
namespace L2
abbrev Key:=Sum Int Str
def oq:Key->Value->Bool
 | .inl k,v=>Value.isInt k v
 | .inr x,v=>Value.isStrOf x v
def ahk(w:World):Key->Int
 | .inl k=>hashInt k
 | .inr x=>hashStr w x
theorem bz:∀ {k:Key} {v:Value},oq k v=true->(∃ i t,k=Sum.inl i/\v=Value.int i t)\/(∃ x t,k=Sum.inr x/\v=Value.str x t)
 | .inl i,v,h=>by obtain⟨t,e⟩:=Value.isInt_shape (k:=i) (v:=v) h;exact .inl ⟨i,t,rfl,e⟩
 | .inr x,v,h=>by obtain⟨t,e⟩:=Value.isStrOf_shape (x:=x) (v:=v) h;exact .inr ⟨x,t,rfl,e⟩
theorem tM(i:Int)(t:Tok):oq (.inl i) (.int i t)=true:=by simp[oq,Value.isInt]
theorem tF(x:Str)(t:Tok):oq (.inr x) (.str x t)=true:=by simp[oq,Value.isStrOf]
theorem adX(a b:Int):decide ((Sum.inl a:Key)=Sum.inl b)=(a==b):=by
 by_cases e:a=b
 ·subst e;simp
 ·have h:¬ (Sum.inl a:Key)=Sum.inl b:=λ q=>e (Sum.inl.inj q);rw[decide_eq_false h];exact(beq_eq_false_iff_ne.mpr e).symm
theorem aek(a b:Str):decide ((Sum.inr a:Key)=Sum.inr b)=decide (a=b):=by
 by_cases e:a=b
 ·subst e;simp
 ·have h:¬ (Sum.inr a:Key)=Sum.inr b:=λ q=>e (Sum.inr.inj q);rw[decide_eq_false h,decide_eq_false e]
theorem adP(a:Int)(b:Str):decide ((Sum.inl a:Key)=Sum.inr b)=false:=decide_eq_false (λ q=>nomatch q)
theorem aee(a:Str)(b:Int):decide ((Sum.inr a:Key)=Sum.inl b)=false:=decide_eq_false (λ q=>nomatch q)
def aV(prog:Program)(w:World):PySem.KeyKind prog w Key where
 is:=oq
 hash:=ahk w
 inj:=λ v a b ha hb=>by
  rcases bz ha with ⟨i,t,rfl,rfl⟩ | ⟨x,t,rfl,rfl⟩
  ·rcases bz hb with ⟨j,u,rfl,e⟩ | ⟨y,u,rfl,e⟩
   ·injection e with e1 _;rw[e1]
   ·exact nomatch e
  ·rcases bz hb with ⟨j,u,rfl,e⟩ | ⟨y,u,rfl,e⟩
   ·exact nomatch e
   ·injection e with e1 _;rw[e1]
 byValue:=λ k v h=>by
  rcases bz h with ⟨i,t,rfl,rfl⟩ | ⟨x,t,rfl,rfl⟩<;>rfl
 pyHash:=λ hv h=>by
  rcases bz hv with ⟨i,t,rfl,rfl⟩ | ⟨x,t,rfl,rfl⟩
  ·exact wpAny_pyHash_int h
  ·exact wpAny_pyHash_str h
 eqBool:=λ hu hv h=>by
  rcases bz hu with ⟨i,t,rfl,rfl⟩ | ⟨x,t,rfl,rfl⟩
  ·rcases bz hv with ⟨j,u,rfl,rfl⟩ | ⟨y,u,rfl,rfl⟩
   ·rw[adX] at h;exact wpAny_eqBool_int h
   ·rw[adP] at h;exact SeqAt.EqAt.int_str i t y u _ _ _ _ h
  ·rcases bz hv with ⟨j,u,rfl,rfl⟩ | ⟨y,u,rfl,rfl⟩
   ·rw[aee] at h;exact SeqAt.EqAt.str_int x t j u _ _ _ _ h
   ·rw[aek] at h;exact wpAny_eqBool_str h
 «strs»:=λ k x t v h=>by
  rcases bz h with ⟨i,u,rfl,e⟩ | ⟨y,u,rfl,e⟩
  ·exact nomatch e
  ·injection e with e1 _
   subst e1;cases v<;>rfl
theorem sr(prog:Program)(w:World)(k:Key)(v:Value):(aV prog w).is k v=oq k v:=rfl
theorem pY(prog:Program)(w:World)(i:Int)(t:Tok):(aV prog w).is (.inl i) (.int i t)=true:=tM i t
theorem qh(prog:Program)(w:World)(x:Str)(t:Tok):(aV prog w).is (.inr x) (.str x t)=true:=tF x t
inductive V where
 | non | bl (b:Bool) | int (i:Int) | str (x:Str) | byt (b:Array UInt8) | flt (b:UInt64) | ref (a:Addr) | ty (n:String)
 deriving DecidableEq
def RelV:V->Value->Prop
 | .non,u=>u=Value.none
 | .bl b,u=>u=Value.bool b
 | .int i,u=>∃ t,u=Value.int i t
 | .str x,u=>∃ t,u=Value.str x t
 | .byt b,u=>∃ t,u=Value.bytes b t
 | .flt b,u=>∃ t,u=Value.float b t
 | .ref a,u=>u=Value.ref a
 | .ty n,u=>u=Value.type n
abbrev Vals:List V->List Value->Prop:=Paired RelV
theorem Vals.length{xs:List V}{us:List Value}(r:Vals xs us):xs.length=us.length:=Paired.length r
theorem Vals.get:∀ {xs:List V} {us:List Value} {i:Nat} {x:V},Vals xs us->xs[i]? =some x->∃ u,us[i]? =some u/\RelV x u
 | _,_,_,_,.nil,e=>by simp at e
 | _,_,0,_,.cons r _,e=>by simp at e;subst e;exact⟨_,rfl,r⟩
 | _,_,i+1,x,.cons _ t,e=>by obtain⟨u,h1,h2⟩:=Vals.get (i:=i) (x:=x) t (by simpa using e);exact⟨u,by simpa using h1,h2⟩
theorem Vals.set{x:V}{u:Value}(r:RelV x u):∀ {xs:List V} {us:List Value} (i:Nat),Vals xs us->Vals (xs.set i x) (us.set i u)
 | _,_,_,.nil=>.nil
 | _,_,0,.cons _ t=>.cons r t
 | _,_,i+1,.cons q t=>.cons q (Vals.set r i t)
theorem Vals.append:∀ {xs ys:List V} {us ws:List Value},Vals xs us->Vals ys ws->Vals (xs++ys) (us++ws)
 | _,_,_,_,.nil,s=>s
 | _,_,_,_,.cons r t,s=>.cons r (Vals.append t s)
theorem Vals.take:∀ {xs:List V} {us:List Value} (n:Nat),Vals xs us->Vals (xs.take n) (us.take n)
 | _,_,0,_=>.nil
 | _,_,_+1,.nil=>.nil
 | _,_,n+1,.cons r t=>.cons r (Vals.take n t)
theorem Vals.drop:∀ {xs:List V} {us:List Value} (n:Nat),Vals xs us->Vals (xs.drop n) (us.drop n)
 | _,_,0,r=>r
 | _,_,_+1,.nil=>.nil
 | _,_,n+1,.cons _ t=>Vals.drop n t
def mY:Option V->Option Value->Prop
 | some v,some u=>RelV v u
 | none,none=>True
 | _,_=>False
def KV{κ:Type}:List (κ×V)->List (κ×Value)->Prop:=Paired λ(p:κ×V) (q:κ×Value)=>p.1=q.1/\RelV p.2 q.2
def kV:Key->V
 | .inl i=>.int i
 | .inr x=>.str x
inductive HO where
 | lst (xs:List V)
 | tup (xs:List V)
 | dK (kvs:List (Key×V)) | dT (kvs:List (List Key×V))
 | set (S:Int->Bool) (n:Nat)
 | ins (C dx:Addr) (fs:List (Str×V))
 | own (x:Addr)
 | xd (fs:List (Str×V))
 | met (f x:Addr)
 | rng (lo hi:Int)
 | frz (o:Obj) (u:HO)
 | tbl (ps:Array Value)
 | ext (φ:Heap->Prop)
abbrev Hp:=Addr->Option HO
def upd(H:Hp)(a:Addr)(o:HO):Hp:=λ b=>if b=a then some o else H b
theorem ao{H:Hp}{a:Addr}{o:HO}:upd H a o a=some o:=by unfold upd;rw[if_pos rfl]
theorem ah{H:Hp}{a b:Addr}{o:HO}(h:b≠a):upd H a o b=H b:=by unfold upd;rw[if_neg h]
theorem abB{H:Hp}{a:Addr}{o u:HO}:upd (upd H a o) a u=upd H a u:=by
 funext b;unfold upd;split<;>rfl
theorem sh{H:Hp}{a b:Addr}{o u:HO}(h:H a=some o)(h':H b=some u)(d:o≠u):a≠b:=by intro e;subst e;rw[h] at h';exact d (Option.some.inj h')
theorem aF{H:Hp}{a b:Addr}{o:HO}(h:H a=some o)(h':H b=none):a≠b:=by intro e;subst e;rw[h] at h';cases h'
def xW(h:Heap)(a:Addr)(items:Array Value):Prop:=∃ o,h.get? a=some o/\o.cls=.type "tuple" /\ o.dict=none/\∃ n,o.data=.seq items n
theorem xW.tup{h:Heap}{a:Addr}{items:Array Value}(x:xW h a items):IsTup h a items:=let ⟨o,h1,h2,_,h3⟩:=x; ⟨o,h1,h2,h3⟩
theorem xW.new(h:Heap)(items:Array Value):xW (h.push {cls:=.type "tuple",data:=.seq items}) h.objs.size items:=⟨_,Heap.get?_push_size _ rfl,rfl,rfl,_,rfl⟩
section
variable (P:Program)(w:World)
def cF(H:Hp)(h:Heap)(a:Addr):HO->Prop
 | .lst xs=>xs.length<=sizeLine/\∃ (its:List Value) (n:Nat),Vals xs its/\h.get? a=some {cls:=.type "list",data:=.seq its.toArray n}
 | .tup xs=>xs.length<=sizeLine/\∃ its:List Value,Vals xs its/\xW h a its.toArray
 | .dK kvs=>kvs.length<=sizeLine/\(a==sysModules)=false/\∃ vs,KV kvs vs/\h.DictOf (aV P w) a vs
 | .dT kvs=>kvs.length<=sizeLine/\(a==sysModules)=false/\∃ xs:List (List Key×Addr×Value),
   Paired (λ(p:List Key×V) (q:List Key×Addr×Value)=>p.1=q.1/\H q.2.1=some (.tup (p.1.map kV))/\RelV p.2 q.2.2) kvs xs /\
   ∃ o es ep,h.get? a=some o/\o.ExactDict/\o.data=.dict es ep/\es.toList=xs.map (entryOfKey (tupleKind (aV P w)))/\(xs.map (·.1)).Nodup
 | .set S n=>h.SetOf (intKind P w) a S n
 | .ins C dx fs=>H dx=some (.own a)/\fs.length<=1000/\dx≠a/\h.get? a=some (W.instObj C dx) /\
   ∃ mA,h.Ns1 dx mA/\(∀ f,mY (fs.lookup f) (mA f))/\PySem.Within mA (fs.map (·.1))
 | .own _=>∃ o,h.get? a=some o
 | .xd fs=>∃ mA,h.Ns1 a mA/\∀ f,mY (fs.lookup f) (mA f)
 | .rng lo hi=>∃ t u v,h.get? a=some {cls:=.type "range",data:=.fields #[.int lo t,.int hi u,.int 1 v]}
 | .frz o u=>h.get? a=some o/\cF H h a u
 | .tbl ps=>h.get? a=some {cls:=.none,data:=.fields ps}
 | .met f x=>h.get? a=some (W.methodObj (.ref f) (.ref x))
 | .ext φ=>φ h/\(∃ o,h.get? a=some o)/\∀ h1 h2:Heap,φ h1->(∀ o,h1.get? a=some o->h2.get? a=some o)->φ h2
def HOk(H:Hp)(h:Heap):Prop:=∀ a o,H a=some o->cF P w H h a o
end
section
variable {P:Program}{w:World}{H H':Hp}{h h':Heap}{a:Addr}{o:HO}
theorem cF.lt(x:cF P w H h a o):a<h.objs.size:=by
 cases o with
 | lst xs=>obtain⟨_,_,_,_,e⟩:=x;exact Heap.lt_size e
 | tup xs=>obtain⟨_,_,_,p⟩:=x;exact p.tup.lt
 | dK kvs=>obtain⟨_,_,_,_,o,_,_,e,_⟩:=x;exact Heap.lt_size e
 | dT kvs=>obtain⟨_,_,_,_,o,_,_,e,_⟩:=x;exact Heap.lt_size e
 | set S n=>obtain⟨o,_,_,_,e,_⟩:=x;exact Heap.lt_size e
 | ins C dx fs=>obtain⟨_,_,_,e,_⟩:=x;exact Heap.lt_size e
 | own y=>obtain⟨_,e⟩:=x;exact Heap.lt_size e
 | xd fs=>obtain⟨_,⟨_,_,_,e,_⟩,_⟩:=x;exact Heap.lt_size e
 | rng lo hi=>obtain⟨_,_,_,e⟩:=x;exact Heap.lt_size e
 | frz ob u=>obtain⟨e,_⟩:=x;exact Heap.lt_size e
 | tbl ps=>exact Heap.lt_size (show h.get? a=some _ from x)
 | met f y=>exact Heap.lt_size (show h.get? a=some _ from x)
 | ext φ=>obtain⟨_,⟨_,e⟩,_⟩:=x;exact Heap.lt_size e
theorem Paired.fC{α β:Type}{F G:α->β->Prop}:∀ {l₁:List α} {l₂:List β},Paired F l₁ l₂->(∀ a b,F a b->G a b)->Paired G l₁ l₂
 | _,_,.nil,_=>.nil
 | _,_,.cons r t,f=>.cons (f _ _ r) (Paired.fC t f)
theorem cF.tE(x:cF P w H h a o)(k:∀ b u,(b=a\/H b=some (.own a))->h.get? b=some u->h'.get? b=some u)
  (ho:∀ b,H b=some (.own a)->H' b=some (.own a))(ht:∀ b xs,H b=some (.tup xs)->H' b=some (.tup xs)):cF P w H' h' a o:=by
 induction o with
 | lst xs=>obtain⟨z,its,n,r,e⟩:=x;exact⟨z,its,n,r,k _ _ (.inl rfl) e⟩
 | tup xs=>obtain⟨z,its,r,ob,e,c⟩:=x;exact⟨z,its,r,ob,k _ _ (.inl rfl) e,c⟩
 | dK kvs=>obtain⟨z,y,vs,r,ob,es,ep,e,c⟩:=x;exact⟨z,y,vs,r,ob,es,ep,k _ _ (.inl rfl) e,c⟩
 | dT kvs =>
  obtain⟨z,y,xs,r,ob,es,ep,e,c⟩:=x;exact⟨z,y,xs,Paired.fC r λ p q z=>⟨z.1,ht _ _ z.2.1,z.2.2⟩,ob,es,ep,k _ _ (.inl rfl) e,c⟩
 | set S n=>obtain⟨ob,es,ep,t,e,c⟩:=x;exact⟨ob,es,ep,t,k _ _ (.inl rfl) e,c⟩
 | ins C dx fs =>
  obtain⟨d,z,ne,e,mA,⟨od,es,ep,e2,c⟩,r⟩:=x;exact⟨ho _ d,z,ne,k _ _ (.inl rfl) e,mA,⟨od,es,ep,k _ _ (.inr d) e2,c⟩,r⟩
 | own y=>obtain⟨ob,e⟩:=x;exact⟨ob,k _ _ (.inl rfl) e⟩
 | xd fs=>obtain⟨mA,⟨od,es,ep,e,c⟩,r⟩:=x;exact⟨mA,⟨od,es,ep,k _ _ (.inl rfl) e,c⟩,r⟩
 | rng lo hi=>obtain⟨t,u,v,e⟩:=x;exact⟨t,u,v,k _ _ (.inl rfl) e⟩
 | frz ob u ih=>obtain⟨e,q⟩:=x;exact⟨k _ _ (.inl rfl) e,ih q⟩
 | tbl ps =>
  have e:h.get? a=some {cls:=.none,data:=.fields ps}:=x;show h'.get? a=some {cls:=.none,data:=.fields ps};exact k a _ (.inl rfl) e
 | met f y =>
  have e:h.get? a=some (W.methodObj (.ref f) (.ref y)):=x;show h'.get? a=some (W.methodObj (.ref f) (.ref y));exact k a _ (.inl rfl) e
 | ext φ=>obtain⟨p,⟨o,e⟩,st⟩:=x;exact⟨st _ _ p λ o q=>k _ _ (.inl rfl) q,⟨o,k _ _ (.inl rfl) e⟩,st⟩
theorem HOk.lt(x:HOk P w H h)(e:H a=some o):a<h.objs.size:=(x a o e).lt
theorem HOk.fresh(x:HOk P w H h)(e:h.objs.size<=a):H a=none:=by
 cases q:H a with
 | none=>rfl
 | some u=>exact absurd (Nat.lt_of_lt_of_le (x.lt q) e) (Nat.lt_irrefl _)
theorem HOk.kept(x:HOk P w H h)(k:∀ b u,h.get? b=some u->h'.get? b=some u):HOk P w H h':=λ a o e =>
 (x a o e).tE (λ b u _ q=>k b u q) (λ _ q=>q) λ _ _ q=>q
theorem HOk.laid(x:HOk P w H h)(k:∀ b u,h.get? b=some u->h'.get? b=some u)(hp:h.objs.size<=a)(new:cF P w (upd H a o) h' a o):HOk P w (upd H a o) h':=λ b u e=>by
 have hn:=x.fresh hp
 by_cases hb:b=a
 ·subst hb;rw[ao] at e;cases e;exact new
 ·rw[ah hb] at e;exact(x b u e).tE (λ c v _ q=>k c v q) (λ c q=>by rw[ah (aF q hn)];exact q) λ c xs q=>by rw[ah (aF q hn)];exact q
end
def Rd(H:Hp)(a:Addr)(u:HO):Prop:=H a=some u\/∃ o,H a=some (.frz o u)
theorem Rd.ok{P:Program}{w:World}{H:Hp}{h:Heap}{a:Addr}{u:HO}(r:Rd H a u)(x:HOk P w H h):cF P w H h a u:=by
 rcases r with r | ⟨o,r⟩
 ·exact x a u r
 ·obtain⟨_,q⟩:=x a _ r;exact q
def Mut:Option HO->Prop
 | some (.lst _)=>True
 | some (.dK _)=>True
 | some (.dT _)=>True
 | some (.set _ _)=>True
 | some (.ins _ _ _)=>True
 | some (.ext _)=>True
 | _=>False
section
variable {P:Program}{w:World}{H:Hp}{h h':Heap}{x e:Addr}{o':HO}
theorem HOk.write(ok:HOk P w H h)(mu:Mut (H x))(he:e=x\/H e=some (.own x))(k:∀ b u,b≠e->h.get? b=some u->h'.get? b=some u)(heo:∃ u,h'.get? e=some u)
  (new:cF P w (upd H x o') h' x o'):HOk P w (upd H x o') h':=λ b u q=>by
 have nown:∀ c y,H c=some (.own y)->c≠x:=λ c y r z=>by subst z;rw[r] at mu;exact mu
 have ntup:∀ c xs,H c=some (.tup xs)->c≠x:=λ c xs r z=>by subst z;rw[r] at mu;exact mu
 by_cases hb:b=x
 ·subst hb;rw[ao] at q;cases q;exact new
 ·rw[ah hb] at q
  by_cases hbe:b=e
  ·have q':H b=some (.own x):=by
    rcases he with z | z
    ·exact absurd (hbe.trans z) hb
    ·rw[hbe];exact z
   rw[q] at q';cases q';obtain⟨v,hv⟩:=heo;exact⟨v,by rw[hbe];exact hv⟩
  ·refine(ok b u q).tE (λ c v hc r=>k c v ?_ r) (λ c r=>by rw[ah (nown c b r)];exact r) λ c xs r=>by rw[ah (ntup c xs r)];exact r
   rcases hc with rfl | hc
   ·exact hbe
   ·rintro rfl;rcases he with z | z
    ·exact nown c b hc z
    ·rw[hc] at z;cases z;exact hb rfl
end
structure Un(fs ex:List Addr)(H H':Hp)(h h':Heap):Prop where
 keep:∀ b o,h.get? b=some o->H b=none->b ∉ fs->b ∉ ex->h'.get? b=some o
 slot:∀ b o,h.get? b=some o->H b=none->b∈fs->b ∉ ex->∃ sl,h'.get? b=some {o with slots:=sl}
 free:∀ b o,h.get? b=some o->H b=none->b ∉ ex->H' b=none
 there:∀ b o,h.get? b=some o->b ∉ ex->∃ o',h'.get? b=some o'
 tups:∀ b xs,H b=some (.tup xs)->H' b=some (.tup xs)
 frzs:∀ b o u,H b=some (.frz o u)->H' b=some (.frz o u)
 tbls:∀ b ps,H b=some (.tbl ps)->∃ more,H' b=some (.tbl (ps++more))
section
variable {fs fs' ex ex':List Addr}{H H1 H2:Hp}{h h1 h2 h':Heap}{a x e:Addr}{o:HO}
theorem Un.any(u:Un fs ex H H1 h h1){b:Addr}{ob:Obj}(q:h.get? b=some ob)(n:H b=none)(hx:b ∉ ex):∃ sl,h1.get? b=some {ob with slots:=sl}:=by
 by_cases hb:b∈fs
 ·exact u.slot b ob q n hb hx
 ·exact⟨ob.slots,u.keep b ob q n hb hx⟩
theorem Un.kept(k:∀ b u,h.get? b=some u->h'.get? b=some u):Un fs ex H H h h':=
 ⟨λ b ob q _ _ _=>k b ob q,λ b ob q _ _ _=>⟨ob.slots,k b ob q⟩,λ _ _ _ n _=>n,λ b ob q _=>⟨ob,k b ob q⟩,λ _ _ q=>q,λ _ _ _ q=>q,λ _ ps q=>⟨#[],by rw[q];simp⟩⟩
theorem Un.refl:Un fs ex H H h h:=Un.kept λ _ _ q=>q
theorem Un.laid(k:∀ b u,h.get? b=some u->h'.get? b=some u)(hp:h.objs.size<=a)(hn:H a=none):Un fs ex H (upd H a o) h h' where
 keep:=λ b u q _ _ _=>k b u q
 slot:=λ b u q _ _ _=>⟨u.slots,k b u q⟩
 free:=λ b u q n _=>by rw[ah (Nat.ne_of_lt (Nat.lt_of_lt_of_le (Heap.lt_size q) hp))];exact n
 there:=λ b u q _=>⟨u,k b u q⟩
 tups:=λ b xs q=>by rw[ah (aF q hn)];exact q
 frzs:=λ b u xs q=>by rw[ah (aF q hn)];exact q
 tbls:=λ b ps q=>⟨#[],by rw[ah (aF q hn),q];simp⟩
theorem Un.write(mu:Mut (H x))(he:e=x\/H e=some (.own x))(k:∀ b u,b≠e->h.get? b=some u->h'.get? b=some u)(heo:∃ u,h'.get? e=some u):Un fs ex H (upd H x o) h h':=by
 have hx:∀ b,H b=none->b≠x:=λ b n z=>by subst z;rw[n] at mu;exact mu
 have hb:∀ b,H b=none->b≠e:=λ b n z=>by
  subst z;rcases he with r | r
  ·exact hx b n r
  ·rw[n] at r;cases r
 have hm:∀ b u,H b=some u->¬ Mut (some u)->b≠x:=λ b u q nm z=>by subst z;rw[q] at mu;exact nm mu
 refine⟨λ b u q n _ _=>k b u (hb b n) q,λ b u q n _ _=>⟨u.slots,k b u (hb b n) q⟩,λ b u q n _=>by rw[ah (hx b n)];exact n,λ b u q _=>?_,
  λ b xs q=>by rw[ah (hm b _ q λ z=>z)];exact q,λ b u xs q=>by rw[ah (hm b _ q λ z=>z)];exact q,λ b ps q=>⟨#[],by rw[ah (hm b _ q λ z=>z),q];simp⟩⟩
 by_cases hbe:b=e
 ·subst hbe;exact heo
 ·exact⟨u,k b u hbe q⟩
end
def trk(h:Heap)(H:Hp):List Addr:=(List.range h.objs.size).filter λ a=>(H a).isSome
def yL(h:Heap)(H:Hp):Heap:=W.hideAll h (trk h H)
theorem vD(h:Heap)(H:Hp):(yL h H).objs.size=h.objs.size:=W.hideAll_size _ _
theorem w5{h:Heap}{H:Hp}{b:Addr}{o:Obj}(e:h.get? b=some o)(n:H b=none):(yL h H).get? b=some o:=
 W.hideAll_get _ e λ hm=>by have q:(H b).isSome=true:=(List.mem_filter.mp hm).2;rw[n] at q;simp at q
theorem aao{h:Heap}{H:Hp}{b:Addr}{o:Obj}(e:(yL h H).get? b=some o):h.get? b=some o/\H b=none:=by
 have e':h.get? b=some o:=W.of_hideAll (trk h H) e;refine⟨e',?_⟩;cases q:H b with
 | none=>rfl
 | some x =>
  have hm:b∈trk h H:=List.mem_filter.mpr ⟨List.mem_range.mpr (Heap.lt_size e'),by simp[q]⟩;have z:(yL h H).get? b=none:=W.hideAll_none (trk h H) hm;rw[z] at e;cases e
def BM(mg:Str->Option Value)(h:Heap):Prop:=(∃ bm o,mg "__builtins__" = some (.ref bm)/\bm≠builtinsNs/\h.get? bm=some o/\o.cls=.type "module" /\ o.dict=some builtinsNs/\o.data=.plain)/\∃ mm,h.Ns sysModules mm
structure Mod(K:FG)(mg:Str->Option Value)(base:Heap):Prop where
 kin:K.In base
 glob:base.Ns mainGlobals mg
 blt:∃ mb,base.Ns builtinsNs mb/\∀ x:Str,x ≠ "__name__" -> mb x=bootBuiltins x
 nolimit:base.NoLimit
 bm:BM mg base
structure Cx where
 prog:Program
 w:World
 K:FG
 mg:Str->Option Value
 base:Heap
 A:Around
 N:List Str
 s₀:Shared
 H₀:Hp
 env:Env
 outer:List Env
 stack:List Env
 ex:List Addr
 fn:Str->Bool
 calm:Bool
 pn:PN
 xe:VP
def frs(l:List Env):List Addr:=l.filterMap (·.frame)
abbrev Cx.fs(X:Cx):List Addr:=frs X.outer
def Vis(sc:Scope)(x:Str):Prop:=sc.names.lookup x=some .local\/sc.names.lookup x=some .cell\/sc.names.lookup x=some .free
def Loc(sc:Scope)(x:Str):Prop:=sc.names.lookup x=some .local\/sc.names.lookup x=some .cell
def Look(env:Env)(h:Heap)(m:Str->Option Value)(x:Str)(u:Value):Prop:=
 (env.kindOf x=some .local/\m x=some u)\/((env.kindOf x=some .cell\/env.kindOf x=some .free)/\∃ c,env.cells.lookup x=some c/\h.IsCell c (some u))
structure Cx.Ok(X:Cx):Prop where
 mod:Mod X.K X.mg X.base
 kind:X.env.scope.kind=.function
 glob:X.env.globals=mainGlobals
 blt:X.env.builtins=builtinsNs
 above:X.s₀.heap.objs.size<=X.env.locals
 inj:∀ x y c,X.env.cells.lookup x=some c->X.env.cells.lookup y=some c->x=y
 has:∀ x,(X.env.kindOf x=some .cell\/X.env.kindOf x=some .free)->∃ c,X.env.cells.lookup x=some c
 cab:∀ x c,X.fn x=true->X.env.cells.lookup x=some c->X.s₀.heap.objs.size<=c
 hd:X.calm=true->X.A.handled=none
 frames:X.A.frames=some X.stack
 stk:X.stack=X.outer\/(X.stack=X.env::X.outer/\X.env.frame=some X.env.locals)
 exf:∀ b∈X.ex,b≠X.env.locals/\∀ x c,X.env.cells.lookup x=some c->c≠b
 bs:∀ b o,X.base.get? b=some o->X.s₀.heap.get? b=some o/\X.H₀ b=none
 bsz:X.base.objs.size<=X.s₀.heap.objs.size
 noex:∀ b o,X.base.get? b=some o->b ∉ X.ex
 exfs:∀ b∈X.ex,b ∉ X.fs
 oZ:X.s₀.heap.FunFrames X.base X.outer
 frf:∀ b∈X.fs,X.H₀ b=none
structure Inv(X:Cx)(pins:PN)(σ:List (Option V))(H:Hp)(s:Shared):Prop where
 ok:X.Ok
 os:s.os=X.s₀.os
 bare:AllBare s.gens
 base:Un X.fs X.ex X.H₀ H X.s₀.heap s.heap
 loc:∃ m,s.heap.Ns X.env.locals m/\∀ (i:Nat) (x:Str) (v:V),X.N[i]? =some x->σ[i]? =some (some v)->Vis X.env.scope x->∃ u,RelV v u/\Look X.env s.heap m x u
 cell:∀ x c,X.env.cells.lookup x=some c->∃ v,s.heap.IsCell c v
 free:H X.env.locals=none
 freeC:∀ x c,X.env.cells.lookup x=some c->H c=none
 pin:∀ p∈X.pn++pins,s.heap.get? p.1=some p.2/\H p.1=none/\p.1≠X.env.locals/\p.1 ∉ X.fs/\∀ v,p.2.data ≠ .cell v
 hok:HOk X.prog X.w H s.heap
 len:σ.length=X.N.length
section
variable {X:Cx}{pins:PN}{σ:List (Option V)}{H H':Hp}{s:Shared}{h':Heap}
theorem Cx.Ok.ahp(ok:X.Ok){b:Addr}{o:Obj}(e:X.base.get? b=some o):b ∉ X.fs:=λ hb=>by have:=(ok.oZ.mem hb).1;rw[e] at this;cases this
theorem Inv.bs(I:Inv X pins σ H s):∀ b o,X.base.get? b=some o->s.heap.get? b=some o/\H b=none:=λ b o e =>
 ⟨I.base.keep b o (I.ok.bs b o e).1 (I.ok.bs b o e).2 (I.ok.ahp e) (I.ok.noex b o e),I.base.free b o (I.ok.bs b o e).1 (I.ok.bs b o e).2 (I.ok.noex b o e)⟩
theorem Inv.bk(I:Inv X pins σ H s):∀ b o,X.base.get? b=some o->s.heap.get? b=some o:=λ b o e=>(I.bs b o e).1
theorem Inv.mod(I:Inv X pins σ H s):Mod X.K X.mg X.base:=I.ok.mod
theorem Inv.kIn(I:Inv X pins σ H s):X.K.In s.heap:=I.ok.mod.kin.keeps I.bk
theorem Inv.nolimit(I:Inv X pins σ H s):s.heap.NoLimit:=I.ok.mod.nolimit.keeps I.bk
theorem Inv.lt(I:Inv X pins σ H s):X.env.locals<s.heap.objs.size:=let ⟨_,hn,_⟩:=I.loc;hn.lt
theorem Inv.sz(I:Inv X pins σ H s):X.s₀.heap.objs.size<=s.heap.objs.size:=Nat.le_trans I.ok.above (Nat.le_of_lt I.lt)
theorem Inv.agW(I:Inv X pins σ H s){a:Addr}(h:s.heap.objs.size<=a):a ∉ X.fs:=λ hb=>by obtain⟨_,o,ho,_⟩:=I.ok.oZ.mem hb;exact absurd (Nat.lt_of_lt_of_le (Heap.lt_size ho) (Nat.le_trans I.sz h)) (Nat.lt_irrefl _)
theorem Inv.cne(I:Inv X pins σ H s):∀ x c,X.env.cells.lookup x=some c->c≠X.env.locals:=λ x c e z=>by obtain⟨v,o,ho,hd⟩:=I.cell x c e;obtain⟨m,⟨o',es,ep,ho',hd',_⟩,_⟩:=I.loc;rw[z,ho'] at ho;cases ho;rw[hd'] at hd;cases hd
theorem Inv.oZ(I:Inv X pins σ H s):s.heap.FunFrames X.base X.outer:=by
 have all:∀ (l:List Env),(∀ b∈frs l,b∈X.fs)->X.s₀.heap.FunFrames X.base l->s.heap.FunFrames X.base l:=by
  intro l
  induction l with
  | nil=>intro _ _;trivial
  | cons env r ih =>
   intro hs hl;obtain⟨hk,⟨L,o,hf,hn,ho,hd⟩,hr⟩:=hl;have hL:L∈X.fs:=hs L (by unfold frs;rw[List.filterMap_cons,hf];exact List.mem_cons_self);obtain⟨sl,e⟩:=I.base.slot L o ho (I.ok.frf L hL) hL λ z=>I.ok.exfs L z hL;exact⟨hk,⟨L,_,hf,hn,e,hd⟩,ih (λ b hb=>hs b (by unfold frs;rw[List.filterMap_cons,hf];exact List.mem_cons_of_mem _ hb)) hr⟩
 exact all X.outer (λ _ hb=>hb) I.ok.oZ
theorem Inv.stack(I:Inv X pins σ H s):s.heap.FunFrames X.base X.stack:=by
 rcases I.ok.stk with e | ⟨e,hf⟩
 ·rw[e];exact I.oZ
 ·rw[e];obtain⟨m,hn,_⟩:=I.loc;refine .cons (by rw[I.ok.kind];decide) hf hn ?_ I.oZ;exact Heap.get?_none_of_le (Nat.le_trans I.ok.bsz I.ok.above)
theorem Inv.iO(I:Inv X pins σ H s):∀ b∈frs X.stack,b∈X.env.locals::X.fs:=λ b hb=>by
 rcases I.ok.stk with e | ⟨e,hf⟩
 ·rw[e] at hb;exact List.mem_cons_of_mem _ hb
 ·rw[e] at hb;unfold frs at hb;rw[List.filterMap_cons,hf] at hb;exact hb
theorem Inv.o6(I:Inv X pins σ H s):∀ b∈frs X.stack,H b=none:=λ b hb=>by
 rcases List.mem_cons.mp (I.iO b hb) with e | hb
 ·rw[e];exact I.free
 ·obtain⟨_,o,ho,_⟩:=I.ok.oZ.mem hb;exact I.base.free b o ho (I.ok.frf b hb) λ z=>I.ok.exfs b z hb
theorem Inv.step{g':Array GenState}{t':Nat}{d':Drawn}{ch:List Addr}(I:Inv X pins σ H s)
  (hch:∀ b∈ch,(b∈X.ex\/X.s₀.heap.objs.size<=b)/\b≠X.env.locals/\(∀ x c,X.env.cells.lookup x=some c->c≠b)/\∀ p∈X.pn++pins,p.1≠b)
  (keep:∀ b o,b≠X.env.locals->b ∉ X.fs->b ∉ ch->s.heap.get? b=some o->H b=none->h'.get? b=some o)
  (slot:∀ b o,b≠X.env.locals->b∈X.fs->b ∉ ch->s.heap.get? b=some o->H b=none->∃ sl,h'.get? b=some {o with slots:=sl})(free:∀ b o,b ∉ ch->s.heap.get? b=some o->H b=none->H' b=none)
  (there:∀ b o,b ∉ ch->s.heap.get? b=some o->∃ o',h'.get? b=some o')
  (tups:∀ b xs,H b=some (.tup xs)->H' b=some (.tup xs))(frzs:∀ b o u,H b=some (.frz o u)->H' b=some (.frz o u))(tbls:∀ b ps,H b=some (.tbl ps)->∃ more,H' b=some (.tbl (ps++more)))
  (ns:∀ m,s.heap.Ns X.env.locals m->h'.Ns X.env.locals m)(hok:HOk X.prog X.w H' h')(hg:AllBare g') :
  Inv X pins σ H' {s with heap:=h',gens:=g',drawn:=d',toks:=t'}:=by
 have neL:∀ b o,X.s₀.heap.get? b=some o->b≠X.env.locals:=λ b o e=>Nat.ne_of_lt (Nat.lt_of_lt_of_le (Heap.lt_size e) I.ok.above);have neC:∀ b o,X.s₀.heap.get? b=some o->b ∉ X.ex->b ∉ ch:=λ b o e hx hb=>by
  rcases(hch b hb).1 with z | z
  ·exact hx z
  ·exact absurd (Nat.lt_of_lt_of_le (Heap.lt_size e) z) (Nat.lt_irrefl _)
 have cellK:∀ x c,X.env.cells.lookup x=some c->∀ v,s.heap.IsCell c v->h'.IsCell c v:=λ x c e v hq0=>by
  obtain⟨o,ho,hd⟩:=hq0;have nch:c ∉ ch:=λ z=>(hch c z).2.2.1 x c e rfl
  by_cases hc:c∈X.fs
  ·obtain⟨sl,q⟩:=slot c o (I.cne x c e) hc nch ho (I.freeC x c e);exact⟨_,q,hd⟩
  ·exact⟨o,keep c o (I.cne x c e) hc nch ho (I.freeC x c e),hd⟩
 refine⟨I.ok,I.os,hg,⟨λ b o e n hb hx=>?_,λ b o e n hb hx=>?_,λ b o e n hx=>?_,λ b o e hx=>?_,λ b xs e=>tups b xs (I.base.tups b xs e),λ b o xs e=>frzs b o xs (I.base.frzs b o xs e),λ b ps e=>?_⟩,?_,λ x c e=>?_,?_,λ x c e=>?_,λ p hp=>?_,hok,I.len⟩
 ·exact keep b o (neL b o e) hb (neC b o e hx) (I.base.keep b o e n hb hx) (I.base.free b o e n hx)
 ·obtain⟨sl,e1⟩:=I.base.slot b o e n hb hx;obtain⟨sl',e2⟩:=slot b _ (neL b o e) hb (neC b o e hx) e1 (I.base.free b o e n hx);exact⟨sl',e2⟩
 ·obtain⟨o',e1⟩:=I.base.there b o e hx;exact free b o' (neC b o e hx) e1 (I.base.free b o e n hx)
 ·obtain⟨o',e1⟩:=I.base.there b o e hx;exact there b o' (neC b o e hx) e1
 ·obtain⟨m1,e1⟩:=I.base.tbls b ps e;obtain⟨m2,e2⟩:=tbls b _ e1;exact⟨m1++m2,by rw[e2,Array.append_assoc]⟩
 ·obtain⟨m,hn,hl⟩:=I.loc;refine⟨m,ns m hn,λ i x v e1 e2 e3=>?_⟩;obtain⟨u,r,l⟩:=hl i x v e1 e2 e3;refine⟨u,r,?_⟩;rcases l with l | ⟨k,c,e,z⟩
  ·exact .inl l
  ·exact .inr ⟨k,c,e,cellK x c e _ z⟩
 ·obtain⟨v,z⟩:=I.cell x c e;exact⟨v,cellK x c e v z⟩
 ·obtain⟨m,⟨o,_,_,ho,_⟩,_⟩:=I.loc;exact free _ o (λ z=>(hch _ z).2.1 rfl) ho I.free
 ·obtain⟨v,o,ho,hd⟩:=I.cell x c e;exact free c o (λ z=>(hch c z).2.2.1 x c e rfl) ho (I.freeC x c e)
 ·obtain⟨e,n,ne,nf,d⟩:=I.pin p hp;have nch:p.1 ∉ ch:=λ z=>(hch p.1 z).2.2.2 p hp rfl;exact⟨keep p.1 p.2 ne nf nch e n,free p.1 p.2 nch e n,ne,nf,d⟩
theorem Inv.un{t':Nat}(I:Inv X pins σ H s)(u:Un X.fs [] H H' s.heap h')(hok:HOk X.prog X.w H' h'):Inv X pins σ H' {s with heap:=h',toks:=t'}:=by
 obtain⟨m,⟨o,es,ep,ho,r⟩,_⟩:=id I.loc;obtain⟨sl,hL⟩:=u.any ho I.free (by simp);exact I.step (g':=s.gens) (d':=s.drawn) (ch:=[]) (λ _ z=>nomatch z) (λ b o _ hb _ e n=>u.keep b o e n hb (by simp)) (λ b o _ hb _ e n=>u.slot b o e n hb (by simp)) (λ b o _ e n=>u.free b o e n (by simp)) (λ b o _ e=>u.there b o e (by simp)) u.tups u.frzs u.tbls (λ m' hm=>by obtain⟨o',es',ep',ho',r'⟩:=hm;rw[ho] at ho';cases ho';exact⟨_,es',ep',hL,r'⟩) hok I.bare
theorem Inv.call{g':Array GenState}{t':Nat}{d':Drawn}{ch:List Addr}(I:Inv X pins σ H s)(u:Un (frs X.stack) ch H H' s.heap h')(hok:HOk X.prog X.w H' h')(hg:AllBare g')
  (hch:∀ b∈ch,(b∈X.ex\/X.s₀.heap.objs.size<=b)/\b≠X.env.locals/\(∀ x c,X.env.cells.lookup x=some c->c≠b)/\∀ p∈X.pn++pins,p.1≠b) :
  Inv X pins σ H' {s with heap:=h',gens:=g',drawn:=d',toks:=t'}:=by
 obtain⟨m,⟨o,es,ep,ho,r⟩,_⟩:=id I.loc;obtain⟨sl,hL⟩:=u.any ho I.free λ z=>(hch _ z).2.1 rfl;exact I.step (ch:=ch) hch (λ b o hL hb hc e n=>u.keep b o e n (λ z=>(List.mem_cons.mp (I.iO b z)).elim hL hb) hc) (λ b o _ _ hc e n=>u.any e n hc) (λ b o hc e n=>u.free b o e n hc) (λ b o hc e=>u.there b o e hc) u.tups u.frzs u.tbls (λ m' hm=>by obtain⟨o',es',ep',ho',r'⟩:=hm;rw[ho] at ho';cases ho';exact⟨_,es',ep',hL,r'⟩) hok hg
theorem Inv.turned{t':Nat}{it:Addr}(I:Inv X pins σ H s)(k:∀ b o,b≠it->s.heap.get? b=some o->h'.get? b=some o)(hn:H it=none)(hL:it≠X.env.locals)
  (h1:it∈X.ex\/X.s₀.heap.objs.size<=it)(h2:∀ x c,X.env.cells.lookup x=some c->c≠it)(h3:∀ p∈X.pn++pins,p.1≠it):Inv X pins σ H {s with heap:=h',toks:=t'}:=by
 have nit:∀ b u,H b=some u->b≠it:=λ b u e z=>by rw[z,hn] at e;cases e
 refine I.step (g':=s.gens) (d':=s.drawn) (ch:=[it]) (λ b hb=>?_) (λ b o _ _ hc e _=>k b o (λ z=>hc (by simp[z])) e) (λ b o _ _ hc e _=>⟨o.slots,k b o (λ z=>hc (by simp[z])) e⟩) (λ _ _ _ _ n=>n)
  (λ b o hc e=>⟨o,k b o (λ z=>hc (by simp[z])) e⟩) (λ _ _ e=>e) (λ _ _ _ e=>e) (λ b ps e=>⟨#[],by rw[e];simp⟩) (λ m hm=>?_) (λ b u e=>?_) I.bare
 ·have e:b=it:=by simpa using hb
  subst e;exact⟨h1,hL,h2,h3⟩
 ·obtain⟨o,es,ep,ho,r⟩:=hm;exact⟨o,es,ep,k _ o (Ne.symm hL) ho,r⟩
 ·refine(I.hok b u e).tE (λ c v hc q=>k c v ?_ q) (λ _ q=>q) λ _ _ q=>q;rcases hc with z | z
  ·rw[z];exact nit b u e
  ·exact nit c _ z
theorem Inv.tok(I:Inv X pins σ H s)(t:Nat):Inv X pins σ H {s with toks:=t}:=I.un (h':=s.heap) (t':=t) Un.refl I.hok
theorem Inv.kept{t':Nat}(I:Inv X pins σ H s)(k:∀ b u,s.heap.get? b=some u->h'.get? b=some u):Inv X pins σ H {s with heap:=h',toks:=t'}:=I.un (Un.kept k) (I.hok.kept k)
theorem Inv.laid{a:Addr}{o:HO}{t':Nat}(I:Inv X pins σ H s)(k:∀ b u,s.heap.get? b=some u->h'.get? b=some u)(hp:s.heap.objs.size<=a)(new:cF X.prog X.w (upd H a o) h' a o) :
  Inv X pins σ (upd H a o) {s with heap:=h',toks:=t'}:=I.un (Un.laid k hp (I.hok.fresh hp)) (I.hok.laid k hp new)
theorem Inv.write{x e:Addr}{o:HO}{t':Nat}(I:Inv X pins σ H s)(mu:Mut (H x))(he:e=x\/H e=some (.own x))(k:∀ b u,b≠e->s.heap.get? b=some u->h'.get? b=some u)(heo:∃ u,h'.get? e=some u)
  (new:cF X.prog X.w (upd H x o) h' x o):Inv X pins σ (upd H x o) {s with heap:=h',toks:=t'}:=I.un (Un.write mu he k heo) (I.hok.write mu he k heo new)
theorem Inv.dY{pins':PN}(I:Inv X pins σ H s)(h:∀ p∈pins',s.heap.get? p.1=some p.2/\H p.1=none/\p.1≠X.env.locals/\p.1 ∉ X.fs/\∀ v,p.2.data ≠ .cell v):Inv X pins' σ H s:=
 ⟨I.ok,I.os,I.bare,I.base,I.loc,I.cell,I.free,I.freeC,λ p hp=>(List.mem_append.mp hp).elim (λ z=>I.pin p (List.mem_append_left _ z)) (h p),I.hok,I.len⟩
theorem qE{N:List Str}(hN:N.Nodup){i j:Nat}{x:Str}(a:N[i]? =some x)(b:N[j]? =some x):i=j:=by obtain⟨h1,e1⟩:=List.getElem?_eq_some_iff.mp a;obtain⟨h2,e2⟩:=List.getElem?_eq_some_iff.mp b;exact(List.getElem_inj hN).mp (e1.trans e2.symm)
theorem vQ{M:Model}{A:Around}{E:VP}{i:Nat}{x:Str}{v:V}{u:Value}{Q:Unit->Shared->Prop}(I:Inv X pins σ H s)(hN:X.N.Nodup)(hi:X.N[i]? =some x)(hx:Loc X.env.scope x)(r:RelV v u)
  (h:∀ s',Inv X pins (σ.set i (some v)) H s'->(∃ a,Heap.SameBut a s.heap s'.heap/\(a=X.env.locals\/X.env.cells.lookup x=some a))->Q () s')(hf:X.fn x=true\/X.env.scope.names.lookup x=some .local:=by first | exact .inl rfl | exact .inr rfl | assumption):wpAny M A (storeName X.env x u) Q E s:=by
 obtain⟨m,hn,hl⟩:=id I.loc;have hcls:(X.env.scope.kind==.class || (X.env.scope.kind==.module&&X.env.locals != X.env.globals))=false:=by rw[I.ok.kind];rfl
 have hiσ:i<σ.length:=by rw[I.len];exact(List.getElem?_eq_some_iff.mp hi).1
 have cne:=I.cne;have tracked:∀ {a:Addr} {h':Heap},(∃ o,s.heap.get? a=some o/\H a=none)->Heap.SameBut a s.heap h'->HOk X.prog X.w H h':=λ {a h'} ha hs b ob e=>by
  obtain⟨_,_,hfree⟩:=ha;refine(I.hok b ob e).tE (λ c w' hc q=>(hs.2 c ?_).trans q) (λ _ q=>q) λ _ _ q=>q;rintro rfl;rcases hc with rfl | hc
  ·rw[hfree] at e;cases e
  ·rw[hfree] at hc;cases hc
 rcases hx with hk | hk
 ·refine wpAny_storeName_local hk hn (λ h' hn' hs=>?_) hcls;obtain⟨oL,_,_,hoL,_⟩:=id hn;refine h _ ⟨I.ok,I.os,I.bare,⟨λ b o e n hb hx=>?_,λ b o e n hb hx=>?_,I.base.free,λ b o e hx=>?_,I.base.tups,I.base.frzs,I.base.tbls⟩,⟨_,hn',λ j y v' e1 e2 e3=>?_⟩,λ y c e=>?_,I.free,I.freeC,λ p hp=>?_,tracked ⟨oL,hoL,I.free⟩ hs,by simpa using I.len⟩ ⟨_,hs,.inl rfl⟩
  ·exact(hs.2 b (Nat.ne_of_lt (Nat.lt_of_lt_of_le (Heap.lt_size e) I.ok.above))).trans (I.base.keep b o e n hb hx)
  ·obtain⟨sl,e1⟩:=I.base.slot b o e n hb hx;exact⟨sl,(hs.2 b (Nat.ne_of_lt (Nat.lt_of_lt_of_le (Heap.lt_size e) I.ok.above))).trans e1⟩
  ·obtain⟨o',e1⟩:=I.base.there b o e hx;exact⟨o',(hs.2 b (Nat.ne_of_lt (Nat.lt_of_lt_of_le (Heap.lt_size e) I.ok.above))).trans e1⟩
  ·by_cases hj:j=i
   ·subst hj;rw[hi] at e1;cases e1;rw[List.getElem?_set_self hiσ] at e2;cases e2;exact⟨u,r,.inl ⟨hk,by simp⟩⟩
   ·rw[List.getElem?_set_ne (Ne.symm hj)] at e2;obtain⟨u',r',q⟩:=hl j y v' e1 e2 e3;refine⟨u',r',?_⟩;rcases q with ⟨k,e⟩ | ⟨k,c,e,z⟩
    ·refine .inl ⟨k,?_⟩;have:y≠x:=λ e=>hj (qE hN e1 (e ▸ hi));simp[this,e]
    ·exact .inr ⟨k,c,e,z.sameBut hs (cne y c e)⟩
  ·obtain⟨w',z⟩:=I.cell y c e;exact⟨w',z.sameBut hs (cne y c e)⟩
  ·obtain⟨e,n,ne,nf,d⟩:=I.pin p hp;exact⟨(hs.2 p.1 ne).trans e,n,ne,nf,d⟩
 ·have hfn:X.fn x=true:=by
   rcases hf with z | z
   ·exact z
   ·rw[z] at hk;cases hk
  obtain⟨c,hc⟩:=I.ok.has x (.inl hk);obtain⟨w',z⟩:=I.cell x c hc;refine wpAny_storeName_cell I.ok.kind hk hc z (λ h' hc' hs=>?_);obtain⟨oc,hoc,hocd⟩:=id z;refine h {s with heap:=h'} ⟨I.ok,I.os,I.bare,⟨λ b o e n hb hx=>?_,λ b o e n hb hx=>?_,I.base.free,λ b o e hx=>?_,I.base.tups,I.base.frzs,I.base.tbls⟩,⟨m,hn.sameBut hs (Ne.symm (cne x c hc)),λ j y v' e1 e2 e3=>?_⟩,λ y c' e=>?_,I.free,I.freeC,λ p hp=>?_,tracked ⟨oc,hoc,I.freeC x c hc⟩ hs,by simpa using I.len⟩ ⟨c,hs,.inr hc⟩
  ·exact(hs.2 b (Nat.ne_of_lt (Nat.lt_of_lt_of_le (Heap.lt_size e) (I.ok.cab x c hfn hc)))).trans (I.base.keep b o e n hb hx)
  ·obtain⟨sl,e1⟩:=I.base.slot b o e n hb hx;exact⟨sl,(hs.2 b (Nat.ne_of_lt (Nat.lt_of_lt_of_le (Heap.lt_size e) (I.ok.cab x c hfn hc)))).trans e1⟩
  ·obtain⟨o',e1⟩:=I.base.there b o e hx;exact⟨o',(hs.2 b (Nat.ne_of_lt (Nat.lt_of_lt_of_le (Heap.lt_size e) (I.ok.cab x c hfn hc)))).trans e1⟩
  ·by_cases hj:j=i
   ·subst hj;rw[hi] at e1;cases e1;rw[List.getElem?_set_self hiσ] at e2;cases e2;exact⟨u,r,.inr ⟨.inl hk,c,hc,hc'⟩⟩
   ·rw[List.getElem?_set_ne (Ne.symm hj)] at e2;obtain⟨u',r',q⟩:=hl j y v' e1 e2 e3;refine⟨u',r',?_⟩;rcases q with q | ⟨k,c',e,z'⟩
    ·exact .inl q
    ·refine .inr ⟨k,c',e,z'.sameBut hs ?_⟩;rintro rfl;exact hj (qE hN e1 (I.ok.inj _ _ _ e hc ▸ hi))
  ·by_cases hcc:c'=c
   ·subst hcc;exact⟨_,hc'⟩
   ·obtain⟨w2,z2⟩:=I.cell y c' e;exact⟨w2,z2.sameBut hs hcc⟩
  ·obtain⟨e,n,ne,nf,d⟩:=I.pin p hp;refine⟨(hs.2 p.1 ?_).trans e,n,ne,nf,d⟩;intro q;rw[q,hoc] at e;have q':oc=p.2:=Option.some.inj e;exact d w' (by rw[<- q'];exact hocd)
theorem rT{M:Model}{A:Around}{E:VP}{i:Nat}{x:Str}{v:V}{u:Value}{Q:Unit->Shared->Prop}(I:Inv X pins σ H s)(hN:X.N.Nodup)(hi:X.N[i]? =some x)(hx:Loc X.env.scope x)(r:RelV v u)
  (h:∀ s',Inv X pins (σ.set i (some v)) H s'->Q () s')(hf:X.fn x=true\/X.env.scope.names.lookup x=some .local:=by first | exact .inl rfl | exact .inr rfl | assumption):wpAny M A (storeName X.env x u) Q E s:=
 vQ I hN hi hx r (λ s' I' _=>h s' I') hf
theorem Inv.acK{s':Shared}{ch:List Addr}(I:Inv X pins σ H s)(ho:s'.os=s.os)(u:Un (frs X.stack) ch H H' s.heap s'.heap)(hok:HOk X.prog X.w H' s'.heap)(hg:AllBare s'.gens)
  (hch:∀ b∈ch,(b∈X.ex\/X.s₀.heap.objs.size<=b)/\b≠X.env.locals/\(∀ x c,X.env.cells.lookup x=some c->c≠b)/\∀ p∈X.pn++pins,p.1≠b):Inv X pins σ H' s':=by
 obtain⟨h',g',d',t',o'⟩:=s';have e:o'=s.os:=ho;subst e;exact I.call (g':=g') (t':=t') (d':=d') u hok hg hch
end
abbrev XK:=Value->Option Addr->Hp->Prop
abbrev St:=List (Option V)
abbrev VK:=V->Hp->Prop
abbrev TE:=St->Hp->VK->Prop
abbrev TT:=St->Hp->(Bool->Hp->Prop)->Prop
abbrev TA:=St->Hp->(List V->Hp->Prop)->Prop
structure Ends where
 nx:St->Hp->Prop
 rt:VK
 bk:St->Hp->Prop:=λ _ _=>False
 ct:St->Hp->Prop:=λ _ _=>False
abbrev TS:=Ends->St->Hp->Prop
def EP(X:Cx)(pins:PN)(σ:St)(Q:VK)(u:Value)(s':Shared):Prop:=∃ v H',Inv X pins σ H' s'/\RelV v u/\Q v H'
def TP(X:Cx)(pins:PN)(σ:St)(Q:Bool->Hp->Prop)(b:Bool)(s':Shared):Prop:=∃ H',Inv X pins σ H' s'/\Q b H'
def AP(X:Cx)(pins:PN)(σ:St)(Q:List V->Hp->Prop)(us:List Value)(s':Shared):Prop:=∃ vs H',Inv X pins σ H' s'/\Vals vs us/\Q vs H'
def SP(X:Cx)(pins:PN)(D:Ends)(f:Flow)(s':Shared):Prop:=
 match f with
 | .next=>∃ σ' H',Inv X pins σ' H' s'/\D.nx σ' H'
 | .brk=>∃ σ' H',Inv X pins σ' H' s'/\D.bk σ' H'
 | .cont=>∃ σ' H',Inv X pins σ' H' s'/\D.ct σ' H'
 | .ret u=>∃ v σ' H',Inv X pins σ' H' s'/\RelV v u/\D.rt v H'
def PE(X:Cx)(e:Expr)(t:TE):Prop:=
 ∀ (pins:PN) (s:Shared) (σ:St) (H:Hp) (Q:VK),Inv X pins σ H s->t σ H Q->wpAny (model X.prog X.w) X.A (eval e X.env) (EP X pins σ Q) X.xe s
def PT(X:Cx)(e:Expr)(t:TT):Prop:=
 ∀ (pins:PN) (s:Shared) (σ:St) (H:Hp) (Q:Bool->Hp->Prop),Inv X pins σ H s->t σ H Q->wpAny (model X.prog X.w) X.A (isTrue e X.env (eval e X.env)) (TP X pins σ Q) X.xe s
def PW(X:Cx)(e:Expr)(t:TT):Prop:=
 ∀ (whole:Sem Value) (pins:PN) (s:Shared) (σ:St) (H:Hp) (Q:Bool->Hp->Prop),Inv X pins σ H s->t σ H Q->wpAny (model X.prog X.w) X.A (isTrue e X.env whole) (TP X pins σ Q) X.xe s
theorem PW.pt{X:Cx}{e:Expr}{t:TT}(h:PW X e t):PT X e t:=h _
def PA(X:Cx)(es:List Expr)(t:TA):Prop:=
 ∀ (pos:Pos) (pins:PN) (s:Shared) (σ:St) (H:Hp) (Q:List V->Hp->Prop),Inv X pins σ H s->t σ H Q->wpAny (model X.prog X.w) X.A (spliced (backTo pos (starEach es X.env))) (AP X pins σ Q) X.xe s
def PS(X:Cx)(st:Stmt)(t:TS):Prop:=
 ∀ (pins:PN) (s:Shared) (σ:St) (H:Hp) (D:Ends),Inv X pins σ H s->t D σ H->wpAny (model X.prog X.w) X.A (exec st X.env) (SP X pins D) X.xe s
def PSs(X:Cx)(st:List Stmt)(t:TS):Prop:=
 ∀ (pins:PN) (s:Shared) (σ:St) (H:Hp) (D:Ends),Inv X pins σ H s->t D σ H->wpAny (model X.prog X.w) X.A (execs st X.env) (SP X pins D) X.xe s
theorem thn{α:Type}{t:Sem α}{Q Q':α->Shared->Prop}{M:Model}{A:Around}{E:VP}{s:Shared}(h:wpAny M A t Q E s)(hQ:∀ a s,Q a s->Q' a s):wpAny M A t Q' E s:=wpAny_mono h hQ λ _ _ x=>x
section
variable {X:Cx}
def ag1(i:Nat):TE:=λ σ H Q=>∃ v,σ[i]? =some (some v)/\Q v H
def tC(v:V):TE:=λ _ H Q=>Q v H
theorem ae1{i:Nat}{x:Str}{pos:Pos}(hN:X.N[i]? =some x)(hv:Vis X.env.scope x)(hd:ND x:=by decide)(hcd:(x==("__classdict__" : Str))=false:=by decide):PE X (.Name x pos) (ag1 i):=by
 intro pins s σ H Q I h;obtain⟨v,e,h⟩:=h;obtain⟨m,hn,hl⟩:=I.loc;obtain⟨u,r,l⟩:=hl i x v hN e hv;have fin:EP X pins σ Q u s:=⟨v,H,I,r,h⟩;rcases l with ⟨hk,hm⟩ | ⟨hk,c,hc,hcell⟩
 ·exact wpAny_Name (wpAny_loadName_local I.ok.kind hk hn hm fin) hd
 ·rcases hk with hk | hk
  ·exact wpAny_Name (wpAny_loadName_cell I.ok.kind hk hc hcell fin) hd
  ·exact wpAny_Name (wpAny_loadName_free I.ok.kind hk hc hcell fin hcd) hd
theorem ael{i j pos}:PE X (.Constant (.int i) j pos) (tC (.int i)):=λ _ _ _ H _ I h=>wpAny_Constant_int ⟨.int i,H,I.tok _,⟨_,rfl⟩,h⟩
theorem af8{b j pos}:PE X (.Constant (.bool b) j pos) (tC (.bl b)):=λ _ _ _ H _ I h=>Constant_bool ⟨.bl b,H,I,rfl,h⟩
theorem adh{j pos}:PE X (.Constant .none j pos) (tC .non):=λ _ _ _ H _ I h=>Constant_none ⟨.non,H,I,rfl,h⟩
theorem ae4{x j pos}:PE X (.Constant (.str x) j pos) (tC (.str x)):=λ _ _ _ H _ I h=>Calls.Constant_str ⟨.str x,H,I.tok _,⟨_,rfl⟩,h⟩
def Gl(X:Cx)(x:Str):Prop:=X.env.kindOf x=some .globalImplicit
theorem vE{E:VP}{pins:PN}{s:Shared}{σ:St}{H:Hp}{x:Str}{u:Value}{pos:Pos}{Q:VP}(I:Inv X pins σ H s)(hg:Gl X x)(hm:X.mg x=some u)(h:Q u s)
  (hd:ND x:=by decide):wpAny (model X.prog X.w) X.A (eval (.Name x pos) X.env) Q E s:=
 Calls.Name_function_global I.ok.kind hg (Calls.loadGlobal_global (by rw[I.ok.glob];exact I.mod.glob.keeps I.bk) hm h) hd
theorem kL{E:VP}{pins:PN}{s:Shared}{σ:St}{H:Hp}{x:Str}{u:Value}{pos:Pos}{Q:VP}(I:Inv X pins σ H s)(hg:Gl X x)(hm:X.mg x=none)(hv:bootBuiltins x=some u)(h:Q u s)
  (hn:x ≠ "__name__":= by decide)(hd:ND x:=by decide):wpAny (model X.prog X.w) X.A (eval (.Name x pos) X.env) Q E s:=by
 obtain⟨mb,h1,h2⟩:=I.mod.blt;exact Calls.Name_function_global I.ok.kind hg (Calls.loadGlobal_builtin (by rw[I.ok.glob];exact I.mod.glob.keeps I.bk) hm (by rw[I.ok.blt];exact h1.keeps I.bk) ((h2 x hn).trans hv) h) hd
theorem aan{x:Str}{v:V}{u:Value}{pos:Pos}(hg:Gl X x)(hm:X.mg x=none)(hv:bootBuiltins x=some u)(r:RelV v u)(hn:x ≠ "__name__":= by decide)(hd:ND x:=by decide):PE X (.Name x pos) (tC v):=
 λ _ _ _ H _ I h=>kL I hg hm hv ⟨v,H,I,r,h⟩ hn hd
variable {a b:Expr}{ta tb:TE}{pos:Pos}
theorem i7(b:Expr){op:CmpOp}(h:op ≠ .In)(h2:op ≠ .NotIn):behindInMarks op b=false:=by
 have e1:(op==CmpOp.In)=false:=by cases op<;>first | rfl | exact absurd rfl h
 have e2:(op==CmpOp.NotIn)=false:=by cases op<;>first | rfl | exact absurd rfl h2
 cases b<;>simp[behindInMarks,e1,e2]
def tB(t:TE):TT:=λ σ H Q=>t σ H λ x H1=>∃ c,x=.bl c/\Q c H1
theorem aeF{e:Expr}{t:TE}(h:PE X e t)(he:∀ whole,isTrue e X.env whole=(do let v <- whole;standAt e.pos;holding [v] (truthy v)):=by intro _;rfl):PT X e (tB t):=by intro pins s σ H Q I hw;refine isTrue_plain (thn (h pins s σ H _ I hw) λ v s1 ⟨x,H1,I1,r1,q1⟩=>?_) (he _);obtain⟨d,rfl,q⟩:=q1;cases r1;exact wpAny_truthy_bool ⟨H1,I1,q⟩
variable {tA tB':TT}{rest:List Expr}
def tOr(t u:TT):TT:=λ σ H Q=>t σ H λ c H1=>if c=true then Q true H1 else u σ H1 Q
def ahi(t:TT):TT:=λ σ H Q=>t σ H λ c H1=>Q (!c) H1
theorem pw_or1(ha:PT X a tA):PW X (.BoolOp .Or [a] pos) tA:=by
 intro wh pins s σ H Q I h;refine isTrue_or (thn (ha pins s σ H Q I h) λ c s1 e=>?_);cases c with
 | false=>exact isTrue_or_nil e
 | true=>exact e
theorem pw_or(ha:PT X a tA)(hb:PW X (.BoolOp .Or (b::rest) pos) tB'):PW X (.BoolOp .Or (a::b::rest) pos) (tOr tA tB'):=by
 intro wh pins s σ H Q I h;refine isTrue_or (thn (ha pins s σ H _ I h) λ c s1 hq1=>?_);obtain⟨H1,I1,q1⟩:=hq1;cases c with
 | true=>exact⟨H1,I1,q1⟩
 | false=>exact hb wh pins s1 σ H1 Q I1 q1
theorem aei(ha:PT X a tA):PT X (.UnaryOp .Not a pos) (ahi tA):=by intro pins s σ H Q I h;exact isTrue_not (ha pins s σ H (λ c H1=>Q (!c) H1) I h)
def afI(ta tb:TE):TE:=λ σ H Q=>ta σ H λ x H1=>∃ c,x=.bl c/\if c=true then tb σ H1 Q else Q (.bl false) H1
def ahH(ta tb:TE):TE:=λ σ H Q=>ta σ H λ x H1=>∃ c,x=.bl c/\if c=true then Q (.bl true) H1 else tb σ H1 Q
def afw(ta:TE):TE:=λ σ H Q=>ta σ H λ x H1=>∃ c,x=.bl c/\Q (.bl (!c)) H1
theorem acB{op}{t:TE}(h:PE X a t):PE X (.BoolOp op [a] pos) t:=λ pins s σ H Q I hw=>BoolOp_one (h pins s σ H Q I hw)
theorem ac1(ha:PE X a ta)(hb:PE X (.BoolOp .And (b::rest) pos) tb):PE X (.BoolOp .And (a::b::rest) pos) (afI ta tb):=by
 intro pins s σ H Q I h;refine BoolOp_and (thn (ha pins s σ H _ I h) λ v s1 hq2=>?_);obtain⟨x,H1,I1,r1,q1⟩:=hq2;obtain⟨c,rfl,q1⟩:=q1;cases r1;refine wpAny_truthy_bool ?_;cases c with
 | true=>exact hb pins s1 σ H1 Q I1 q1
 | false=>exact⟨.bl false,H1,I1,rfl,q1⟩
theorem agg(ha:PE X a ta)(hb:PE X (.BoolOp .Or (b::rest) pos) tb):PE X (.BoolOp .Or (a::b::rest) pos) (ahH ta tb):=by
 intro pins s σ H Q I h;refine BoolOp_or (thn (ha pins s σ H _ I h) λ v s1 hq3=>?_);obtain⟨x,H1,I1,r1,q1⟩:=hq3;obtain⟨c,rfl,q1⟩:=q1;cases r1;refine wpAny_truthy_bool ?_;cases c with
 | false=>exact hb pins s1 σ H1 Q I1 q1
 | true=>exact⟨.bl true,H1,I1,rfl,q1⟩
theorem aex(ha:PE X a ta):PE X (.UnaryOp .Not a pos) (afw ta):=by intro pins s σ H Q I h;refine UnaryOp_ (thn (ha pins s σ H _ I h) λ v s1 hq4=>?_);obtain⟨x,H1,I1,r1,q1⟩:=hq4;obtain⟨c,rfl,q1⟩:=q1;cases r1;exact not_of (wpAny_truthy_bool ⟨.bl (!c),H1,I1,rfl,q1⟩)
end
def SqL(K:FG)(H:Hp)(a:Addr)(xs:List V):Prop:=
 Rd H a (.lst xs) \/
  ∃ (o:Obj) (its:Array Value) (n:Nat),K.lookup a=some o/\o.cls=.type "list" /\ o.dict=none/\o.data=.seq its n/\its.size<=sizeLine/\Vals xs its.toList
def SqT(K:FG)(H:Hp)(a:Addr)(xs:List V):Prop:=
 Rd H a (.tup xs) \/
  ∃ (o:Obj) (its:Array Value) (n:Nat),K.lookup a=some o/\o.cls=.type "tuple" /\ o.dict=none/\o.data=.seq its n/\its.size<=sizeLine/\Vals xs its.toList
def ahv:Value->Option V
 | .none=>some .non
 | .bool b=>some (.bl b)
 | .int i _=>some (.int i)
 | .str x _=>some (.str x)
 | .bytes b _=>some (.byt b)
 | .float b _=>some (.flt b)
 | .ref a=>some (.ref a)
 | .type n=>some (.ty n)
 | _=>none
theorem RelV.abs{x:V}{u:Value}(r:RelV x u):ahv u=some x:=by
 cases x with
 | non=>cases r;rfl
 | bl _=>cases r;rfl
 | int _=>obtain⟨t,rfl⟩:=r;rfl
 | str _=>obtain⟨t,rfl⟩:=r;rfl
 | byt _=>obtain⟨t,rfl⟩:=r;rfl
 | flt _=>obtain⟨t,rfl⟩:=r;rfl
 | ref _=>cases r;rfl
 | ty _=>cases r;rfl
theorem RelV.inj{x y:V}{u:Value}(r:RelV x u)(q:RelV y u):x=y:=Option.some.inj (r.abs.symm.trans q.abs)
theorem Vals.inj:∀ {xs ys:List V} {us:List Value},Vals xs us->Vals ys us->xs=ys
 | _,_,_,.nil,.nil=>rfl
 | _,_,_,.cons r t,.cons r' t'=>by rw[r.inj r',Vals.inj t t']
section
variable {X:Cx}{pins:PN}{σ:St}{H:Hp}{s:Shared}{a:Addr}{xs ys:List V}
theorem SqL.of{K:FG}(h:H a=some (.lst xs)):SqL K H a xs:=.inl (.inl h)
theorem Inv.list(I:Inv X pins σ H s)(h:SqL X.K H a xs):∃ its:List Value,Vals xs its/\PlainL s.heap a its.toArray/\xs.length<=sizeLine:=by
 rcases h with h | ⟨o,its,n,hk,hc,hd,hs,hz,r⟩
 ·obtain⟨z,its,n,r,e⟩:=h.ok I.hok;exact⟨its,r,⟨_,n,e,rfl,rfl,rfl⟩,z⟩
 ·refine⟨its.toList,r,⟨o,n,I.kIn a o hk,hc,hd,by simpa using hs⟩,?_⟩;have e:=r.length;simp only[Array.length_toList] at e;omega
theorem Inv.agT(I:Inv X pins σ H s)(h:SqT X.K H a xs):∃ its:List Value,Vals xs its/\xW s.heap a its.toArray/\xs.length<=sizeLine:=by
 rcases h with h | ⟨o,its,n,hk,hc,hd,hs,hz,r⟩
 ·obtain⟨z,its,r,p⟩:=h.ok I.hok;exact⟨its,r,p,z⟩
 ·refine⟨its.toList,r,⟨o,I.kIn a o hk,hc,hd,n,by simpa using hs⟩,?_⟩;have e:=r.length;simp only[Array.length_toList] at e;omega
theorem Inv.tuple(I:Inv X pins σ H s)(h:SqT X.K H a xs):∃ its:List Value,Vals xs its/\IsTup s.heap a its.toArray/\xs.length<=sizeLine:=by obtain⟨its,r,p,z⟩:=I.agT h;exact⟨its,r,p.tup,z⟩
theorem Inv.xu(I:Inv X pins σ H s)(h:SqL X.K H a xs)(h':SqL X.K H a ys):xs=ys:=by
 obtain⟨its,r,⟨o,n,e,_,_,d⟩,_⟩:=I.list h;obtain⟨its',r',⟨o',n',e',_,_,d'⟩,_⟩:=I.list h';rw[e] at e';cases e';rw[d] at d'
 injection d' with d1 _
 have:its=its':=by simpa using congrArg Array.toList d1
 subst this;exact r.inj r'
theorem Inv.wa(I:Inv X pins σ H s)(h:SqT X.K H a xs)(h':SqT X.K H a ys):xs=ys:=by
 obtain⟨its,r,⟨o,e,_,n,d⟩,_⟩:=I.tuple h;obtain⟨its',r',⟨o',e',_,n',d'⟩,_⟩:=I.tuple h';rw[e] at e';cases e';rw[d] at d'
 injection d' with d1 _
 have:its=its':=by simpa using congrArg Array.toList d1
 subst this;exact r.inj r'
end
abbrev Cx.wN(X:Cx)(E:VP):Cx:={X with xe:=E}
abbrev Cx.nox(X:Cx):Cx:=X.wN λ _ _=>False
theorem Cx.Ok.wN{X:Cx}(ok:X.Ok)(E:VP):(X.wN E).Ok:=
 ⟨ok.mod,ok.kind,ok.glob,ok.blt,ok.above,ok.inj,ok.has,ok.cab,ok.hd,ok.frames,ok.stk,ok.exf,ok.bs,ok.bsz,ok.noex,ok.exfs,ok.oZ,ok.frf⟩
theorem Cx.Ok.iG{X:Cx}{E:VP}(ok:(X.wN E).Ok):X.Ok:=
 ⟨ok.mod,ok.kind,ok.glob,ok.blt,ok.above,ok.inj,ok.has,ok.cab,ok.hd,ok.frames,ok.stk,ok.exf,ok.bs,ok.bsz,ok.noex,ok.exfs,ok.oZ,ok.frf⟩
section
variable {X:Cx}{pins:PN}{σ:St}{H:Hp}{s:Shared}{E:VP}
theorem Inv.wN(I:Inv X pins σ H s)(E:VP):Inv (X.wN E) pins σ H s:=⟨I.ok.wN E,I.os,I.bare,I.base,I.loc,I.cell,I.free,I.freeC,I.pin,I.hok,I.len⟩
theorem Inv.iG(I:Inv (X.wN E) pins σ H s):Inv X pins σ H s:=⟨I.ok.iG,I.os,I.bare,I.base,I.loc,I.cell,I.free,I.freeC,I.pin,I.hok,I.len⟩
theorem SP.iG{D:Ends}{f:Flow}{s':Shared}(h:SP (X.wN E) pins D f s'):SP X pins D f s':=by
 cases f with
 | next=>obtain⟨σ',H',I,q⟩:=h;exact⟨σ',H',I.iG,q⟩
 | brk=>obtain⟨σ',H',I,q⟩:=h;exact⟨σ',H',I.iG,q⟩
 | cont=>obtain⟨σ',H',I,q⟩:=h;exact⟨σ',H',I.iG,q⟩
 | ret u=>obtain⟨v,σ',H',I,r,q⟩:=h;exact⟨v,σ',H',I.iG,r,q⟩
theorem PSs.nox{st:List Stmt}{t:TS}(h:PSs X.nox st t):PSs X st t:=λ pins s σ H D I hw =>
 wpAny_mono (h pins s σ H D (I.wN _) hw) (λ _ _ q=>q.iG) λ _ _ z=>False.elim z
end
section
variable {X:Cx}{st:Stmt}{rest:List Stmt}{t u:TS}{e:Expr}{te:TE}{pos:Pos}
def agz:TS:=λ D σ H=>D.nx σ H
def ahB(t u:TS):TS:=λ D σ H=>t {D with nx:=u D} σ H
theorem aaG:PSs X [] agz:=λ _ _ σ H _ I h=>wpAny_execs_nil ⟨σ,H,I,h⟩
theorem wY(h1:PS X st t)(h2:PSs X rest u):PSs X (st::rest) (ahB t u):=by
 intro pins s σ H D I h;refine wpAny_execs_cons (thn (h1 pins s σ H {D with nx:=u D} I h) λ f s1 q=>?_);cases f with
 | next =>
  obtain⟨σ',H',I',q⟩:=q;exact h2 pins s1 σ' H' D I' q
 | ret v=>exact q
 | brk=>exact q
 | cont=>exact q
theorem ab2(h1:PS X st t):PSs X [st] t:=by
 intro pins s σ H D I h;refine wpAny_execs_cons (thn (h1 pins s σ H D I h) λ f s1 q=>?_);cases f with
 | next=>exact wpAny_execs_nil q
 | ret v=>exact q
 | brk=>exact q
 | cont=>exact q
theorem Inv.quiet{pins:PN}{σ:St}{H:Hp}{s:Shared}(I:Inv X pins σ H s):interactive X.env=false:=by simp[interactive,I.ok.kind]
def afo(te:TE):TS:=λ D σ H=>te σ H λ _ H1=>D.nx σ H1
theorem ab0(he:PE X e te)(hs:swapsWith e none pos.line X.env=pure false:=by rfl):PS X (.Expr e pos) (afo te):=by intro pins s σ H D I h;exact wpAny_Expr_any (thn (he pins s σ H _ I h) λ v s1 ⟨x,H1,I1,r1,q1⟩=>⟨σ,H1,I1,q1⟩) I.quiet hs
def ahA(te:TE):TS:=λ D σ H=>te σ H D.rt
theorem ac7(he:PE X e te):PS X (.Return (some e) pos) (ahA te):=by intro pins s σ H D I h;exact wpAny_Return_some (thn (he pins s σ H _ I h) λ v s1 ⟨x,H1,I1,r1,q1⟩=>⟨x,σ,H1,I1,r1,q1⟩)
def ahh(c:TT)(t u:TS):TS:=λ D σ H=>c σ H λ b H1=>if b=true then t D σ H1 else u D σ H1
theorem afB{c:Expr}{a b:List Stmt}{tc:TT}(hc:PT X c tc)(ha:PSs X a t)(hb:PSs X b u):PS X (.If c a b pos) (ahh tc t u):=by
 intro pins s σ H D I h;refine wpAny_If (thn (hc pins s σ H _ I h) λ d s1 hq5=>?_);obtain⟨H1,I1,q1⟩:=hq5;cases d with
 | true=>exact ha pins s1 σ H1 D I1 q1
 | false=>exact hb pins s1 σ H1 D I1 q1
end
abbrev TG:=V->St->Hp->(St->Hp->Prop)->Prop
abbrev TGs:=List V->St->Hp->(St->Hp->Prop)->Prop
def PG(X:Cx)(target:Expr)(t:TG):Prop:=
 ∀ (pins:PN) (s:Shared) (σ:St) (H:Hp) (v:V) (u:Value) (Q:St->Hp->Prop),Inv X pins σ H s->RelV v u->t v σ H Q ->
  wpAny (model X.prog X.w) X.A (assign target X.env u) (λ _ s'=>∃ σ' H',Inv X pins σ' H' s'/\Q σ' H') X.xe s
def PGs(X:Cx)(ts:List Expr)(t:TGs):Prop:=
 ∀ (pins:PN) (s:Shared) (σ:St) (H:Hp) (vs:List V) (us:List Value) (Q:St->Hp->Prop),Inv X pins σ H s->Vals vs us->t vs σ H Q ->
  wpAny (model X.prog X.w) X.A (assignInOrder ((assignEach ts X.env).map (·.2)) us) (λ _ s'=>∃ σ' H',Inv X pins σ' H' s'/\Q σ' H') X.xe s
abbrev aeh:=V->V->V->Hp->(Hp->Prop)->Prop
def afx(X:Cx)(t:aeh):Prop:=
 ∀ (pins:PN) (s:Shared) (σ:St) (H:Hp) (o i v:V) (ov iv u:Value) (Q:Hp->Prop),Inv X pins σ H s->RelV o ov->RelV i iv->RelV v u->t o i v H Q ->
  wpAny (model X.prog X.w) X.A (setItem ov iv u) (λ _ s'=>∃ H',Inv X pins σ H' s'/\Q H') X.xe s
abbrev TIp:=V->V->Hp->VK->Prop
def PIp(X:Cx)(op:Operator)(t:TIp):Prop:=
 ∀ (pins:PN) (s:Shared) (σ:St) (H:Hp) (x y:V) (v u:Value) (Q:VK),Inv X pins σ H s->RelV x v->RelV y u->t x y H Q ->
  wpAny (model X.prog X.w) X.A (inplaceOp op v u) (EP X pins σ Q) X.xe s
section
variable {X:Cx}{pos:Pos}
def aa8(i:Nat):TG:=λ v σ H Q=>Q (σ.set i (some v)) H
theorem uk{i:Nat}{x:Str}(hN:X.N.Nodup)(hi:X.N[i]? =some x)(hx:Loc X.env.scope x)(hf:X.fn x=true\/X.env.scope.names.lookup x=some .local:=by first | exact .inl rfl | exact .inr rfl | assumption):PG X (.Name x pos) (aa8 i):=by intro pins s σ H v u Q I r h;exact wpAny_assign_Name (rT I hN hi hx r (λ s' I'=>⟨_,H,I',h⟩) hf)
def ahl:TGs:=λ vs σ H Q=>vs=[]/\Q σ H
def afr(t:TG)(u:TGs):TGs:=λ vs σ H Q=>∃ v r,vs=v::r/\t v σ H λ σ' H'=>u r σ' H' Q
theorem aar:PGs X [] ahl:=by intro pins s σ H vs us Q I r h;obtain⟨e,h⟩:=h;subst e;cases r;exact assignInOrder_nil ⟨σ,H,I,h⟩
theorem xP{e:Expr}{es:List Expr}{t:TG}{u:TGs}(h1:PG X e t)(h2:PGs X es u)
  (hs:(assignEach (e::es) X.env).map (·.2)=assign e X.env::(assignEach es X.env).map (·.2):=by rfl):PGs X (e::es) (afr t u):=by
 intro pins s σ H vs us Q I r h;obtain⟨v,vr,e1,h⟩:=h;subst e1;cases r with
 | cons r rr =>
  rw[hs];refine assignInOrder_cons (thn (h1 pins s σ H _ _ _ I r h) λ _ s1 hq6=>?_);obtain⟨σ1,H1,I1,q1⟩:=hq6;exact h2 pins s1 σ1 H1 _ _ Q I1 rr q1
def agN(K:FG)(n:Nat)(t:TGs):TG:=λ v σ H Q=>∃ a xs,v=.ref a/\SqT K H a xs/\xs.length=n/\t xs σ H Q
theorem uy{es:List Expr}{k:Nat}{t:TGs}{n:Nat}(hc:X.calm=true)(h:PGs X es t)
  (hn:(assignEach es X.env).length=n:=by rfl)(hst:(assignEach es X.env).findIdx? (·.1)=none:=by rfl):PG X (.Tuple es k pos) (agN X.K n t):=by
 intro pins s σ H v u Q I r hw;obtain⟨a,xs,e1,hq,hl,hw⟩:=hw;subst e1;cases r;obtain⟨its,rv,ht,hz⟩:=I.tuple hq;refine assign_Tuple_tuple (I.ok.hd hc) ht (by simp[hn,<- hl,rv.length]) hst λ h' hx=>?_;have I1:Inv X pins σ H {s with heap:=h'}:=I.kept (t':=s.toks) λ b o e=>hx b o (Nat.ne_of_lt (Heap.lt_size e)) e;exact h pins _ σ H xs _ Q I1 (by simpa using rv) hw
def ahm(to ti:TE)(t:aeh):TG:=λ v σ H Q=>to σ H λ o H1=>ti σ H1 λ i H2=>t o i v H2 λ H3=>Q σ H3
theorem ad3{o i:Expr}{to ti:TE}{t:aeh}(ho:PE X o to)(hi:PE X i ti)(hs:afx X t)
  (ha:∀ v,assign (.Subscript o i pos) X.env v=(do
   let ov <- holding [v] (eval o X.env)
   let iv <- holding [v,ov] (eval i X.env)
   standAt pos
   holding [v,ov,iv] (setItem ov iv v)
   release [v,ov,iv] []):=by intro _;rfl):PG X (.Subscript o i pos) (ahm to ti t):=by
 intro pins s σ H v u Q I r h;rw[ha];refine wpAny_bind (wpAny_holding (thn (ho pins s σ H _ I h) λ ov s1 hq7=>?_));obtain⟨x,H1,I1,r1,q1⟩:=hq7;refine wpAny_bind (wpAny_holding (thn (hi pins s1 σ H1 _ I1 q1) λ iv s2 hq8=>?_));obtain⟨y,H2,I2,r2,q2⟩:=hq8;refine wpAny_bind (wpAny_standAt (wpAny_bind (wpAny_holding (thn (hs pins s2 σ H2 x y v ov iv u _ I2 r1 r2 r q2) λ _ s3 hq9=>?_))));obtain⟨H3,I3,q3⟩:=hq9;exact wpAny_release ⟨σ,H3,I3,q3⟩
def afd(te:TE)(g:TG):TS:=λ D σ H=>te σ H λ x H1=>g x σ H1 D.nx
theorem yR{tg e:Expr}{te:TE}{g:TG}(he:PE X e te)(hg:PG X tg g)(hs:swapsWithSole [tg] e pos.line X.env=pure false:=by rfl)(hw:swappedStores [tg] e X.env=pure none:=by rfl)
  (h1:(assignEach [tg] X.env).map (·.2)=[assign tg X.env]:=by rfl):PS X (.Assign [tg] e pos) (afd te g):=by
 intro pins s σ H D I h;refine wpAny_Assign_stores (thn (he pins s σ H _ I h) λ v s1 ⟨x,H1,I1,r1,q1⟩=>?_) hs hw;rw[h1];exact thn (hg pins s1 σ H1 x v _ I1 r1 q1) λ _ s2 q=>q
theorem acP{i:Nat}{x:Str}{e:Expr}{te:TE}{pos':Pos}(hN:X.N.Nodup)(hi:X.N[i]? =some x)(hx:Loc X.env.scope x)(he:PE X e te)(hs:swapsWith e (some (.Name x pos')) pos.line X.env=pure false:=by rfl)(hf:X.fn x=true\/X.env.scope.names.lookup x=some .local:=by first | exact .inl rfl | exact .inr rfl | assumption) :
  PS X (.Assign [.Name x pos'] e pos) (afd te (aa8 i)):=by
 intro pins s σ H D I h;refine wpAny_Assign_Name (thn (he pins s σ H _ I h) λ v s1 ⟨y,H1,I1,r1,q1⟩=>?_) hs;exact rT I1 hN hi hx r1 (λ s2 I2=>⟨_,H1,I2,q1⟩) hf
def agA(to ti te:TE)(dg:V->V->Hp->VK->Prop)(tip:TIp)(tset:aeh):TS:=λ D σ H=>to σ H λ o H1=>ti σ H1 λ i H2=>dg o i H2 λ x H3=>te σ H3 λ y H4=>tip x y H4 λ z H5=>tset o i z H5 λ H6=>D.nx σ H6
def agX(X:Cx)(t:V->V->Hp->VK->Prop):Prop:=
 ∀ (pins:PN) (s:Shared) (σ:St) (H:Hp) (o i:V) (ov iv:Value) (Q:VK),Inv X pins σ H s->RelV o ov->RelV i iv->t o i H Q ->
  wpAny (model X.prog X.w) X.A (getItem ov iv) (EP X pins σ Q) X.xe s
theorem aak{o i e:Expr}{to ti te:TE}{dg:V->V->Hp->VK->Prop}{tip:TIp}{tset:aeh}{op:Operator}{tpos:Pos}(ho:PE X o to)(hi:PE X i ti)(hg:agX X dg)(he:PE X e te)(hp:PIp X op tip)(hs:afx X tset)
  (ha:∀ ov iv new,augStore i ov iv new=(do holding [new,ov,iv] (setItem ov iv new);release [new,ov,iv] [];pure .next):=by intros;rfl):PS X (.AugAssign (.Subscript o i tpos) op e pos) (agA to ti te dg tip tset):=by
 intro pins s σ H D I h;refine wpAny_AugAssign_SubscriptAny (thn (ho pins s σ H _ I h) λ ov s1 ⟨x1,H1,I1,r1,q1⟩=>?_) ha;refine thn (hi pins s1 σ H1 _ I1 q1) λ iv s2 hq10=>?_;obtain⟨x2,H2,I2,r2,q2⟩:=hq10;refine thn (hg pins s2 σ H2 x1 x2 ov iv _ I2 r1 r2 q2) λ old s3 hq11=>?_;obtain⟨x3,H3,I3,r3,q3⟩:=hq11;refine thn (he pins s3 σ H3 _ I3 q3) λ v s4 hq12=>?_;obtain⟨x4,H4,I4,r4,q4⟩:=hq12;refine thn (hp pins s4 σ H4 x3 x4 old v _ I4 r3 r4 q4) λ new s5 hq13=>?_;obtain⟨x5,H5,I5,r5,q5⟩:=hq13;exact thn (hs pins s5 σ H5 x1 x2 x5 ov iv new _ I5 r1 r2 r5 q5) λ _ s6 ⟨H6,I6,q6⟩=>⟨σ,H6,I6,q6⟩
def ipI(f:Int->Int->Int):TIp:=λ x y H Q=>∃ i j,x=.int i/\y=.int j/\Q (.int (f i j)) H
theorem ads:PIp X .Add (ipI λ i j=>i+j):=by intro pins s σ H x y v u Q I r1 r2 h;obtain⟨i,j,e1,e2,q⟩:=h;subst e1;subst e2;obtain⟨t,rfl⟩:=r1;obtain⟨t',rfl⟩:=r2;exact iadd_int ⟨.int _,H,I.tok _,⟨_,rfl⟩,q⟩
end
section
variable {X:Cx}{pos:Pos}
end
structure It where
 go:Nat->Hp->Prop
 yld:Nat->Hp->V->Hp->Prop
 stop:Nat->Hp->Prop
def jd(X:Cx)(pins:PN)(H:Hp)(b:Addr):Prop:=
 H b=none/\b≠X.env.locals/\b ∉ X.fs/\(b∈X.ex\/X.s₀.heap.objs.size<=b)/\(∀ x c,X.env.cells.lookup x=some c->c≠b)/\∀ p∈X.pn++pins,p.1≠b
theorem Inv.pf{X:Cx}{pins:PN}{σ:St}{H H':Hp}{s:Shared}{b:Addr}(I:Inv X pins σ H s)(hb:s.heap.objs.size<=b)(hn:H' b=none):jd X pins H' b:=by
 refine⟨hn,Nat.ne_of_gt (Nat.lt_of_lt_of_le I.lt hb),I.agW hb,.inr (Nat.le_trans I.sz hb),λ x c e z=>?_,λ p hp z=>?_⟩
 ·obtain⟨v,q⟩:=I.cell x c e;exact absurd (Nat.lt_of_lt_of_le q.lt (by rw[z];exact hb)) (Nat.lt_irrefl _)
 ·exact absurd (Nat.lt_of_lt_of_le (Heap.lt_size (I.pin p hp).1) (by rw[z];exact hb)) (Nat.lt_irrefl _)
structure Turn(P:Program)(w:World)(K:FG)(tg:Expr)(J:It)(fp:List Addr)(it:Addr)(tn:Nat->Heap->Prop):Prop where
 mem:it∈fp
 obj:∀ i h,tn i h->∀ b∈fp,∃ o,h.get? b=some o/\∀ v,o.data ≠ .cell v
 keep:∀ i h h',tn i h->(∀ b∈fp,∀ o,h.get? b=some o->h'.get? b=some o)->tn i h'
 item:∀ (X:Cx),X.prog=P->X.w=w->X.K=K->X.calm=true->∀ (i:Nat) (pins:PN) (s:Shared) (σ:St) (H:Hp) (E:VP),Inv X pins σ H s->(∀ b∈fp,jd X pins H b)->tn i s.heap->J.go i H ->
  wpAny (model P w) X.A (pyNext (.ref it)) (λ r s1=>∃ u,r=some u /\
   wpAny (model P w) X.A (letOwnedTupleGo tg (.ref it) u) (λ _ s2=>∃ x H',Inv X pins σ H' s2/\RelV x u/\J.yld i H x H'/\tn (i+1) s2.heap/\∀ b∈fp,H' b=none) E s1) E s
 done:∀ (X:Cx),X.prog=P->X.w=w->X.K=K->X.calm=true->∀ (i:Nat) (pins:PN) (s:Shared) (σ:St) (H:Hp) (E:VP),Inv X pins σ H s->(∀ b∈fp,jd X pins H b)->tn i s.heap->J.stop i H ->
  wpAny (model P w) X.A (pyNext (.ref it)) (λ r s1=>r=none/\Inv X pins σ H s1) E s
 self:∀ (A:Around) (i:Nat) (s:Shared) (Q:VP) (E:VP),tn i s.heap->Q (.ref it) s->wpAny (model P w) A (pyIter (.ref it)) Q E s
abbrev TI:=St->Hp->(It->Hp->Prop)->Prop
def PIE(X:Cx)(pins:PN)(σ:St)(tg:Expr)(R:It->Hp->Prop)(itv:Value)(s2:Shared):Prop:=
 ∃ (it:Addr) (fp:List Addr) (tn:Nat->Heap->Prop) (J:It) (H':Hp),itv=.ref it/\Inv X pins σ H' s2/\Turn X.prog X.w X.K tg J fp it tn/\tn 0 s2.heap/\(∀ b∈fp,jd X pins H' b)/\R J H'
def PI(X:Cx)(tg iter:Expr)(wi:TI):Prop:=
 ∀ (pins:PN) (s:Shared) (σ:St) (H:Hp) (R:It->Hp->Prop),Inv X pins σ H s->wi σ H R ->
  wpAny (model X.prog X.w) X.A (eval iter X.env) (λ v s1=>wpAny (model X.prog X.w) X.A (pyIter v) (PIE X pins σ tg R) X.xe s1) X.xe s
theorem su{M:Model}{A:Around}{E:VP}{s:Shared}{tg:Expr}{it:Addr}{u:Value}{o:Obj}{n:String}{vs:Array Value}{Q:Unit->Shared->Prop}(ho:s.heap.get? it=some o)(hc:o.cls=.type n)(hd:o.data=.fields vs)
  (hn:["enumerate", "zip", "dict_itemiterator", "dict_reverseitemiterator", "odict_iterator", "itertools.zip_longest", "itertools.pairwise"].contains n=false)(hQ:Q () s):wpAny M A (letOwnedTupleGo tg (.ref it) u) Q E s:=by
 unfold letOwnedTupleGo;cases tg<;>first
  | exact wpAny_pure hQ
  | (cases u<;>first
    | exact wpAny_pure hQ
    | (refine wpAny_bind (wpAny_load ho ?_)
       rw[hc,hd];show wpAny M A (if (["enumerate", "zip", "dict_itemiterator", "dict_reverseitemiterator", "odict_iterator", "itertools.zip_longest", "itertools.pairwise"].contains n&&vs[0]? == some (rawInt _))=true then _ else _) Q E s;rw[if_neg (by intro h;rw[hn,Bool.false_and] at h;cases h)];exact wpAny_pure hQ))
def Itl(K:FG)(a:Addr):It:=
 ⟨λ i H=>∃ xs x,SqL K H a xs/\xs[i]? =some x,λ i H x H'=>H'=H/\∀ xs,SqL K H a xs->xs[i]? =some x,λ i H=>∃ xs,SqL K H a xs/\xs.length<=i⟩
def Itt(K:FG)(a:Addr):It:=
 ⟨λ i H=>∃ xs x,SqT K H a xs/\xs[i]? =some x,λ i H x H'=>H'=H/\∀ xs,SqT K H a xs->xs[i]? =some x,λ i H=>∃ xs,SqT K H a xs/\xs.length<=i⟩
def Itr(lo:Int)(n:Nat):It:=⟨λ i _=>i<n,λ i H x H'=>H'=H/\x=.int (lo+i),λ i _=>n<=i⟩
theorem u7{P:Program}{w:World}{K:FG}{tg:Expr}(a it:Addr):Turn P w K tg (Itl K a) [it] it (λ i h=>h.IsListIter it a i) where
 mem:=by simp
 obj:=λ i h st b hb=>by
  have e:b=it:=by simpa using hb
  subst e;obtain⟨o,e,c,d⟩:=st;exact⟨o,e,λ v z=>by rw[d] at z;cases z⟩
 keep:=λ i h h' st k=>st.at λ o e=>k it (by simp) o e
 item:=by intro X hP hw hK hc i pins s σ H E I hf st hg;subst hP hw hK;obtain⟨xs,x,hq,hx⟩:=hg;obtain⟨its,rv,p,hz⟩:=I.list hq;obtain⟨u,hu,ru⟩:=rv.get hx;obtain⟨f0,f1,f2,f3,f4,f5⟩:=hf it (by simp);refine wpAny_pyNext_list_item st p.isList (x:=u) (by simpa using hu) λ h' st' sb=>?_;have I1:Inv X pins σ H {s with heap:=h'}:=I.turned (t':=s.toks) (λ b o hb e=>(sb.2 b hb).trans e) f0 f1 f3 f4 f5;obtain⟨o,e,c,d⟩:=id st';exact⟨u,rfl,su (s:={s with heap:=h'}) e c d (by decide) ⟨x,H,I1,ru,⟨rfl,λ ys hy=>by rw[I.xu hy hq];exact hx⟩,st',λ b hb=>(hf b hb).1⟩⟩
 done:=by intro X hP hw hK hc i pins s σ H E I hf st hg;subst hP hw hK;obtain⟨xs,hq,hx⟩:=hg;obtain⟨its,rv,p,hz⟩:=I.list hq;obtain⟨f0,f1,f2,f3,f4,f5⟩:=hf it (by simp);have hl:=rv.length;exact wpAny_pyNext_list_end (I.ok.hd hc) st p.isList (by simp;omega) λ h' eb=>⟨rfl,I.turned (t':=s.toks) (λ b o hb e=>eb b o hb e) f0 f1 f3 f4 f5⟩
 self:=λ _ _ _ _ _ st h=>wpAny_pyIter_listiter st h
theorem sm{P:Program}{w:World}{K:FG}{tg:Expr}(a it:Addr):Turn P w K tg (Itt K a) [it] it (λ i h=>h.IsTupleIter it a i) where
 mem:=by simp
 obj:=λ i h st b hb=>by
  have e:b=it:=by simpa using hb
  subst e;obtain⟨o,e,c,d⟩:=st;exact⟨o,e,λ v z=>by rw[d] at z;cases z⟩
 keep:=λ i h h' st k=>st.at λ o e=>k it (by simp) o e
 item:=by intro X hP hw hK hc i pins s σ H E I hf st hg;subst hP hw hK;obtain⟨xs,x,hq,hx⟩:=hg;obtain⟨its,rv,p,hz⟩:=I.tuple hq;obtain⟨u,hu,ru⟩:=rv.get hx;obtain⟨f0,f1,f2,f3,f4,f5⟩:=hf it (by simp);refine wpAny_pyNext_tuple_item st (show s.heap.IsTuple a its.toArray from p) (x:=u) (by simpa using hu) λ h' st' sb=>?_;have I1:Inv X pins σ H {s with heap:=h'}:=I.turned (t':=s.toks) (λ b o hb e=>(sb.2 b hb).trans e) f0 f1 f3 f4 f5;obtain⟨o,e,c,d⟩:=id st';exact⟨u,rfl,su (s:={s with heap:=h'}) e c d (by decide) ⟨x,H,I1,ru,⟨rfl,λ ys hy=>by rw[I.wa hy hq];exact hx⟩,st',λ b hb=>(hf b hb).1⟩⟩
 done:=by intro X hP hw hK hc i pins s σ H E I hf st hg;subst hP hw hK;obtain⟨xs,hq,hx⟩:=hg;obtain⟨its,rv,p,hz⟩:=I.tuple hq;obtain⟨f0,f1,f2,f3,f4,f5⟩:=hf it (by simp);have hl:=rv.length;exact wpAny_pyNext_tuple_end (I.ok.hd hc) st (show s.heap.IsTuple a its.toArray from p) (by simp;omega) λ h' eb=>⟨rfl,I.turned (t':=s.toks) (λ b o hb e=>eb b o hb e) f0 f1 f3 f4 f5⟩
 self:=λ _ _ _ _ _ st h=>wpAny_pyIter_tupleiter st h
theorem sQ{P:Program}{w:World}{K:FG}{tg:Expr}(it:Addr)(lo:Int)(n:Nat):Turn P w K tg (Itr lo n) [it] it (λ i h=>IsRangeIter h it (lo+(i:Nat) * 1) ((n:Int)-(i:Nat)) 1) where
 mem:=by simp
 obj:=λ i h st b hb=>by
  have e:b=it:=by simpa using hb
  subst e;exact⟨_,st,λ v z=>by have z':Data.fields _=Data.cell v:=z;cases z'⟩
 keep:=λ i h h' st k=>k it (by simp) _ st
 item:=by intro X hP hw hK hc i pins s σ H E I hf st hg;subst hP hw hK;obtain⟨f0,f1,f2,f3,f4,f5⟩:=hf it (by simp);have W:=Walks.range (prog:=X.prog) (w:=X.w) (I.ok.hd hc) it lo 1 n;refine W.item i s _ _ hg st λ v h' tk hv st' kk=>?_;obtain⟨t,rfl⟩:=hv;have I1:Inv X pins σ H {s with heap:=h',toks:=tk}:=I.turned (λ b o hb e=>kk b o (by simpa using hb) e) f0 f1 f3 f4 f5;refine⟨_,rfl,su (s:={s with heap:=h',toks:=tk}) (n:= "range_iterator") st' rfl rfl (by decide) ⟨.int (lo+i),H,I1,⟨t,?_⟩,⟨rfl,rfl⟩,st',λ b hb=>(hf b hb).1⟩⟩;rw[Int.mul_one]
 done:=by intro X hP hw hK hc i pins s σ H E I hf st hg;subst hP hw hK;obtain⟨f0,f1,f2,f3,f4,f5⟩:=hf it (by simp);exact wpAny_pyNext_range_end (I.ok.hd hc) st (by have:n<=i:=hg;omega) λ h' eb=>⟨rfl,I.turned (t':=s.toks) (λ b o hb e=>eb b o hb e) f0 f1 f3 f4 f5⟩
 self:=λ _ _ _ _ _ st h=>wpAny_pyIter_rangeiter st h
section
variable {X:Cx}{tg:Expr}
theorem qz{pins:PN}{σ:St}{H:Hp}{s:Shared}{R:It->Hp->Prop}{E:VP}{lo hi:Int}{t u v:Tok}{tk:Nat}(I:Inv X pins σ H s)(h1:-(2 ^ 62)<=lo)(h2:lo<2 ^ 62)(h3:-(2 ^ 62)<=hi)(h4:hi<2 ^ 62)
  (q:R (Itr lo (hi-lo).toNat) H):wpAny (model X.prog X.w) X.A (pyIter (.ref s.heap.objs.size)) (PIE X pins σ tg R) E {s with heap:=s.heap.push {cls:=.type "range",data:=.fields #[.int lo t,.int hi u,.int 1 v]},toks:=tk}:=by
 refine wpAny_pyIter_range (IsRange.new ..) (small_one h1 h2 h3 h4) ?_;have I1:Inv X pins σ H {s with heap:=s.heap.push {cls:=.type "range",data:=.fields #[.int lo t,.int hi u,.int 1 v]},toks:=tk}:=I.kept λ b o e=>Heap.get?_push_of_some _ e;refine⟨(s.heap.push {cls:=.type "range",data:=.fields #[.int lo t,.int hi u,.int 1 v]}).objs.size,[(s.heap.push {cls:=.type "range",data:=.fields #[.int lo t,.int hi u,.int 1 v]}).objs.size],_,_,H,rfl,
  I1.kept (t':=tk) λ b o e=>Heap.get?_push_of_some _ e,sQ _ lo (hi-lo).toNat,?_,λ b hb=>?_,q⟩
 ·have e1:lo+((0:Nat):Int) * 1=lo:=by simp
  have e2:(((hi-lo).toNat:Nat):Int)-((0:Nat):Int)=Builtin.Range.rangeSize lo hi 1:=by rw[rangeSize_one];split<;>omega
  show IsRangeIter _ _ (lo+((0:Nat):Int) * 1) ((((hi-lo).toNat:Nat):Int)-((0:Nat):Int)) 1;rw[e1,e2];exact Heap.get?_push_size _ rfl
 ·have e:b=(s.heap.push {cls:=.type "range",data:=.fields #[.int lo t,.int hi u,.int 1 v]}).objs.size:=by simpa using hb
  subst e;exact I1.pf (Nat.le_refl _) (I1.hok.fresh (Nat.le_refl _))
def afA(ta:TA):TI:=λ σ H R=>ta σ H λ vs H1=>∃ j:Int,vs=[.int j]/\-(2 ^ 62)<=j/\j<2 ^ 62/\R (Itr 0 j.toNat) H1
def afi(ta:TA):TI:=λ σ H R=>ta σ H λ vs H1=>∃ i j:Int,vs=[.int i,.int j]/\(-(2 ^ 62)<=i/\i<2 ^ 62/\-(2 ^ 62)<=j/\j<2 ^ 62)/\R (Itr i (j-i).toNat) H1
theorem vd{a:Expr}{ta:TA}{p pos:Pos}(hg:Gl X "range")(hm:X.mg "range" = none)(ha:PA X [a] ta)(hs:starEach [a] X.env=[(false,eval a X.env)]:=by rfl):PI X tg (.Call (.Name "range" p) [a] [] pos) (afA ta):=by
 intro pins s σ H R I h;refine Call_ (kL I hg hm boot_range (PyProof.Rows.callWith_type1 (thn (ha pos pins s σ H _ I h) λ us s1 ⟨vs,H1,I1,r1,q1⟩=>?_) hs rfl));obtain⟨j,e,q1,q2,q⟩:=q1;subst e;cases r1 with
 | cons r rr =>
  cases rr;obtain⟨t,rfl⟩:=r;exact call_range_1 (qz I1 (by omega) (by omega) q1 q2 (by simpa using q))
theorem vM{a b:Expr}{ta:TA}{p pos:Pos}(hg:Gl X "range")(hm:X.mg "range" = none)(ha:PA X [a,b] ta)(hs:starEach [a,b] X.env=[(false,eval a X.env),(false,eval b X.env)]:=by rfl)(hs2:starEach [b] X.env=[(false,eval b X.env)]:=by rfl) :
  PI X tg (.Call (.Name "range" p) [a,b] [] pos) (afi ta):=by
 intro pins s σ H R I h;refine Call_ (kL I hg hm boot_range (PyProof.Rows.callWith_type1 (thn (ha pos pins s σ H _ I h) λ us s1 ⟨vs,H1,I1,r1,q1⟩=>?_) (by rw[hs,hs2]) (by rw[hs2];rfl)));obtain⟨i,j,e,⟨q1,q2,q3,q4⟩,q⟩:=q1;subst e;cases r1 with
 | cons r rr =>
  cases rr with
  | cons r' rr =>
   cases rr;obtain⟨t,rfl⟩:=r;obtain⟨t',rfl⟩:=r';exact call_range_2 (qz I1 q1 q2 q3 q4 q)
def ahC(wi:TI)(g:TG)(tb:TS):TS:=λ D σ H=>wi σ H λ J H1=>∃ W:Nat->Nat->St->Hp->Prop,(∃ m,W 0 m σ H1)/\∀ i m σ H,W i m σ H ->
 (J.stop i H/\D.nx σ H)\/(J.go i H/\∃ N:St->Hp->Prop,(∀ σ' H',N σ' H'->∃ m',m'<m/\W (i+1) m' σ' H')/\∀ x H',J.yld i H x H'->g x σ H' λ σ2 H2=>tb {D with nx:=N,ct:=N,bk:=D.nx} σ2 H2)
def jQ(fp:List Addr)(h:Heap):PN:=fp.filterMap λ b=>(h.get? b).map λ o=>(b,o)
theorem dm{fp:List Addr}{h:Heap}{b:Addr}{o:Obj}(hb:b∈fp)(e:h.get? b=some o):(b,o)∈jQ fp h:=List.mem_filterMap.mpr ⟨b,hb,by rw[e];rfl⟩
theorem vH{fp:List Addr}{h:Heap}{p:Addr×Obj}(hp:p∈jQ fp h):p.1∈fp/\h.get? p.1=some p.2:=by
 obtain⟨b,hb,e⟩:=List.mem_filterMap.mp hp;cases q:h.get? b with
 | none=>rw[q] at e;cases e
 | some o =>
  rw[q] at e;have e':(b,o)=p:=Option.some.inj e;subst e';exact⟨hb,q⟩
theorem Inv.pinned{pins:PN}{σ:St}{H:Hp}{s:Shared}{fp:List Addr}(I:Inv X pins σ H s)(hf:∀ b∈fp,jd X pins H b)(ho:∀ b∈fp,∃ o,s.heap.get? b=some o/\∀ v,o.data ≠ .cell v):Inv X (pins++jQ fp s.heap) σ H s:=
 I.dY λ p hp=>(List.mem_append.mp hp).elim (λ z=>I.pin p (List.mem_append_right _ z)) λ z=>by obtain⟨hb,e⟩:=vH z;obtain⟨f0,f1,f2,_⟩:=hf p.1 hb;obtain⟨o,e',d⟩:=ho p.1 hb;rw[e] at e';cases e';exact⟨e,f0,f1,f2,d⟩
theorem Inv.i8{pins pl:PN}{σ:St}{H:Hp}{s:Shared}(I:Inv X (pins++pl) σ H s):Inv X pins σ H s:=I.dY λ p hp=>I.pin p (List.mem_append_right _ (List.mem_append_left _ hp))
theorem ae7{iter:Expr}{body:List Stmt}{wi:TI}{g:TG}{tb:TS}{pos:Pos}(hp:PassesOwn (model X.prog X.w) X.A X.env X.xe)(hc:X.calm=true)(hi:PI X tg iter wi)(hg:PG X tg g)(hb:PSs X body tb)
  (hs:∀ x,foldedSetIterable iter X.env x=pure x:=by intro _;rfl):PS X (.For tg iter body [] pos) (ahC wi g tb):=by
 intro pins s σ H D I h;refine wpAny_For (thn (hi pins s σ H _ I h) λ v s1 h1=>thn h1 λ itv s2 h2=>?_) hs;obtain⟨it,fp,tn,J,H2,e,I2,T,st2,f2,W,⟨m0,w0⟩,turn⟩:=h2;subst e;have stat:∀ {H':Hp},(∀ b∈fp,H' b=none)->∀ b∈fp,jd X pins H' b:=λ hn b hb=>⟨hn b hb,(f2 b hb).2⟩;refine codeAny_forLoop_any (λ n s'=>∃ i σ' H',Inv X pins σ' H' s'/\tn i s'.heap/\(∀ b∈fp,H' b=none)/\W i n σ' H') ?_ m0 ⟨0,σ,H2,I2,st2,λ b hb=>(f2 b hb).1,w0⟩;rintro n s3 ⟨i,σ3,H3,I3,st3,fr3,w3⟩;rcases turn i n σ3 H3 w3 with ⟨stop,qn⟩ | ⟨go,N,hN,step⟩
 ·refine wpAny_passesOwn hp (thn (T.done X rfl rfl rfl hc i pins s3 σ3 H3 X.xe I3 (stat fr3) st3 stop) λ r s4 ⟨hr,I4⟩=>?_);subst hr;exact wpAny_execs_nil ⟨σ3,H3,I4,qn⟩
 ·refine wpAny_passesOwn hp (thn (T.item X rfl rfl rfl hc i pins s3 σ3 H3 X.xe I3 (stat fr3) st3 go) λ r s4 ⟨u,hr,h4⟩=>?_);subst hr;refine wpAny_passesOwn hp (thn h4 λ _ s5 hq14=>?_);obtain⟨x,H5,I5,r5,y5,st5,fr5⟩:=hq14;have I5':=I5.pinned (stat fr5) (T.obj _ _ st5);refine wpAny_passesOwn hp (thn (hg _ s5 σ3 H5 x u _ I5' r5 (step x H5 y5)) λ _ s6 hq15=>?_);obtain⟨σ6,H6,I6,q6⟩:=hq15;refine wpAny_passesOwn hp (thn (hb _ s6 σ6 H6 _ I6 q6) λ f s7 q7=>?_);have again:∀ {σ7:St} {H7:Hp},Inv X (pins++jQ fp s5.heap) σ7 H7 s7->N σ7 H7->∃ m,m<n/\∃ i σ' H',Inv X pins σ' H' s7/\tn i s7.heap/\(∀ b∈fp,H' b=none)/\W i m σ' H':=λ {σ7 H7} I7 n7=>by obtain⟨m',hm,w7⟩:=hN σ7 H7 n7;refine⟨m',hm,i+1,σ7,H7,I7.i8,T.keep _ _ _ st5 λ b hb o e=>(I7.pin (b,o) (List.mem_append_right _ (List.mem_append_right _ (dm hb e)))).1,λ b hb=>?_,w7⟩;obtain⟨o,e,d⟩:=T.obj _ _ st5 b hb;exact(I7.pin (b,o) (List.mem_append_right _ (List.mem_append_right _ (dm hb e)))).2.1
  cases f with
  | next=>obtain⟨σ7,H7,I7,n7⟩:=q7;exact again I7 n7
  | cont=>obtain⟨σ7,H7,I7,n7⟩:=q7;exact again I7 n7
  | brk=>obtain⟨σ7,H7,I7,q7⟩:=q7;exact⟨σ7,H7,I7.i8,q7⟩
  | ret v=>obtain⟨x7,σ7,H7,I7,r7,q7⟩:=q7;exact⟨x7,σ7,H7,I7.i8,r7,q7⟩
end
abbrev R2:=V->V->Hp->VK->Prop
def OpR(X:Cx)(f:Value->Value->Sem Value)(r:R2):Prop:=
 ∀ (pins:PN) (s:Shared) (σ:St) (H:Hp) (x y:V) (v u:Value) (Q:VK),Inv X pins σ H s->RelV x v->RelV y u->r x y H Q ->
  wpAny (model X.prog X.w) X.A (f v u) (EP X pins σ Q) X.xe s
def fc(X:Cx)(f:Value)(r:List V->Hp->VK->Prop):Prop:=
 ∀ (pins:PN) (s:Shared) (σ:St) (H:Hp) (xs:List V) (us:List Value) (Q:VK),Inv X pins σ H s->Vals xs us->r xs H Q ->
  wpAny (model X.prog X.w) X.A (call f us) (EP X pins σ Q) X.xe s
def tOp(r:R2)(ta tb:TE):TE:=λ σ H Q=>ta σ H λ x H1=>tb σ H1 λ y H2=>r x y H2 Q
def rI(C:Int->Int->Prop)(g:Int->Int->V):R2:=λ x y H Q=>∃ i j,x=.int i/\y=.int j/\C i j/\Q (g i j) H
def rI0(g:Int->Int->V):R2:=λ x y H Q=>∃ i j,x=.int i/\y=.int j/\Q (g i j) H
section
variable {X:Cx}{a b c:Expr}{ta tb tc:TE}{pos:Pos}
theorem agy(ha:PE X a ta)(hb:PE X b tb){pins:PN}{s:Shared}{σ:St}{H:Hp}{R:V->V->Hp->Prop}(I:Inv X pins σ H s)
  (h:ta σ H λ x H1=>tb σ H1 λ y H2=>R x y H2){Q:VP}{f:Value->Value->Sem Value}
  (hf:∀ v u s2 x y H2,Inv X pins σ H2 s2->RelV x v->RelV y u->R x y H2->wpAny (model X.prog X.w) X.A (f v u) Q X.xe s2) :
  wpAny (model X.prog X.w) X.A (eval a X.env) (λ v s₁=>wpAny (model X.prog X.w) X.A (eval b X.env) (λ u s₂=>wpAny (model X.prog X.w) X.A (f v u) Q X.xe s₂) X.xe s₁) X.xe s:=by
 refine thn (ha pins s σ H _ I h) λ v s1 hq16=>?_;obtain⟨x,H1,I1,r1,q1⟩:=hq16;refine thn (hb pins s1 σ H1 _ I1 q1) λ u s2 hq17=>?_;obtain⟨y,H2,I2,r2,q2⟩:=hq17;exact hf v u s2 x y H2 I2 r1 r2 q2
theorem aeu{op:Operator}{r:R2}(ho:OpR X (binaryOp op) r)(ha:PE X a ta)(hb:PE X b tb):PE X (.BinOp a op b pos) (tOp r ta tb):=by intro pins s σ H Q I h;exact wpAny_BinOp (agy ha hb I h λ v u s2 x y H2 I2 rx ry q=>ho pins s2 σ H2 x y v u Q I2 rx ry q)
theorem opI{f:Value->Value->Sem Value}{C:Int->Int->Prop}{g:Int->Int->Int}
  (rule:∀ (i j:Int) (t u:Tok) (s:Shared) (Q:VP) (E:VP),C i j->Q (.int (g i j) s.toks) {s with toks:=s.toks+1}->wpAny (model X.prog X.w) X.A (f (.int i t) (.int j u)) Q E s) :
  OpR X f (rI C λ i j=>.int (g i j)):=by
 intro pins s σ H x y v u Q I rx ry h;obtain⟨i,j,rfl,rfl,hc,q⟩:=h;obtain⟨t,rfl⟩:=rx;obtain⟨t',rfl⟩:=ry;exact rule i j t t' s _ _ hc ⟨.int (g i j),H,I.tok _,⟨_,rfl⟩,q⟩
theorem ag0{f:Value->Value->Sem Value}{g:Int->Int->Int}
  (rule:∀ (i j:Int) (t u:Tok) (s:Shared) (Q:VP) (E:VP),Q (.int (g i j) s.toks) {s with toks:=s.toks+1}->wpAny (model X.prog X.w) X.A (f (.int i t) (.int j u)) Q E s) :
  OpR X f (rI0 λ i j=>.int (g i j)):=by
 intro pins s σ H x y v u Q I rx ry h;obtain⟨i,j,rfl,rfl,q⟩:=h;obtain⟨t,rfl⟩:=rx;obtain⟨t',rfl⟩:=ry;exact rule i j t t' s _ _ ⟨.int (g i j),H,I.tok _,⟨_,rfl⟩,q⟩
theorem ae8{f:Value->Value->Sem Value}{g:Int->Int->Bool}
  (rule:∀ (i j:Int) (t u:Tok) (s:Shared) (Q:VP) (E:VP),Q (.bool (g i j)) s->wpAny (model X.prog X.w) X.A (f (.int i t) (.int j u)) Q E s) :
  OpR X f (rI0 λ i j=>.bl (g i j)):=by
 intro pins s σ H x y v u Q I rx ry h;obtain⟨i,j,rfl,rfl,q⟩:=h;obtain⟨t,rfl⟩:=rx;obtain⟨t',rfl⟩:=ry;exact rule i j t t' s _ _ ⟨.bl (g i j),H,I,rfl,q⟩
def afG(i j:Int):Prop:=0<j/\j<1073741824
def ade(i j:Int):Prop:=(-(2 ^ 64)<i/\i<2 ^ 64)\/(-(2 ^ 64)<j/\j<2 ^ 64)
theorem ade.ok{i j:Int}(h:ade i j):IntMulOk i j:=by
 rcases h with ⟨h1,h2⟩ | ⟨h1,h2⟩
 ·exact .of_left (intBits_le_64 h1 h2)
 ·exact .of_right (intBits_le_64 h1 h2)
theorem acX:OpR X (binaryOp .Add) (rI0 λ i j=>.int (i+j)):=ag0 λ _ _ _ _ _ _ _ q=>add_int q
theorem aed:OpR X (binaryOp .Sub) (rI0 λ i j=>.int (i-j)):=ag0 λ _ _ _ _ _ _ _ q=>sub_int q
theorem ll:OpR X (binaryOp .Mult) (rI ade λ i j=>.int (i * j)):=opI λ _ _ _ _ _ _ _ hc q=>mul_int q hc.ok
theorem uX:OpR X (binaryOp .FloorDiv) (rI afG λ i j=>.int (i / j)):=opI λ i j _ _ _ _ _ hc q=>by have h1:(0:Int)<j:=hc.1;have h2:j<1073741824:=hc.2;exact floordiv_int (by omega) (by rw[Int.fdiv_eq_ediv_of_nonneg i (by omega)];exact q) (.inl (PyProof.noPylong_small (by omega)))
theorem iP:OpR X (binaryOp .Mod) (rI (λ _ j=>0<j) λ i j=>.int (i % j)):=opI λ i j _ _ _ _ _ hc q=>by have h1:(0:Int)<j:=hc;exact mod_int' (by omega) (by rw[Int.fmod_eq_emod_of_nonneg i (by omega)];exact q)
end
def ag4:V->V->Bool
 | .non,.non=>true | .non,.int _=>true | .int _,.non=>true | .non,.bl _=>true | .bl _,.non=>true | .non,.str _=>true | .str _,.non=>true
 | .int _,.int _=>true | .bl _,.bl _=>true | .str _,.str _=>true | .byt _,.byt _=>true
 | .int _,.str _=>true | .str _,.int _=>true | .bl _,.str _=>true | .str _,.bl _=>true
 | _,_=>false
def rEq:R2:=λ x y H Q=>ag4 x y=true/\Q (.bl (decide (x=y))) H
def rNe:R2:=λ x y H Q=>ag4 x y=true/\Q (.bl (!decide (x=y))) H
theorem uD{i j:Int}:decide (V.int i=V.int j)=(i==j):=by rw[Bool.eq_iff_iff];simp
theorem zk{i j:Bool}:decide (V.bl i=V.bl j)=(i==j):=by rw[Bool.eq_iff_iff];simp
theorem tP{i j:Str}:decide (V.str i=V.str j)=(i==j):=by rw[Bool.eq_iff_iff];simp
theorem tR{i j:Array UInt8}:decide (V.byt i=V.byt j)=(i.toList==j.toList):=by rw[Bool.eq_iff_iff];cases i;cases j;simp
section
variable {X:Cx}{a b c:Expr}{ta tb tc:TE}{pos:Pos}
theorem bE{pins:PN}{σ:St}{H:Hp}{s:Shared}{Q:VK}{k k':Bool}(I:Inv X pins σ H s)(q:Q (.bl k) H)(e:k=k'):EP X pins σ Q (.bool k') s:=by subst e;exact⟨.bl k,H,I,rfl,q⟩
theorem afS:OpR X (compareOp .Eq) rEq:=by
 intro pins s σ H x y v u Q I rx ry h;obtain⟨hs,q⟩:=h;cases x with
 | non =>
  cases rx;cases y with
  | non=>cases ry;exact PySem.EqNone.eq_none_none (bE I q (by simp))
  | bl j=>cases ry;exact PySem.EqNone.eq_none_bool (bE I q (by simp))
  | int j=>obtain⟨t',rfl⟩:=ry;exact PySem.EqNone.eq_none_int (bE I q (by simp))
  | str j=>obtain⟨t',rfl⟩:=ry;exact PySem.EqNone.eq_none_str (bE I q (by simp))
  | _=>exact absurd (show false=true from hs) Bool.false_ne_true
 | bl i =>
  cases rx;cases y with
  | non=>cases ry;exact PySem.EqNone.eq_bool_none (bE I q (by simp))
  | bl j=>cases ry;exact eq_bool (bE I q zk)
  | str j=>obtain⟨t',rfl⟩:=ry;exact PySem.EqMixed.eq_bool_str (bE I q (by simp))
  | _=>exact absurd (show false=true from hs) Bool.false_ne_true
 | int i =>
  obtain⟨t,rfl⟩:=rx;cases y with
  | non=>cases ry;exact PySem.EqNone.eq_int_none (bE I q (by simp))
  | int j=>obtain⟨t',rfl⟩:=ry;exact eq_int (bE I q uD)
  | str j=>obtain⟨t',rfl⟩:=ry;exact PySem.EqMixed.eq_int_str (bE I q (by simp))
  | _=>exact absurd (show false=true from hs) Bool.false_ne_true
 | str i =>
  obtain⟨t,rfl⟩:=rx;cases y with
  | non=>cases ry;exact PySem.EqNone.eq_str_none (bE I q (by simp))
  | bl j=>cases ry;exact PySem.EqMixed.eq_str_bool (bE I q (by simp))
  | int j=>obtain⟨t',rfl⟩:=ry;exact PySem.EqMixed.eq_str_int (bE I q (by simp))
  | str j=>obtain⟨t',rfl⟩:=ry;exact eq_str (bE I q tP)
  | _=>exact absurd (show false=true from hs) Bool.false_ne_true
 | byt i =>
  obtain⟨t,rfl⟩:=rx;cases y with
  | byt j=>obtain⟨t',rfl⟩:=ry;exact W.eq_bytes (bE I q tR)
  | _=>exact absurd (show false=true from hs) Bool.false_ne_true
 | _=>cases y<;>exact absurd (show false=true from hs) Bool.false_ne_true
theorem agb:OpR X (compareOp .NotEq) rNe:=by
 intro pins s σ H x y v u Q I rx ry h;obtain⟨hs,q⟩:=h;cases x with
 | non =>
  cases rx;cases y with
  | non=>cases ry;exact PySem.EqNone.ne_none_none (bE I q (by simp))
  | bl j=>cases ry;exact PySem.EqNone.ne_none_bool (bE I q (by simp))
  | int j=>obtain⟨t',rfl⟩:=ry;exact PySem.EqNone.ne_none_int (bE I q (by simp))
  | str j=>obtain⟨t',rfl⟩:=ry;exact PySem.EqNone.ne_none_str (bE I q (by simp))
  | _=>exact absurd (show false=true from hs) Bool.false_ne_true
 | bl i =>
  cases rx;cases y with
  | non=>cases ry;exact PySem.EqNone.ne_bool_none (bE I q (by simp))
  | bl j=>cases ry;exact ne_bool (bE I q (congrArg not zk))
  | str j=>obtain⟨t',rfl⟩:=ry;exact PySem.EqMixed.ne_bool_str (bE I q (by simp))
  | _=>exact absurd (show false=true from hs) Bool.false_ne_true
 | int i =>
  obtain⟨t,rfl⟩:=rx;cases y with
  | non=>cases ry;exact PySem.EqNone.ne_int_none (bE I q (by simp))
  | int j=>obtain⟨t',rfl⟩:=ry;exact ne_int (bE I q (congrArg not uD))
  | str j=>obtain⟨t',rfl⟩:=ry;exact PySem.EqMixed.ne_int_str (bE I q (by simp))
  | _=>exact absurd (show false=true from hs) Bool.false_ne_true
 | str i =>
  obtain⟨t,rfl⟩:=rx;cases y with
  | non=>cases ry;exact PySem.EqNone.ne_str_none (bE I q (by simp))
  | bl j=>cases ry;exact PySem.EqMixed.ne_str_bool (bE I q (by simp))
  | int j=>obtain⟨t',rfl⟩:=ry;exact PySem.EqMixed.ne_str_int (bE I q (by simp))
  | str j=>obtain⟨t',rfl⟩:=ry;exact ne_str (bE I q (congrArg not tP))
  | _=>exact absurd (show false=true from hs) Bool.false_ne_true
 | byt i =>
  obtain⟨t,rfl⟩:=rx;cases y with
  | byt j=>obtain⟨t',rfl⟩:=ry;exact W.ne_bytes (bE I q (congrArg not tR))
  | _=>exact absurd (show false=true from hs) Bool.false_ne_true
 | _=>cases y<;>exact absurd (show false=true from hs) Bool.false_ne_true
theorem aa3:OpR X (compareOp .Lt) (rI0 λ i j=>.bl (decide (i<j))):=ae8 λ _ _ _ _ _ _ _ q=>lt_int q
theorem agx:OpR X (compareOp .LtE) (rI0 λ i j=>.bl (decide (i<=j))):=ae8 λ _ _ _ _ _ _ _ q=>le_int q
theorem oP:OpR X (compareOp .Gt) (rI0 λ i j=>.bl (decide (j<i))):=ae8 λ _ _ _ _ _ _ _ q=>gt_int q
theorem agi:OpR X (compareOp .GtE) (rI0 λ i j=>.bl (decide (j<=i))):=ae8 λ _ _ _ _ _ _ _ q=>ge_int q
theorem abJ{op:CmpOp}{r:R2}(ho:OpR X (compareOp op) r)(ha:PE X a ta)(hb:PE X b tb)(hm:behindInMarks op b=false):PE X (.Compare a [op] [b] pos) (tOp r ta tb):=by intro pins s σ H Q I h;exact wpAny_Compare1 (agy ha hb I h λ v u s2 x y H2 I2 rx ry q=>ho pins s2 σ H2 x y v u Q I2 rx ry q) hm
def adg(t:TE):TT:=λ σ H Q=>t σ H λ x H'=>∃ k,x=.bl k/\Q k H'
theorem abw{op:CmpOp}{r:R2}(ho:OpR X (compareOp op) r)(ha:PE X a ta)(hb:PE X b tb)(hm:behindInMarks op b=false):PT X (.Compare a [op] [b] pos) (adg (tOp r ta tb)):=by
 intro pins s σ H Q I h;refine wpAny_isTrue_Compare1 (thn (ha pins s σ H _ I h) λ v s1 ⟨x,H1,I1,r1,q1⟩=>thn (hb pins s1 σ H1 _ I1 q1) λ u s2 ⟨y,H2,I2,r2,q2⟩ =>
  thn (ho pins s2 σ H2 x y v u _ I2 r1 r2 q2) λ c s3 ⟨z,H3,I3,r3,k,e,q3⟩=>?_) hm
 subst e;cases r3;exact wpAny_truthy_bool ⟨H3,I3,q3⟩
theorem lb:(sizeLine:Nat)<2 ^ 63:=by rw[sizeLine_eq];decide
theorem sN:OpR X (binaryOp .Add) (λ x y H Q=>∃ i j,x=.str i/\y=.str j/\i.length+j.length<=sizeLine/\Q (.str (i++j)) H):=by intro pins s σ H x y v u Q I rx ry h;obtain⟨i,j,rfl,rfl,hz,q⟩:=h;obtain⟨t,rfl⟩:=rx;obtain⟨t',rfl⟩:=ry;exact add_str (λ t' tk=>⟨.str (i++j),H,I.tok _,⟨_,rfl⟩,q⟩) hz
theorem vals1{x:V}{us:List Value}(r:Vals [x] us):∃ u,us=[u]/\RelV x u:=by
 cases r with
 | cons r1 r2=>cases r2;exact⟨_,rfl,r1⟩
theorem vals2{x y:V}{us:List Value}(r:Vals [x,y] us):∃ u w',us=[u,w']/\RelV x u/\RelV y w':=by
 cases r with
 | cons r1 r2 =>
  cases r2 with
  | cons r3 r4=>cases r4;exact⟨_,_,rfl,r1,r3⟩
theorem xC:fc X (.builtin "abs") (λ xs H Q=>∃ i,xs=[.int i]/\Q (.int (if i<0 then -i else i)) H):=by intro pins s σ H xs us Q I r h;obtain⟨i,rfl,q⟩:=h;obtain⟨u,rfl,t,rfl⟩:=vals1 r;exact call_abs_int λ u tk=>⟨.int (if i<0 then -i else i),H,I.tok _,⟨_,rfl⟩,q⟩
theorem vL:fc X (.type "int") (λ xs H Q=>(∃ i,xs=[.int i]/\Q (.int i) H)\/∃ k,xs=[.bl k]/\Q (.int (if k then 1 else 0)) H):=by
 intro pins s σ H xs us Q I r h;rcases h with ⟨i,rfl,q⟩ | ⟨k,rfl,q⟩
 ·obtain⟨u,rfl,t,rfl⟩:=vals1 r;exact call_int_int ⟨.int i,H,I,⟨_,rfl⟩,q⟩
 ·obtain⟨u,rfl,r1⟩:=vals1 r;cases r1;exact call_int_bool ⟨.int (if k then 1 else 0),H,I.tok _,⟨_,rfl⟩,q⟩
def agP(K:FG)(x:V)(H:Hp)(n:Nat):Prop:=
 match x with
 | .str y=>y.length<=sizeLine/\n=y.length
 | .byt y=>y.size<=sizeLine/\n=y.size
 | .ref p=>(∃ xs,SqL K H p xs/\n=xs.length)\/∃ xs,SqT K H p xs/\n=xs.length
 | _=>False
theorem eX:fc X (.builtin "len") (λ xs H Q=>∃ x n,xs=[x]/\agP X.K x H n/\Q (.int n) H):=by
 intro pins s σ H xs us Q I r h;obtain⟨x,n,rfl,e,q⟩:=h;obtain⟨u,rfl,rx⟩:=vals1 r;have hl:=lb;have hs:sizeLine=16777216:=sizeLine_eq;cases x with
 | str y =>
  obtain⟨t,rfl⟩:=rx;obtain⟨hy,e'⟩:y.length<=sizeLine/\n=y.length:=e;subst e';exact len_str (by omega) ⟨.int _,H,I.tok _,⟨_,rfl⟩,q⟩
 | byt y =>
  obtain⟨t,rfl⟩:=rx;obtain⟨hy,e'⟩:y.size<=sizeLine/\n=y.size:=e;subst e';exact W.len_bytes (by omega) ⟨.int _,H,I.tok _,⟨_,rfl⟩,q⟩
 | ref p =>
  cases rx;have e':(∃ xs,SqL X.K H p xs/\n=xs.length)\/∃ xs,SqT X.K H p xs/\n=xs.length:=e;rcases e' with ⟨xs,hx,e'⟩ | ⟨xs,hx,e'⟩
  ·subst e';obtain⟨its,r',pl,hz⟩:=I.list hx;have hlen:=r'.length;exact Calls.call_len_list pl.isList (by simp only[List.size_toArray];omega) ⟨.int xs.length,H,I.tok _,⟨_,by simp only[List.size_toArray];rw[hlen]⟩,q⟩
  ·subst e';obtain⟨its,r',pl,hz⟩:=I.tuple hx;have hlen:=r'.length;exact len_tuple pl (by simp only[List.size_toArray];omega) ⟨.int xs.length,H,I.tok _,⟨_,by simp only[List.size_toArray];rw[hlen]⟩,q⟩
 | _=>exact(show False from e).elim
end
structure aa6(h:Heap)(x dx C:Addr)(mA:Str->Option Value):Prop where
 obj:h.get? x=some (W.instObj C dx)
 ns:h.Ns1 dx mA
 ne:dx≠x
theorem vU{h:Heap}{dx:Addr}{mA:Str->Option Value}(n:h.Ns1 dx mA):∃ od,h.get? dx=some od/\∀ name,W.lookIn name od=some (mA name):=by
 obtain⟨o,es,ep,ho,hd,hk,_,hm⟩:=n;refine⟨o,ho,λ name=>?_⟩;have e:=hm name;unfold nsFind findBy at e;rw[<- Array.find?_toList] at e;unfold W.lookIn;rw[hd];dsimp only
 split
 ·rename_i y q
  rw[q] at e;exact congrArg some e
 ·rename_i q
  rw[q] at e;have a:es.toList.any (·.refKey)=false:=by rw[List.any_eq_false];intro y hy;obtain⟨z,t,hkey⟩:=hk y (Array.mem_toList_iff.mp hy);simp[DictEntry.refKey,hkey]
  have a':¬ es.toList.any (·.refKey)=true:=by rw[a];exact Bool.false_ne_true
  rw[if_neg a'];exact congrArg some e
theorem aa6.look{h:Heap}{x dx C:Addr}{mA:Str->Option Value}(I:aa6 h x dx C mA):∃ od,W.InstAt h x (W.instObj C dx) C (some od)/\∀ name,W.lookIn name od=some (mA name):=
 let ⟨od,ho,hl⟩:=vU I.ns
 ⟨od,⟨I.obj,rfl,rfl,ho⟩,hl⟩
section
variable {prog:Program}{w:World}{A:Around}{E:VP}{s:Shared}{K:FG}{x dx C f:Addr}{mA:Str->Option Value}{name:Str}{v:Value}
theorem get_map{expr:Bool}{Q:VP}(X:K.In s.heap)(I:aa6 s.heap x dx C mA)(hg:W.plainGet K C name=true)(hh:W.hasDictIn K C=true)
  (ha:W.findIn K (.ref C) name=some none)(hv:mA name=some v)(hv':W.handedIn v=true)(h:Q v {s with toks:=s.toks+1}) :
  wpAny (model prog w) A (getAttr (.ref x) name expr) Q E s:=by
 obtain⟨od,J,hl⟩:=I.look;exact W.get_value X J (W.plainGet_of hg).1 (W.findObj_own hh ha rfl (by rw[hl,hv])) hv' h
theorem xQ{pl:Sem Bool}{Q:Value×List Value->Shared->Prop}(X:K.In s.heap)(I:aa6 s.heap x dx C mA)(hg:W.plainGet K C name=true)
  (hf:W.findIn K (.ref C) name=some (some (.ref f)))(ht:W.isFn K (.ref f)=true)(hv:mA name=none)(h:Q (.ref f,[.ref x]) s) :
  wpAny (model prog w) A (getMethod (.ref x) name pl) Q E s:=by
 obtain⟨od,J,hl⟩:=I.look;exact W.method_fn X J (W.plainGet_of hg).1 (W.plainGet_of hg).2 hf (beq_iff_eq.mp ht) (by show(W.lookIn name od).map (·.isSome)=some false;rw[hl,hv];rfl) h
theorem abR{ns:List Str}{Q:Unit->Shared->Prop}(X:K.In s.heap)(I:aa6 s.heap x dx C mA)
  (hs:W.findIn K (.ref C) "__setattr__" = some (some (.builtin "object.__setattr__")))(hp:W.plainOver K C=true)(ht:W.takerIn K C name=some none)(hh:W.hasDictIn K C=true)
  (hw:PySem.Within mA ns)(hsz:ns.length<=sizeLine)
  (h:∀ h',aa6 h' x dx C (λ y=>if y=name then some v else mA y)->Heap.SameBut dx s.heap h'->Q () {s with heap:=h',toks:=s.toks+2}) :
  wpAny (model prog w) A (setAttr (.ref x) name v) Q E s:=by
 obtain⟨od,J,hl⟩:=I.look;refine W.set_plain X J hs (W.osa_open (s:={s with toks:=s.toks+1}) (r:=none) X J hp ht λ b=>?_);obtain⟨cd,hc,hd'⟩:=W.any_some hh;have hx:s.heap.get? x=some ⟨.ref C,some dx,.plain,#[]⟩:=I.obj;refine wpAny_bind (wpAny_pure (wpAny_bind (wpAny_bind (wpAny_loadPart hx (wpAny_bind (W.Looks.here (s:={s with toks:=s.toks+1}) (W.looks_clsIn X hc) ?_))))));rw[hd'];refine wpAny_pure (a:=some dx) (wpAny_bind (wpAny_pure (wpAny_bind ?_)));refine wpAny_nsSet1 (s:={s with toks:=s.toks+1}) I.ns λ h' hn2 hs2=>?_;obtain⟨oD,esD,epD,hoD,hdD,hcD⟩:=hn2.count (PySem.Within.cons name v hw);refine wpAny_bind (wpAny_lookBehind hoD (by rw[hdD];exact pastItsLine_dict (Nat.le_trans hcD (by rw[List.length_cons];omega))) ?_);exact wpAny_pure (h _ ⟨(hs2.2 _ (Ne.symm I.ne)).trans I.obj,hn2,I.ne⟩ hs2)
theorem xV{R:Result->Shared->Prop}{vs:List Value}{kw:List (Str×Value)}(X:K.In s.heap)(hm:W.makesIn K C=true)
  (hi:W.findIn K (.ref C) "__init__" = some (some (.ref f)))(hf:W.typeIn K (.ref f)=some (.type "function"))
  (h:codeAny (model prog w) (A.under (.builtin "type.__call__" ⟨.ref C::vs,kw⟩)) (.call (.ref f) ⟨.ref (s.heap.objs.size+1)::vs,kw⟩) (W.InitBack (s.heap.objs.size+1) R)
   {s with heap:=(s.heap.push W.emptyDict).push (W.instObj C s.heap.objs.size)}) :
  codeAny (model prog w) A (.call (.ref C) ⟨vs,kw⟩) R s:=by
 obtain⟨hh,g,d,t,os⟩:=s;exact W.make_core (W.makes_of X hm) (W.looks_findIn X hi) (λ self=>W.bind_fn X self hf) (.inl rfl) h
end
def mq(f:Str)(v:V):List (Str×V)->List (Str×V)
 | []=>[(f,v)]
 | (g,x)::r=>if g=f then (g,v)::r else (g,x)::mq f v r
theorem jV(f g:Str)(v:V):∀ fs:List (Str×V),(mq f v fs).lookup g=if g=f then some v else fs.lookup g
 | []=>by
  show List.lookup g [(f,v)]=_
  by_cases h:g=f
  ·have hb:(g==f)=true:=beq_iff_eq.mpr h;simp only[List.lookup,hb,if_pos h]
  ·have hb:(g==f)=false:=beq_eq_false_iff_ne.mpr h;simp only[List.lookup,hb,if_neg h]
 | (k,x)::r=>by
  have ih:=jV f g v r;rw[show mq f v ((k,x)::r)=(if k=f then (k,v)::r else (k,x)::mq f v r) from rfl]
  by_cases hk:k=f
  ·rw[if_pos hk]
   by_cases h:g=k
   ·have hb:(g==k)=true:=beq_iff_eq.mpr h;simp only[List.lookup,hb,if_pos (h.trans hk)]
   ·have hb:(g==k)=false:=beq_eq_false_iff_ne.mpr h;simp only[List.lookup,hb,if_neg (λ e:g=f=>h (e.trans hk.symm))]
  ·rw[if_neg hk]
   by_cases h:g=k
   ·have hb:(g==k)=true:=beq_iff_eq.mpr h;simp only[List.lookup,hb,if_neg (λ e:g=f=>hk (h.symm.trans e))]
   ·have hb:(g==k)=false:=beq_eq_false_iff_ne.mpr h;simp only[List.lookup,hb];exact ih
theorem jx(f:Str)(v:V):∀ fs:List (Str×V),f∈(mq f v fs).map (·.1)/\∀ g,g∈fs.map (·.1)->g∈(mq f v fs).map (·.1)
 | []=>⟨by simp[mq],λ g h=>by simp at h⟩
 | (k,x)::r=>by
  obtain⟨i1,i2⟩:=jx f v r;rw[show mq f v ((k,x)::r)=(if k=f then (k,v)::r else (k,x)::mq f v r) from rfl]
  by_cases hk:k=f
  ·rw[if_pos hk];subst hk;exact⟨by simp,λ g h=>by simpa using h⟩
  ·rw[if_neg hk];refine⟨?_,λ g h=>?_⟩
   ·rw[List.map_cons];exact List.mem_cons_of_mem _ i1
   ·rw[List.map_cons] at h ⊢;rcases List.mem_cons.mp h with e | e
    ·exact List.mem_cons.mpr (.inl e)
    ·exact List.mem_cons_of_mem _ (i2 g e)
theorem jH(f:Str)(v:V):∀ fs:List (Str×V),(mq f v fs).length<=fs.length+1
 | []=>by simp[mq]
 | (k,x)::r=>by
  have ih:=jH f v r;rw[show mq f v ((k,x)::r)=(if k=f then (k,v)::r else (k,x)::mq f v r) from rfl]
  by_cases hk:k=f
  ·rw[if_pos hk,List.length_cons,List.length_cons];omega
  ·rw[if_neg hk,List.length_cons,List.length_cons];omega
theorem mY.some_of{v:V}{o:Option Value}(r:mY (some v) o):∃ u,o=some u/\RelV v u:=by
 cases o with
 | none=>exact(show False from r).elim
 | some u=>exact⟨u,rfl,r⟩
theorem mY.none_of{o:Option Value}(r:mY none o):o=none:=by
 cases o with
 | none=>rfl
 | some u=>exact(show False from r).elim
theorem uh{v:V}{u:Value}(r:RelV v u):W.handedIn u=true:=by
 cases v with
 | non=>cases (show u=Value.none from r);rfl
 | bl b=>cases (show u=Value.bool b from r);rfl
 | int i=>obtain⟨t,e⟩:=(show ∃ t,u=Value.int i t from r);cases e;rfl
 | str x=>obtain⟨t,e⟩:=(show ∃ t,u=Value.str x t from r);cases e;rfl
 | byt b=>obtain⟨t,e⟩:=(show ∃ t,u=Value.bytes b t from r);cases e;rfl
 | flt b=>obtain⟨t,e⟩:=(show ∃ t,u=Value.float b t from r);cases e;rfl
 | ref a=>cases (show u=Value.ref a from r);rfl
 | ty n=>cases (show u=Value.type n from r);rfl
section
variable {P:Program}{w:World}{H H':Hp}{h h':Heap}{a C dx:Addr}{fs fs':List (Str×V)}
theorem ql(hok:HOk P w H h)(e:H a=some (.ins C dx fs)):∃ mA,aa6 h a dx C mA/\(∀ f,mY (fs.lookup f) (mA f))/\PySem.Within mA (fs.map (·.1))/\fs.length<=1000/\H dx=some (.own a):=by obtain⟨d,z,ne,ob,mA,n,r,q⟩:=(show cF P w H h a (.ins C dx fs) from hok a _ e);exact⟨mA,⟨ob,n,ne⟩,r,q,z,d⟩
end
structure Cls(K:FG)(C:Addr):Prop where
 pg:W.plainGet K C Str.empty=true
 hd:W.hasDictIn K C=true
 po:W.plainOver K C=true
 sa:W.findIn K (.ref C) "__setattr__" = some (some (.builtin "object.__setattr__"))
theorem Cls.get{K:FG}{C:Addr}(c:Cls K C)(f:Str):W.plainGet K C f=true:=c.pg
def dN(K:FG)(C:Addr)(f:Str):Prop:=W.findIn K (.ref C) f=some none
theorem dN.agm{K:FG}{C:Addr}{f:Str}(n:dN K C f):W.takerIn K C f=some none:=by
 unfold W.takerIn;rw[show W.findIn K (.ref C) f=some none from n];rfl
structure Meth(K:FG)(C:Addr)(m:Str)(f:Addr):Prop where
 at_:W.findIn K (.ref C) m=some (some (.ref f))
 fn:W.isFn K (.ref f)=true
 kp:W.keepIn K (.ref f)=true
section
variable {X:Cx}{pins:PN}{σ:St}{H:Hp}{s:Shared}{a C dx:Addr}{fs:List (Str×V)}{f:Str}{v:V}{A:Around}{E:VP}
theorem tm{b:Bool}{Q:VP}(I:Inv X pins σ H s)(e:H a=some (.ins C dx fs))(c:Cls X.K C)(n:dN X.K C f)(l:fs.lookup f=some v)
  (h:∀ u s',Inv X pins σ H s'->RelV v u->Q u s'):wpAny (model X.prog X.w) A (getAttr (.ref a) f b) Q E s:=by
 obtain⟨mA,O,r,_,_,_⟩:=ql I.hok e;obtain⟨u,hu,ru⟩:=mY.some_of (v:=v) (o:=mA f) (by rw[<- l];exact r f);exact get_map I.kIn O (c.get f) c.hd n hu (uh ru) (h u _ (I.tok _) ru)
theorem kZ{m:Str}{g:Addr}{pl:Sem Bool}{Q:Value×List Value->Shared->Prop}(I:Inv X pins σ H s)(e:H a=some (.ins C dx fs))(c:Cls X.K C)(k:Meth X.K C m g)(l:fs.lookup m=none)
  (h:Q (.ref g,[.ref a]) s):wpAny (model X.prog X.w) A (getMethod (.ref a) m pl) Q E s:=by
 obtain⟨mA,O,r,_,_,_⟩:=ql I.hok e;have hn:mA m=none:=mY.none_of (by rw[<- l];exact r m);exact xQ I.kIn O (c.get m) k.at_ k.fn hn h
theorem sW{y:V}{u:Value}{Q:Unit->Shared->Prop}(I:Inv X pins σ H s)(e:H a=some (.ins C dx fs))(c:Cls X.K C)(n:dN X.K C f)(hl:fs.length<1000)(ry:RelV y u)
  (h:∀ s',Inv X pins σ (upd H a (.ins C dx (mq f y fs))) s'->Q () s'):wpAny (model X.prog X.w) A (setAttr (.ref a) f u) Q E s:=by
 obtain⟨mA,O,r,wi,_,ho⟩:=ql I.hok e;have hz:(fs.map (·.1)).length<=sizeLine:=by rw[List.length_map,sizeLine_eq];omega
 refine abR I.kIn O c.sa c.po n.agm c.hd wi hz λ h' O' sb=>h _ ?_;have hd:∃ o,h'.get? dx=some o:=let ⟨o,_,_,e',_⟩:=O'.ns; ⟨o,e'⟩;refine I.write (x:=a) (e:=dx) (by rw[e];exact True.intro) (.inr ho) (λ b q hb z=>(sb.2 b hb).trans z) hd ?_;refine⟨by rw[ah O.ne];exact ho,?_,O.ne,O'.obj,_,O'.ns,λ g=>?_,λ g hg=>?_⟩
 ·have:=jH f y fs;omega
 ·show mY ((mq f y fs).lookup g) (if g=f then some u else mA g);rw[jV]
  by_cases q:g=f
  ·rw[if_pos q,if_pos q];exact ry
  ·rw[if_neg q,if_neg q];exact r g
 ·by_cases q:g=f
  ·rw[q];exact(jx f y fs).1
  ·refine(jx f y fs).2 g (wi g λ z=>hg ?_);show(if g=f then some u else mA g)=none;rw[if_neg q];exact z
theorem Inv.made(I:Inv X pins σ H s):Inv X pins σ (upd (upd H s.heap.objs.size (.own (s.heap.objs.size+1))) (s.heap.objs.size+1) (.ins C s.heap.objs.size []))
  {s with heap:=(s.heap.push W.emptyDict).push (W.instObj C s.heap.objs.size)}:=by
 have e1:(s.heap.push W.emptyDict).get? s.heap.objs.size=some W.emptyDict:=Heap.get?_push_size s.heap rfl;have e2:((s.heap.push W.emptyDict).push (W.instObj C s.heap.objs.size)).get? (s.heap.objs.size+1)=some (W.instObj C s.heap.objs.size):=by
  have:=Heap.get?_push_size (s.heap.push W.emptyDict) (o:=W.instObj C s.heap.objs.size) rfl
  rwa[Heap.size_push] at this
 have e3:(s.heap.push W.emptyDict).Ns s.heap.objs.size (λ _=>none):=⟨W.emptyDict,#[],_,e1,rfl,(λ e he=>absurd he (by simp)),λ _=>rfl⟩;have I1:=I.laid (a:=s.heap.objs.size) (o:=.own (s.heap.objs.size+1)) (h':=s.heap.push W.emptyDict) (t':=s.toks) (λ b u q=>Heap.get?_push_of_some _ q) (Nat.le_refl _) ⟨_,e1⟩;refine I1.laid (a:=s.heap.objs.size+1) (o:=.ins C s.heap.objs.size []) (t':=s.toks) (λ b u q=>Heap.get?_push_of_some _ q) (Nat.le_of_eq (Heap.size_push _ _)) ?_;have ne:s.heap.objs.size≠s.heap.objs.size+1:=Nat.ne_of_lt (Nat.lt_succ_self _);refine⟨by rw[ah ne,ao],Nat.zero_le _,ne,e2,λ _=>none,(Heap.Ns1.of_empty e3).at λ o q=>Heap.get?_push_of_some _ q,λ _=>True.intro,λ y hy=>absurd rfl hy⟩
theorem aau{prog:Program}{w:World}{env:Env}{e:Expr}{f:Str}{pos:Pos}{s:Shared}{Q:VP}(hb:attributeBase e f env (eval e env)=eval e env)
  (h:wpAny (model prog w) A (eval e env) (λ o s₁=>wpAny (model prog w) A (getAttr o f true) Q E s₁) E s):wpAny (model prog w) A (eval (.Attribute e f pos) env) Q E s:=
 Attribute_any_ h (by rw[arm_eval_Attribute,hb])
end
def ahD(K:FG)(ta:TE)(f:Str):TE:=λ σ H Q=>ta σ H λ x H1=>∃ a C dx fs v,x=.ref a/\H1 a=some (.ins C dx fs)/\Cls K C/\dN K C f/\fs.lookup f=some v/\Q v H1
def ahy(K:FG)(ta tv:TE)(f:Str):TS:=λ D σ H=>tv σ H λ y H1=>ta σ H1 λ x H2=>∃ a C dx fs,x=.ref a/\H2 a=some (.ins C dx fs)/\Cls K C/\dN K C f/\fs.length<1000 /\
 D.nx σ (upd H2 a (.ins C dx (mq f y fs)))
section
variable {X:Cx}{o e value:Expr}{f:Str}{pos pos' tpos:Pos}{ta tv:TE}
theorem adf(he:PE X e ta)(hb:attributeBase e f X.env (eval e X.env)=eval e X.env):PE X (.Attribute e f pos) (ahD X.K ta f):=by intro pins s σ H Q I h;refine aau hb (thn (he pins s σ H _ I h) λ u s1 hq18=>?_);obtain⟨x,H1,I1,rx,a,C,dx,fs,v,ex,ea,c,n,l,q⟩:=hq18;subst ex;obtain rfl:u=Value.ref a:=rx;exact tm I1 ea c n l λ u' s2 I2 ru=>⟨v,H1,I2,ru,q⟩
theorem acG(ha:PE X o ta)(hv:PE X value tv)(hs:swapsWith value (some (.Attribute o f pos')) pos.line X.env=pure false):PS X (.Assign [.Attribute o f pos'] value pos) (ahy X.K ta tv f):=by intro pins s σ H D I h;refine plainObj_wpAny_Assign_Attribute (thn (hv pins s σ H _ I h) λ u s1 ⟨y,H1,I1,ry,q⟩=>thn (ha pins s1 σ H1 _ I1 q) λ ov s2 ⟨x,H2,I2,rx,a,C,dx,fs,ex,ea,c,n,l,q2⟩=>?_) hs;subst ex;obtain rfl:ov=Value.ref a:=rx;exact sW I2 ea c n l ry λ s3 I3=>⟨σ,_,I3,q2⟩
end
section
variable {X:Cx}{pins:PN}{σ:St}{H:Hp}{s:Shared}{A:Around}{E:VP}{Q:VP}{c:Value}{b:Bool}
end
structure cW(k:Nat)(A:Around):Prop where
 hd:A.handled=none
 gd:A.guards=some []
 dp:A.depth+3 * k+5<recursionLimit
 un:A.units+16 * k+200<cLine
theorem cW.mono{j k:Nat}{A:Around}(r:cW k A)(h:j<=k):cW j A:=⟨r.hd,r.gd,by have:=r.dp;omega,by have:=r.un;omega⟩
theorem cW.deeper{k:Nat}{A:Around}(r:cW (k+1) A)(env:Env):cW k (A.deeper env):=
 ⟨r.hd,r.gd,by have:=r.dp;show A.depth+1+3 * k+5<_;omega,by have:=r.un;show A.units+3+16 * k+200<_;omega⟩
theorem cW.in1{k:Nat}{A:Around}(r:cW (k+1) A):cW k A.in1:=
 ⟨r.hd,r.gd,by have:=r.dp;show A.depth+3 * k+5<_;omega,by have:=r.un;show A.units+1+16 * k+200<_;omega⟩
theorem sD{A:Around}{C:Addr}{us:List Value}{kw:List (Str×Value)}:(A.under (.builtin "type.__call__" ⟨.ref C::us,kw⟩)).depth=A.depth+1:=by
 first | rfl | simp[Around.under,Code.weight,Code.isCreation,Code.isGuard,Code.isCaller,Code.frames,Code.isFrame,guardIds]
theorem rX{A:Around}{C:Addr}{us:List Value}{kw:List (Str×Value)}:(A.under (.builtin "type.__call__" ⟨.ref C::us,kw⟩)).units=A.units+1:=by
 first | rfl | simp[Around.under,Code.cUnits,Code.frames,Code.isFrame]
theorem cW.make{k:Nat}{A:Around}(r:cW (k+1) A)(C:Addr)(us:List Value)(kw:List (Str×Value)):cW k (A.under (.builtin "type.__call__" ⟨.ref C::us,kw⟩)):=
 ⟨r.hd,(by first | exact r.gd | (simpa [Around.under,Code.isGuard,Code.frames,Code.isFrame,guardIds] using r.gd)),by have:=r.dp;rw[sD];omega,by have:=r.un;rw[rX];omega⟩
theorem cW.depth{k:Nat}{A:Around}(r:cW k A):A.depth<recursionLimit:=by have:=r.dp;omega
theorem cW.units{k:Nat}{A:Around}(r:cW k A):A.units+64<cLine:=by have:=r.un;omega
def adi:TA:=λ _ H Q=>Q [] H
def yG(ta:TE)(tr:TA):TA:=λ σ H Q=>ta σ H λ x H1=>tr σ H1 λ xs H2=>Q (x::xs) H2
section
variable {X:Cx}{e:Expr}{es:List Expr}{te:TE}{t:TA}{pos:Pos}
theorem yU:PA X [] adi:=λ _ _ _ _ H Q I h=>Calls.spliced_nil ⟨[],H,I,.nil,h⟩
theorem u3(ha:PE X e te)(hr:PA X es t)(hs:starEach (e::es) X.env=(false,eval e X.env)::starEach es X.env:=by rfl):PA X (e::es) (yG te t):=by intro pos pins s σ H Q I h;rw[hs];show wpAny _ _ (spliced ((false,eval e X.env)::backTo pos (starEach es X.env))) _ _ s;refine Calls.spliced_cons (thn (ha pins s σ H _ I h) λ u s1 hq19=>?_);obtain⟨x,H1,I1,r1,q1⟩:=hq19;exact thn (hr pos pins s1 σ H1 _ I1 q1) λ us s2 ⟨xs,H2,I2,r2,q2⟩=>⟨x::xs,H2,I2,.cons r1 r2,q2⟩
def ahq(t:TA):TE:=λ σ H Q=>t σ H λ xs H1=>xs.length<=sizeLine/\∀ p,H1 p=none->Q (.ref p) (upd H1 p (.tup xs))
def ahc(t:TA):TE:=λ σ H Q=>t σ H λ xs H1=>xs.length<=sizeLine/\∀ p,H1 p=none->Q (.ref p) (upd H1 p (.lst xs))
theorem wt{x1}(h:PA X es t):PE X (.Tuple es x1 pos) (ahq t):=by intro pins s σ H Q I hq;refine wpAny_Tuple_spliced (thn (h pos pins s σ H _ I hq) λ us s1 ⟨xs,H1,I1,r,z,q⟩=>⟨by rw[<- r.length];exact z,?_⟩);have hf:H1 s1.heap.objs.size=none:=I1.hok.fresh (Nat.le_refl _);refine⟨.ref s1.heap.objs.size,upd H1 s1.heap.objs.size (.tup xs),I1.laid (t':=s1.toks) (λ b u e=>Heap.get?_push_of_some _ e) (Nat.le_refl _) ?_,rfl,q _ hf⟩;exact⟨z,us,r,xW.new _ _⟩
theorem zH(h:PA X es t):PE X (.List es pos) (ahc t):=by intro pins s σ H Q I hq;refine wpAny_List_spliced (thn (h pos pins s σ H _ I hq) λ us s1 ⟨xs,H1,I1,r,z,q⟩=>⟨by rw[<- r.length];exact z,?_⟩);have hf:H1 s1.heap.objs.size=none:=I1.hok.fresh (Nat.le_refl _);refine⟨.ref s1.heap.objs.size,upd H1 s1.heap.objs.size (.lst xs),I1.laid (t':=s1.toks) (λ b u e=>Heap.get?_push_of_some _ e) (Nat.le_refl _) ?_,rfl,q _ hf⟩;exact⟨z,us,0,r,Heap.get?_push_size _ rfl⟩
end
abbrev Sp:=List V->Hp->VK->XK->Prop
abbrev CXT:=List Env->Hp->Shared->XK->VP
structure abW(P:Program)(w:World)(K:FG)(mg:Str->Option Value)(base:Heap)(A:Around)(outer:List Env)(s:Shared)(H:Hp):Prop where
 frames:A.frames=some outer
 mod:Mod K mg base
 bs:∀ b o,base.get? b=some o->s.heap.get? b=some o/\H b=none
 bsz:base.objs.size<=s.heap.objs.size
 oZ:s.heap.FunFrames base outer
 frf:∀ b∈frs outer,H b=none
 hok:HOk P w H s.heap
 bare:AllBare s.gens
def CE(outer:List Env)(P:Program)(w:World)(H:Hp)(s:Shared)(Q:VK)(u:Value)(s':Shared):Prop:=
 ∃ v H',s'.os=s.os/\AllBare s'.gens/\Un (frs outer) [] H H' s.heap s'.heap/\HOk P w H' s'.heap/\RelV v u/\Q v H'
def CR(CX:CXT)(outer:List Env)(P:Program)(w:World)(H:Hp)(s:Shared)(Q:VK)(E:XK)(r:Result)(s':Shared):Prop:=
 match r with
 | .ok (.ret u)=>CE outer P w H s Q u s'
 | .ok _=>False
 | .error e=>CX outer H s E e s'
structure cX(P:Program)(w:World)(K:FG)(mg:Str->Option Value)(base:Heap)(CX:CXT)(k:Nat)(f:Addr)(fd:FuncData)(ps:List Str)(sp:Sp):Prop where
 len:∀ vs H Q E,sp vs H Q E->vs.length=ps.length
 run:∀ (A:Around) (outer:List Env) (s:Shared) (H:Hp) (args:Args) (us:List Value) (vs:List V) (Q:VK) (E:XK),cW k A->abW P w K mg base A outer s H->BindsTo s fd args (ps.zip us)->Vals vs us->sp vs H Q E ->
  codeAny (model P w) A (.call (.ref f) args) (CR CX outer P w H s Q E) s
theorem abW.make{P:Program}{w:World}{K:FG}{mg:Str->Option Value}{base:Heap}{A:Around}{outer:List Env}{s:Shared}{H:Hp}(e:abW P w K mg base A outer s H)(C:Addr)(us:List Value)(kw:List (Str×Value)) :
  abW P w K mg base (A.under (.builtin "type.__call__" ⟨.ref C::us,kw⟩)) outer s H:=⟨by first | exact e.frames | (simpa [Around.under,Code.envs,Code.isFrame,pushEnvs] using e.frames),e.mod,e.bs,e.bsz,e.oZ,e.frf,e.hok,e.bare⟩
section
variable {X:Cx}{pins:PN}{σ:St}{H:Hp}{s s':Shared}
theorem Inv.ag6(I:Inv X pins σ H s):abW X.prog X.w X.K X.mg X.base X.A X.stack s H:=
 ⟨I.ok.frames,I.ok.mod,I.bs,Nat.le_trans I.ok.bsz I.sz,I.stack,I.o6,I.hok,I.bare⟩
theorem Inv.after{Q:VK}{u:Value}(I:Inv X pins σ H s)(h:CE X.stack X.prog X.w H s Q u s'):EP X pins σ Q u s':=by obtain⟨v,H',os,bare,un,hok,r,q⟩:=h;obtain⟨hh,g,d,t,os'⟩:=s';obtain rfl:os'=s.os:=os;exact⟨v,H',I.call (h':=hh) (g':=g) (d':=d) (t':=t) (ch:=[]) un hok bare (λ b z=>absurd z (by simp)),r,q⟩
end
def afq(sp:Sp)(dvs:List V)(E:XK)(t:TA):TE:=λ σ H Q=>t σ H λ vs H1=>sp (vs++dvs) H1 Q E
def aca(C:Addr)(m:Str)(sp:Sp)(dvs:List V)(E:XK)(ta:TE)(t:TA):TE:=λ σ H Q=>ta σ H λ x H1=>∃ a dx fs,x=.ref a/\H1 a=some (.ins C dx fs)/\fs.lookup m=none /\
 t σ H1 λ vs H2=>sp (x::(vs++dvs)) H2 Q E
def afY(C:Addr)(sp:Sp)(dvs:List V)(E:XK)(t:TA):TE:=λ σ H Q=>t σ H λ vs H1=>∀ x dx,H1 x=none->H1 dx=none->dx≠x ->
 sp (.ref x::(vs++dvs)) (upd (upd H1 dx (.own x)) x (.ins C dx [])) (λ v H2=>v=.non/\Q (.ref x) H2) E
def Binds(K:FG)(fd:FuncData)(ps:List Str)(ds:List Value):Prop:=
 ∀ (s:Shared) (us:List Value),K.In s.heap->(us++ds).length=ps.length->BindsTo s fd ⟨us,[]⟩ (ps.zip (us++ds))
theorem Binds.all{K:FG}{fd:FuncData}{ps:List Str}(h:∀ us:List Value,us.length=ps.length->bindArgs fd ⟨us,[]⟩=pure (ps.zip us)):Binds K fd ps []:=λ s us _ hl=>by rw[List.append_nil] at hl ⊢;exact .of_eq (h us hl)
def Passes(CX:CXT)(X:Cx)(E:XK):Prop:=∀ (pins:PN) (σ:St) (H:Hp) (s:Shared) (e:Value) (s':Shared),Inv X pins σ H s->CX X.stack H s E e s'->X.xe e s'
section
variable {X:Cx}{CX:CXT}{k:Nat}{f C:Addr}{fd:FuncData}{ps:List Str}{sp:Sp}{dvs:List V}{ds:List Value}{E:XK}{x m:Str}{p pos apos:Pos}{e o:Expr}{es:List Expr}{ta:TE}{t:TA}
theorem vO{pins:PN}{σ:St}{H:Hp}{s:Shared}{Q:VK}{us:List Value}{vs:List V}(F:cX X.prog X.w X.K X.mg X.base CX k f fd ps sp)(hr:cW k X.A)(hb:Binds X.K fd ps ds)(hd:Vals dvs ds)(hx:Passes CX X E)
  (I:Inv X pins σ H s)(r:Vals vs us)(h:sp (vs++dvs) H Q E):wpAny (model X.prog X.w) X.A (call (.ref f) us) (EP X pins σ Q) X.xe s:=by
 have r2:Vals (vs++dvs) (us++ds):=r.append hd;have hl:(us++ds).length=ps.length:=by rw[<- r2.length];exact F.len _ _ _ _ h
 refine wpAny_call (codeAny_mono (F.run X.A X.stack s H ⟨us,[]⟩ (us++ds) (vs++dvs) Q E hr I.ag6 (hb s us I.kIn hl) r2 h) λ r s' hq=>?_);cases r with
 | error e=>exact hx pins σ H s e s' I hq
 | ok fl =>
  cases fl with
  | ret u=>exact I.after hq
  | next=>exact False.elim hq
  | brk=>exact False.elim hq
  | cont=>exact False.elim hq
theorem aaS(F:cX X.prog X.w X.K X.mg X.base CX k f fd ps sp)(hr:cW k X.A)(hg:Gl X x)(hm:X.mg x=some (.ref f))(hk:W.keepIn X.K (.ref f)=true)(hb:Binds X.K fd ps ds)(hd:Vals dvs ds)(hx:Passes CX X E)
  (ha:PA X (e::es) t)(hdb:ND x:=by decide)(he:starEach (e::es) X.env=(false,eval e X.env)::starEach es X.env:=by rfl)(hpl:(backTo pos (starEach es X.env)).any (·.1)=false:=by rfl) :
  PE X (.Call (.Name x p) (e::es) [] pos) (afq sp dvs E t):=by
 intro pins s σ H Q I h;refine wpAny_Call_Name_kw (vE I hg hm ?_ hdb);refine W.callWith_K (h₀:=X.base) I.ok.mod.kin hk (thn (ha pos pins s σ H _ I h) λ us s1 ⟨vs,H1,I1,r,q⟩=>⟨I1.kIn,?_⟩) he hpl;exact vO F hr hb hd hx I1 r q
theorem abU{pl:Sem Bool}(he:PE X o ta)(c:Cls X.K C)(hm:Meth X.K C m f)(F:cX X.prog X.w X.K X.mg X.base CX k f fd ps sp)(hr:cW k X.A)(hb:Binds X.K fd ps ds)(hd:Vals dvs ds)(hx:Passes CX X E)(ha:PA X (e::es) t)
  (hst:starEach (e::es) X.env=(false,eval e X.env)::starEach es X.env:=by rfl)(hpl:(backTo pos (starEach es X.env)).any (·.1)=false:=by rfl)
  (ht:eval (.Call (.Attribute o m apos) (e::es) [] pos) X.env=(do
   let ov <- eval o X.env
   standAt apos.atName
   let (f,first) <- holding [ov] (getMethod ov m pl)
   callWith pos f first (backTo pos (starEach (e::es) X.env)) (backToKw pos (keywordEach [] X.env))):=by rfl) :
  PE X (.Call (.Attribute o m apos) (e::es) [] pos) (aca C m sp dvs E ta t):=by
 intro pins s σ H Q I h;refine W.methodCall_KW (pl:=pl) (thn (he pins s σ H _ I h) λ u s1 ⟨x,H1,I1,rx,a,dx,fs,ex,ea,l,q⟩=>?_) ht;subst ex;obtain rfl:u=Value.ref a:=rx;refine kZ I1 ea c hm l ?_;refine W.callWith_K (first:=[.ref a]) (h₀:=X.base) I.ok.mod.kin hm.kp (thn (ha pos pins s1 σ H1 _ I1 q) λ us s2 ⟨vs,H2,I2,r,q2⟩=>⟨I2.kIn,?_⟩) hst hpl
 exact vO (us:=.ref a::us) (vs:=.ref a::vs) F hr hb hd hx I2 (.cons rfl r) q2
theorem yJ{pl:Sem Bool}(he:PE X o ta)(c:Cls X.K C)(hm:Meth X.K C m f)(F:cX X.prog X.w X.K X.mg X.base CX k f fd ps sp)(hr:cW k X.A)(hb:Binds X.K fd ps ds)(hd:Vals dvs ds)(hx:Passes CX X E)
  (ht:eval (.Call (.Attribute o m apos) [] [] pos) X.env=(do
   let ov <- eval o X.env
   standAt apos.atName
   let (f,first) <- holding [ov] (getMethod ov m pl)
   callWith pos f first (backTo pos (starEach [] X.env)) (backToKw pos (keywordEach [] X.env))):=by rfl) :
  PE X (.Call (.Attribute o m apos) [] [] pos) (aca C m sp dvs E ta adi):=by
 intro pins s σ H Q I h;refine W.methodCall_KW (pl:=pl) (thn (he pins s σ H _ I h) λ u s1 ⟨x,H1,I1,rx,a,dx,fs,ex,ea,l,q⟩=>?_) ht;subst ex;obtain rfl:u=Value.ref a:=rx;refine kZ I1 ea c hm l ?_;exact W.callWith_K0 (first:=[.ref a]) I1.kIn hm.kp (vO (us:=[.ref a]) (vs:=[.ref a]) F hr hb hd hx I1 (.cons rfl .nil) q)
structure Mk(K:FG)(C f:Addr):Prop where
 makes:W.makesIn K C=true
 init:W.findIn K (.ref C) "__init__" = some (some (.ref f))
 fn:W.isFn K (.ref f)=true
 kp:W.keepIn K (.ref C)=true
theorem wW{pins:PN}{σ:St}{H:Hp}{s:Shared}{Q:VK}{us:List Value}{vs:List V}(M:Mk X.K C f)(F:cX X.prog X.w X.K X.mg X.base CX k f fd ps sp)(hr:cW (k+1) X.A)(hb:Binds X.K fd ps ds)(hd:Vals dvs ds)
  (hx:Passes CX X E)(I:Inv X pins σ H s)(r:Vals vs us)
  (h:∀ x dx,H x=none->H dx=none->dx≠x->sp (.ref x::(vs++dvs)) (upd (upd H dx (.own x)) x (.ins C dx [])) (λ v H2=>v=.non/\Q (.ref x) H2) E) :
  wpAny (model X.prog X.w) X.A (call (.ref C) us) (EP X pins σ Q) X.xe s:=by
 have hq:=h (s.heap.objs.size+1) s.heap.objs.size (I.hok.fresh (Nat.le_succ _)) (I.hok.fresh (Nat.le_refl _)) (Nat.ne_of_lt (Nat.lt_succ_self _));have I2:=Inv.made (C:=C) I;have r2:Vals (V.ref (s.heap.objs.size+1)::(vs++dvs)) (Value.ref (s.heap.objs.size+1)::(us++ds)):=.cons rfl (r.append hd);have hl:(Value.ref (s.heap.objs.size+1)::us++ds).length=ps.length:=by have e:=r2.length;rw[F.len _ _ _ _ hq] at e;exact e.symm
 refine wpAny_call (xV (f:=f) I.kIn M.makes M.init (beq_iff_eq.mp M.fn) (codeAny_mono (F.run _ X.stack _ _ ⟨Value.ref (s.heap.objs.size+1)::us,[]⟩ (Value.ref (s.heap.objs.size+1)::(us++ds)) _ _ E (hr.make C us [])
  (I2.ag6.make C us []) (hb _ (Value.ref (s.heap.objs.size+1)::us) I2.kIn hl) r2 hq) λ r s' hq'=>?_))
 cases r with
 | error e=>exact hx pins σ _ _ e s' I2 hq'
 | ok fl =>
  cases fl with
  | ret u =>
   obtain⟨v,H',I3,rv,ev,q3⟩:=I2.after hq';subst ev;exact⟨rv,⟨V.ref (s.heap.objs.size+1),H',I3,rfl,q3⟩⟩
  | next=>exact False.elim hq'
  | brk=>exact False.elim hq'
  | cont=>exact False.elim hq'
theorem aas(M:Mk X.K C f)(F:cX X.prog X.w X.K X.mg X.base CX k f fd ps sp)(hr:cW (k+1) X.A)(hg:Gl X x)(hm:X.mg x=some (.ref C))(hb:Binds X.K fd ps ds)(hd:Vals dvs ds)(hx:Passes CX X E)
  (ha:PA X (e::es) t)(hdb:ND x:=by decide)(he:starEach (e::es) X.env=(false,eval e X.env)::starEach es X.env:=by rfl)(hpl:(backTo pos (starEach es X.env)).any (·.1)=false:=by rfl) :
  PE X (.Call (.Name x p) (e::es) [] pos) (afY C sp dvs E t):=by
 intro pins s σ H Q I h;refine wpAny_Call_Name_kw (vE I hg hm ?_ hdb);refine W.callWith_K (h₀:=X.base) I.ok.mod.kin M.kp (thn (ha pos pins s σ H _ I h) λ us s1 ⟨vs,H1,I1,r,q⟩=>⟨I1.kIn,?_⟩) he hpl;exact wW M F hr hb hd hx I1 r q
end
def PK(X:Cx)(kws:List Keyword)(t:TA):Prop:=
 ∀ (pos:Pos) (pins:PN) (s:Shared) (σ:St) (H:Hp) (Q:List V->Hp->Prop),Inv X pins σ H s->t σ H Q->wpAny (model X.prog X.w) X.A (evalAll ((backToKw pos (keywordEach kws X.env)).map (·.2))) (AP X pins σ Q) X.xe s
section
variable {X:Cx}{CX:CXT}{k:Nat}{f C:Addr}{fd:FuncData}{ps ks:List Str}{sp:Sp}{E:XK}{x m:Str}{p pos apos kpos:Pos}{e o:Expr}{es:List Expr}{kws:List Keyword}{te ta:TE}{t tk:TA}{nm:Option Str}
theorem aes:PK X [] adi:=λ _ _ _ _ H Q I h=>wpAny_evalAll_nil ⟨[],H,I,.nil,h⟩
theorem ab9(ha:PE X e te)(hr:PK X kws t):PK X (⟨nm,e,kpos⟩::kws) (yG te t):=by intro pos pins s σ H Q I h;show wpAny _ _ (evalAll ((do let v <- eval e X.env;standAt pos;pure v)::(backToKw pos (keywordEach kws X.env)).map (·.2))) _ _ s;refine wpAny_evalAll_cons (wpAny_bind (thn (ha pins s σ H _ I h) λ u s1 ⟨x,H1,I1,r1,q1⟩=>wpAny_bind (wpAny_standAt (wpAny_pure ?_))));exact thn (hr pos pins s1 σ H1 _ I1 q1) λ us s2 ⟨xs,H2,I2,r2,q2⟩=>⟨x::xs,H2,I2,.cons r1 r2,q2⟩
variable {g:List Value->List Value->List Value}{gV:List V->List V->List V}
end
structure bu(N P:List Str)(sc:Scope):Prop where
 kind:sc.kind=.function
 co:sc.isCoroutine=false
 gen:sc.isGenerator=false
 nd:N.Nodup
 pre:N.take P.length=P
 par:∀ x∈P,sc.names.lookup x=some .local\/sc.names.lookup x=some .cell
 nofree:∀ y∈sc.names,y.2 ≠ .free
theorem oS{kindOf:Str->Option NameKind}{x:Str}:∀ {binds:List (Str×Value)} {m:Str->Option Value},(∀ v,(x,v) ∉ binds)->bindL kindOf binds m x=m x
 | [],_,_=>rfl
 | (n,v)::r,m,h=>by
  unfold bindL;rw[oS λ w hw=>h w (List.mem_cons_of_mem _ hw)]
  split
  ·have:x≠n:=by rintro rfl;exact h v List.mem_cons_self
   simp[this]
  ·rfl
theorem nN{kindOf:Str->Option NameKind}{x:Str}:∀ {binds:List (Str×Value)} {m:Str->Option Value},(∀ v,(x,v) ∉ binds)->bindC kindOf binds m x=m x
 | [],_,_=>rfl
 | (n,v)::r,m,h=>by
  unfold bindC;rw[nN λ w hw=>h w (List.mem_cons_of_mem _ hw)]
  split
  ·rfl
  ·have:x≠n:=by rintro rfl;exact h v List.mem_cons_self
   simp[this]
theorem oV{kindOf:Str->Option NameKind}{x:Str}{v:Value}:∀ {P:List Str} {vs:List Value} {i:Nat} {m:Str->Option Value},P.Nodup->P[i]? =some x->vs[i]? =some v->kindOf x=some .local ->
  bindL kindOf (P.zip vs) m x=some v
 | [],_,_,_,_,h,_,_=>by simp at h
 | _::_,[],_,_,_,_,h,_=>by simp at h
 | p::P,w::vs,0,m,nd,h1,h2,hk=>by simp at h1 h2;subst h1;subst h2;show bindL kindOf ((p,w)::P.zip vs) m p=_;unfold bindL;rw[oS λ v hv=>(List.nodup_cons.mp nd).1 (List.of_mem_zip hv).1,if_pos hk];simp
 | p::P,w::vs,i+1,m,nd,h1,h2,hk=>by show bindL kindOf ((p,w)::P.zip vs) m x=_;unfold bindL;exact oV (i:=i) (List.nodup_cons.mp nd).2 (by simpa using h1) (by simpa using h2) hk
theorem oE{kindOf:Str->Option NameKind}{x:Str}{v:Value}:∀ {P:List Str} {vs:List Value} {i:Nat} {m:Str->Option Value},P.Nodup->P[i]? =some x->vs[i]? =some v->kindOf x≠some .local ->
  bindC kindOf (P.zip vs) m x=some v
 | [],_,_,_,_,h,_,_=>by simp at h
 | _::_,[],_,_,_,_,h,_=>by simp at h
 | p::P,w::vs,0,m,nd,h1,h2,hk=>by simp at h1 h2;subst h1;subst h2;show bindC kindOf ((p,w)::P.zip vs) m p=_;unfold bindC;rw[nN λ v hv=>(List.nodup_cons.mp nd).1 (List.of_mem_zip hv).1,if_neg hk];simp
 | p::P,w::vs,i+1,m,nd,h1,h2,hk=>by show bindC kindOf ((p,w)::P.zip vs) m x=_;unfold bindC;exact oE (i:=i) (List.nodup_cons.mp nd).2 (by simpa using h1) (by simpa using h2) hk
def start(N:List Str)(vs:List V):St:=vs.map some++List.replicate (N.length-vs.length) none
def zP(CX:CXT)(P:Program)(w:World)(K:FG)(mg:Str->Option Value)(base:Heap)(N:List Str)(qual:Str)(scope:Scope)(f:Addr)(cd:Value)(A:Around)(outer:List Env)(s:Shared)(H:Hp)(E:XK):Cx where
 prog:=P
 w:=w
 K:=K
 mg:=mg
 base:=base
 A:=A.deeper (envOfC qual scope s.heap.objs.size f cd)
 N:=N
 s₀:=s
 H₀:=H
 env:=envOfC qual scope s.heap.objs.size f cd
 outer:=outer
 stack:=envOfC qual scope s.heap.objs.size f cd::outer
 ex:=[]
 calm:=true
 fn:=λ _=>true
 pn:=[]
 xe:=λ e s'=>wpAny (model P w) (A.deeper (envOfC qual scope s.heap.objs.size f cd)) (leaving (envOfC qual scope s.heap.objs.size f cd) e) (λ _ s''=>CX outer H s E e s'') (λ e' s''=>CX outer H s E e' s'') s'
theorem rC{sc:Scope}{n:Nat}{x:Str}(h:sc.names.lookup x=some .cell):∃ c,(cellsFrom n sc.names []).lookup x=some c:=by have q:=W.cellsFrom_some sc.names n [] (.inl h);exact Option.isSome_iff_exists.mp q
theorem vw{CX:CXT}{P:Program}{w:World}{K:FG}{mg:Str->Option Value}{base:Heap}{N ps:List Str}{qual:Str}{scope:Scope}{f:Addr}{cd:Value}{A:Around}{outer:List Env}{s s1:Shared}{H:Hp}{E:XK}{us:List Value}{vs:List V}
  (S:bu N ps scope)(hd:A.handled=none)(e0:abW P w K mg base A outer s H)(hl:vs.length=ps.length)(r:Vals vs us)
  (x:InCallC s s.heap.objs.size (bindL (envOfC qual scope s.heap.objs.size f cd).kindOf (ps.zip us) λ _=>none) (cellsFrom (s.heap.objs.size+1) scope.names []) (bindC (envOfC qual scope s.heap.objs.size f cd).kindOf (ps.zip us) λ _=>none) s1) :
  Inv (zP CX P w K mg base N qual scope f cd A outer s H E) [] (start N vs) H s1:=by
 have hpl:ps.length<=N.length:=by have:=congrArg List.length S.pre;rw[List.length_take] at this;omega
 obtain⟨h1,tk,rfl,hk⟩:=x.done;have noA:∀ b:Addr,b ∉ (zP CX P w K mg base N qual scope f cd A outer s H E).ex:=λ b z=>absurd (show b∈([]:List Addr) from z) (by simp);refine⟨⟨e0.mod,S.kind,rfl,rfl,Nat.le_refl _,λ y z c h1 h2=>?_,λ y hy=>?_,λ y c _ h=>?_,λ _=>hd,Around.frames_deeper e0.frames,.inr ⟨rfl,rfl⟩,λ b z=>absurd z (noA b),e0.bs,e0.bsz,λ b _ _=>noA b,λ b z=>absurd z (noA b),e0.oZ,e0.frf⟩,
  rfl,e0.bare,Un.kept hk,⟨_,x.toInCall.ns,λ i y v h1 h2 h3=>?_⟩,λ y c h=>⟨_,x.cell y c h⟩,e0.hok.fresh (Nat.le_refl _),λ y c h=>?_,λ p hp=>absurd (show p∈([]:PN) from hp) (by simp),e0.hok.kept hk,?_⟩
 ·exact name_of_addr x.apart (PySem.mem_of_lookup h1) (PySem.mem_of_lookup h2)
 ·have hy:scope.names.lookup y=some .cell\/scope.names.lookup y=some .free:=hy;rcases hy with hy | hy
  ·exact rC hy
  ·exact absurd rfl (S.nofree _ (PySem.mem_of_lookup hy))
 ·exact Nat.le_of_lt (x.above y c (PySem.mem_of_lookup h))
 ·have hi:i<vs.length:=by
   unfold start at h2
   by_cases hi:i<vs.length
   ·exact hi
   ·rw[List.getElem?_append_right (by simpa using hi)] at h2;rw[List.getElem?_replicate] at h2
    split at h2<;>cases h2
  have ha:vs[i]? =some v:=by
   unfold start at h2;rw[List.getElem?_append_left (by simpa using hi),List.getElem?_map] at h2;cases e:vs[i]? with
   | none=>rw[e] at h2;cases h2
   | some a=>rw[e] at h2;cases h2;rfl
  obtain⟨u,hu,rv⟩:=r.get ha;have hp:ps[i]? =some y:=by rw[<- S.pre,List.getElem?_take_of_lt (by omega)];exact h1
  have ndP:ps.Nodup:=by rw[<- S.pre];exact S.nd.sublist (List.take_sublist _ _)
  refine⟨u,rv,?_⟩;rcases S.par y (List.mem_of_getElem? hp) with k | k
  ·exact .inl ⟨k,oV ndP hp hu k⟩
  ·obtain⟨c,e⟩:=rC (n:=s.heap.objs.size+1) k;refine .inr ⟨.inl k,c,e,?_⟩;have q:=x.cell y c e;rw[oE ndP hp hu (by show scope.names.lookup y≠_;rw[k];decide)] at q;exact q
 ·exact e0.hok.fresh (Nat.le_of_lt (x.above y c (PySem.mem_of_lookup h)))
 ·unfold start;show _=N.length;rw[List.length_append,List.length_map,List.length_replicate];omega
theorem ac5{CX:CXT}{P:Program}{w:World}{K:FG}{mg:Str->Option Value}{base:Heap}{k:Nat}{f:Addr}{name qual:Str}{params:Arguments}{body:List Stmt}{scope:Scope}{dV kV doc pm cdv ct oc:Value}{an od:Option Addr}
  {osl:Array (Option Value)}{N ps:List Str}{sp:Sp}(lk:K.lookup f=some ⟨oc,od,.func (W.fnOf name qual params body scope dV kV doc pm an cdv ct),osl⟩)(hcd:W.codeIn K cdv qual=true)(S:bu N ps scope)
  (len:∀ vs H Q E,sp vs H Q E->vs.length=ps.length)
  (hbody:∀ (A:Around) (outer:List Env) (s:Shared) (H:Hp) (vs:List V) (Q:VK) (E:XK),cW k (A.deeper (envOfC qual scope s.heap.objs.size f cdv))->sp vs H Q E ->
   ∃ t,PSs (zP CX P w K mg base N qual scope f cdv A outer s H E) body t/\t {nx:=λ _ H'=>Q .non H',rt:=Q} (start N vs) H) :
  cX P w K mg base CX (k+1) f (W.fnOf name qual params body scope dV kV doc pm an cdv ct) ps sp:=by
 refine⟨len,λ A outer s H args us vs Q E hr e0 hb r hsp=>?_⟩;have hl:=len _ _ _ _ hsp;have KX:K.In s.heap:=e0.mod.kin.keeps λ b o e=>(e0.bs b o e).1;have lim:s.heap.NoLimit:=e0.mod.nolimit.keeps λ b o e=>(e0.bs b o e).1;have hkind:∀ y∈ps.zip us,scope.names.lookup y.1=some .local\/(scope.names.lookup y.1=some .cell/\((cellsFrom (s.heap.objs.size+1) scope.names []).lookup y.1).isSome=true):=λ⟨n,v⟩ hy=>by
  rcases S.par n (List.of_mem_zip hy).1 with q | q
  ·exact .inl q
  ·exact .inr ⟨q,W.cellsFrom_some _ _ _ (.inl q)⟩
 refine codeAny_call_function hr.depth (KX _ _ lk) rfl S.co S.gen rfl (W.codeRec_of KX hcd) (hb _ _ _ _ ?_);refine wpAny_newFunctionEnv_cells S.kind hkind λ env he s1 x=>?_;subst he;refine⟨lim.keeps x.toInCall.keep,codeAny_func ?_⟩;obtain⟨t,ht,hq⟩:=hbody A outer s H vs Q E (hr.deeper _) hsp;have I:Inv (zP CX P w K mg base N qual scope f cdv A outer s H E) [] (start N vs) H s1:=vw S hr.hd e0 hl r x;refine wpAny_mono (ht [] s1 (start N vs) H _ I hq) (λ fl s' hs=>?_) λ e s' hs=>hs;have fin:∀ {σ':St} {H':Hp} {v:V} {u:Value},Inv (zP CX P w K mg base N qual scope f cdv A outer s H E) [] σ' H' s'->RelV v u->Q v H'->CE outer P w H s Q u s':=
  λ {σ' H' v u} J rv q=>⟨v,H',J.os,J.bare,J.base,J.hok,rv,q⟩
 cases fl with
 | ret u =>
  obtain⟨v,σ',H',J,rv,q⟩:=hs;exact fin J rv q
 | next =>
  obtain⟨σ',H',J,q⟩:=hs;exact fin (v:=V.non) (u:=Value.none) J rfl q
 | brk =>
  obtain⟨_,_,_,q⟩:=hs;exact False.elim q
 | cont =>
  obtain⟨_,_,_,q⟩:=hs;exact False.elim q
section
variable {X:Cx}{x:Str}{p pos:Pos}{e:Expr}{es:List Expr}{t:TA}{id T:String}{r:List V->Hp->VK->Prop}
def tCB(r:List V->Hp->VK->Prop)(t:TA):TE:=λ σ H Q=>t σ H λ vs H1=>r vs H1 Q
theorem xG(hc:fc X (.builtin id) r)(hg:Gl X x)(hm:X.mg x=none)(hv:bootBuiltins x=some (.builtin id))(ha:PA X (e::es) t)(hn:x ≠ "__name__":= by decide)(hdb:ND x:=by decide)
  (he:starEach (e::es) X.env=(false,eval e X.env)::starEach es X.env:=by rfl)(hpl:(backTo pos (starEach es X.env)).any (·.1)=false:=by rfl):PE X (.Call (.Name x p) (e::es) [] pos) (tCB r t):=by
 intro pins s σ H Q I h;refine wpAny_Call_Name_kw (kL I hg hm hv ?_ hn hdb);exact PyProof.Rows.callWith_builtin1 (thn (ha pos pins s σ H _ I h) λ us s1 ⟨vs,H1,I1,r1,q1⟩=>hc pins s1 σ H1 vs us Q I1 r1 q1) he hpl
theorem u9(hc:fc X (.type T) r)(hg:Gl X x)(hm:X.mg x=none)(hv:bootBuiltins x=some (.type T))(ha:PA X (e::es) t)(hn:x ≠ "__name__":= by decide)(hdb:ND x:=by decide)
  (he:starEach (e::es) X.env=(false,eval e X.env)::starEach es X.env:=by rfl)(hpl:(backTo pos (starEach es X.env)).any (·.1)=false:=by rfl):PE X (.Call (.Name x p) (e::es) [] pos) (tCB r t):=by
 intro pins s σ H Q I h;refine wpAny_Call_Name_kw (kL I hg hm hv ?_ hn hdb);exact PyProof.Rows.callWith_type1 (thn (ha pos pins s σ H _ I h) λ us s1 ⟨vs,H1,I1,r1,q1⟩=>hc pins s1 σ H1 vs us Q I1 r1 q1) he hpl
end
end L2
namespace HT
open PySem PyProof.Rows
section
open PySem.SeqAt
open PySem.AutoSeq1 (wpAny_loadPart')
open PySem.MeetsSeq PySem.MeetsSeq2 PySem.MeetsSeq3
end
section
variable {prog:Program}{w:World}{A:Around}{E:VP}{s:Shared}
def sIx(n d:Nat):Option Int->Nat
 | none=>d
 | some v=>if v<0 then (v+(n:Int)).toNat else min v.toNat n
theorem adQ(n d:Nat)(hd:d<=n)(o:Option Int):sIx n d o<=n:=by
 cases o with
 | none=>exact hd
 | some v =>
  show(if v<0 then (v+(n:Int)).toNat else min v.toNat n)<=n
  by_cases hv:v<0
  ·rw[if_pos hv];omega
  ·rw[if_neg hv];exact Nat.min_le_right _ _
theorem vm(v:Int)(n d:Nat):(if v<0 then max (v+(n:Int)) 0 else min v (n:Int))=((sIx n d (some v):Nat):Int):=by
 show(if v<0 then max (v+(n:Int)) 0 else min v (n:Int))=(((if v<0 then (v+(n:Int)).toNat else min v.toNat n):Nat):Int)
 by_cases hv:v<0
 ·simp only[if_pos hv];omega
 ·simp only[if_neg hv];omega
theorem sV(lo hi:Option Int)(n:Nat):Builtin.Slice.sliceAdjust lo hi 1 (n:Int)=(((sIx n 0 lo:Nat):Int),((sIx n n hi:Nat):Int)):=by
 have h1:¬ ((1:Int)<0):=by omega
 unfold Builtin.Slice.sliceAdjust;simp only[h1,if_false];refine Prod.ext ?_ ?_
 ·cases lo with
  | none=>rfl
  | some v=>exact vm v n 0
 ·cases hi with
  | none=>rfl
  | some v=>exact vm v n n
theorem sJ(i j:Nat):Builtin.Slice.slicePlaces (i:Int) (j:Int) 1=j-i:=by
 unfold Builtin.Slice.slicePlaces;have h1:(1:Int) > 0:=by omega
 simp only[h1,if_true,Int.ediv_one]
 split<;>omega
theorem k7{v:Value}{o:Option Int}{Q:Option Int->Shared->Prop}(p:IsPart v o)(h:Q o s):wpAny (model prog w) A (Builtin.Slice.slicePartIndex v) Q E s:=by
 cases p with
 | none=>exact slicePart_none h
 | int i t=>exact slicePart_int h
theorem iR{sl:Addr}{vl vu:Value}{lo hi:Option Int}{n:Nat}{Q:Int×Int×Nat->Shared->Prop}(hs:s.heap.IsSliceOf sl vl vu .none)(pl:IsPart vl lo)(pu:IsPart vu hi)
  (h:Q (((sIx n 0 lo:Nat):Int),1,sIx n n hi-sIx n 0 lo) s):wpAny (model prog w) A (Builtin.Slice.sliceApplied (.ref sl) (pure (n:Int))) Q E s:=by
 obtain⟨os,hos,hcs,hds⟩:=id hs;unfold Builtin.Slice.sliceApplied Builtin.Slice.sliceFields;refine wpAny_bind (wpAny_bind (wpAny_field hos hds (x:=vl) rfl (wpAny_bind (wpAny_field hos hds (x:=vu) rfl (wpAny_bind (wpAny_field hos hds (x:=.none) rfl (wpAny_pure ?_)))))));refine wpAny_bind (slicePart_none ?_);show wpAny _ _ (if ((1:Int)==0)=true then _ else _) _ _ s;rw[if_neg (by decide)];refine wpAny_bind (k7 pl (wpAny_bind (k7 pu (wpAny_bind (wpAny_pure ?_)))));show wpAny _ _ (match Builtin.Slice.sliceAdjust lo hi 1 (n:Int) with | (lo,hi)=>pure (lo,(1:Int),Builtin.Slice.slicePlaces lo hi 1)) _ _ s
 rw[sV lo hi n];show wpAny _ _ (pure (((sIx n 0 lo:Nat):Int),(1:Int),Builtin.Slice.slicePlaces ((sIx n 0 lo:Nat):Int) ((sIx n n hi:Nat):Int) 1)) _ _ s;rw[sJ];exact wpAny_pure h
theorem xt(xs:Array Value)(i k:Nat):((List.range k).filterMap λ(m:Nat)=>xs[((i:Int)+(m:Int) * 1).toNat]?).toArray=((xs.toList.drop i).take k).toArray:=by
 have e:(λ(m:Nat)=>xs[((i:Int)+(m:Int) * 1).toNat]?)=λ m=>xs[i+m]?:=by
  funext m;have:((i:Int)+(m:Int) * 1).toNat=i+m:=by omega
  rw[this]
 rw[e];have:=pick_run xs i k;rw[List.filterMap_map] at this;have e2:((λ x=>xs[x]?) ∘ λ x=>i+x)=λ m=>xs[i+m]?:=rfl;rw[e2] at this;rw[this]
theorem iu{t sl:Addr}{items:Array Value}{vl vu:Value}{lo hi:Option Int}{Q:VP}(ht:IsTup s.heap t items)(hs:s.heap.IsSliceOf sl vl vu .none)(pl:IsPart vl lo)(pu:IsPart vu hi)
  (hw:¬ (sIx items.size 0 lo=0/\sIx items.size items.size hi=items.size))
  (h:Q (.ref s.heap.objs.size) {s with heap:=s.heap.push {cls:=.type "tuple",data:=.seq ((items.toList.drop (sIx items.size 0 lo)).take (sIx items.size items.size hi-sIx items.size 0 lo)).toArray}})
  (hsz:items.size<=sizeLine):wpAny (model prog w) A (getItem (.ref t) (.ref sl)) Q E s:=by
 have htake:sizeOk (.seq ((items.toList.drop (sIx items.size 0 lo)).take (sIx items.size items.size hi-sIx items.size 0 lo)).toArray):=by show((items.toList.drop (sIx items.size 0 lo)).take (sIx items.size items.size hi-sIx items.size 0 lo)).toArray.size<=sizeLine;rw[List.size_toArray,List.length_take,List.length_drop,Array.length_toList];omega
 have hj:sIx items.size items.size hi<=items.size:=adQ _ _ (Nat.le_refl _) hi;obtain⟨os,hos,hcs,hds⟩:=id hs;have hTs:s.TypeIs (.ref sl) "slice":= ⟨os,hos,hcs⟩;unfold getItem
 try with_reducible refine wpAny_holding ?_
 first | refine wpAny_bind (wpAny_pure ?_) | skip
 refine wpAny_bind (wpAny_sequenceKey ht.typeIs (by decide) ?_);refine wpAny_bind (wpAny_callSpecial?_slot (name:=Str.ofString "__getitem__") ht.typeIs PyProof.Rows.slot_tuple_getitem
  (wpAny_call_entry PyProof.Rows.slot_tuple_getitem ht.typeIs entry_tuple_getitem ?_ (args_tuple_getitem _ _)))
 show wpAny _ _ (Builtin.Tuple.tupleItemsOf (.ref t) >>= _) _ _ s;refine wpAny_bind (tupleItemsOf_ ht ?_);refine wpAny_bind (wpAny_typeOf hTs ?_);rw[if_pos (by decide)];refine wpAny_bind (iR hs pl pu ?_);have hno:¬ ((((sIx items.size 0 lo:Nat):Int)==0&&(1:Int)==1&&(sIx items.size items.size hi-sIx items.size 0 lo)==items.size)=true):=by intro q;rw[Bool.and_eq_true,Bool.and_eq_true] at q;have q1:((sIx items.size 0 lo:Nat):Int)=0:=eq_of_beq q.1.1;have q2:sIx items.size items.size hi-sIx items.size 0 lo=items.size:=eq_of_beq q.2;exact hw ⟨by omega,by omega⟩
 show wpAny _ _ (if (((sIx items.size 0 lo:Nat):Int)==0&&(1:Int)==1&&(sIx items.size items.size hi-sIx items.size 0 lo)==items.size)=true then _ else _) _ _ s;rw[if_neg hno,xt]
 first
  | exact wpAny_bind (m:=Builtin.Tuple.tupleExact _) (wpAny_newObj_type (wpAny_pure ⟨_,rfl,wpAny_pure h⟩) htake)
  | exact wpAny_bind (m:=Builtin.Tuple.tupleExact _) (wpAny_newObj_type (wpAny_bind (wpAny_pure (wpAny_pure ⟨_,rfl,wpAny_pure h⟩))) htake)
  | exact wpAny_bind (wpAny_bind (m:=Builtin.Tuple.tupleExact _) (wpAny_newObj_type (wpAny_pure (wpAny_pure ⟨_,rfl,wpAny_pure h⟩)) htake))
  | exact wpAny_bind (wpAny_bind (m:=Builtin.Tuple.tupleExact _) (wpAny_newObj_type (wpAny_pure ⟨_,rfl,wpAny_pure h⟩) htake))
end
end HT
namespace L2
abbrev TO:=St->Hp->(Option Int->Hp->Prop)->Prop
def PO(X:Cx)(e:Option Expr)(t:TO):Prop:=
 ∀ (pins:PN) (s:Shared) (σ:St) (H:Hp) (Q:Option Int->Hp->Prop),Inv X pins σ H s->t σ H Q ->
  wpAny (model X.prog X.w) X.A (evalPart e X.env) (λ u s'=>∃ o H',Inv X pins σ H' s'/\IsPart u o/\Q o H') X.xe s
def ab1:TO:=λ _ H Q=>Q none H
def afP(t:TE):TO:=λ σ H Q=>t σ H λ x H1=>∃ i,x=.int i/\Q (some i) H1
theorem intsAre_of{ns:List Int}:∀ {us:List Value},Vals (ns.map V.int) us->IntsAre us ns:=by
 induction ns with
 | nil=>intro us r;rw[List.map_nil] at r;cases r;exact .nil
 | cons n ns ih =>
  intro us r;rw[List.map_cons] at r;cases r with
  | cons r1 r2 =>
   obtain⟨t,e⟩:=r1;subst e;exact .cons n t (ih r2)
section
variable {X:Cx}{e:Expr}{te:TE}{lo hi:Option Expr}{tl th:TO}{pos p2:Pos}
theorem aax:PO X none ab1:=by intro pins s σ H Q I h;rw[evalPart_none];exact wpAny_pure ⟨none,H,I,.none,h⟩
theorem aam(h:PE X e te):PO X (some e) (afP te):=by intro pins s σ H Q I hw;rw[evalPart_some];refine thn (h pins s σ H _ I hw) λ u s1 hq20=>?_;obtain⟨x,H1,I1,r1,q1⟩:=hq20;obtain⟨i,rfl,q⟩:=q1;obtain⟨t,rfl⟩:=r1;exact⟨some i,H1,I1,.int i t,q⟩
def SlR(X:Cx)(r:V->Option Int->Option Int->Hp->VK->Prop):Prop:=
 ∀ (pins:PN) (s:Shared) (σ:St) (H:Hp) (x:V) (v vl vu:Value) (lo hi:Option Int) (sl:Addr) (Q:VK),Inv X pins σ H s->RelV x v->s.heap.IsSliceOf sl vl vu .none->IsPart vl lo->IsPart vu hi->r x lo hi H Q ->
  ∃ T id,typeLookup (.type T) "__getitem__" = pure (some (.builtin id))/\s.TypeIs v T/\wpAny (model X.prog X.w) X.A (getItem v (.ref sl)) (EP X pins σ Q) X.xe s
theorem SlR.or{r r':V->Option Int->Option Int->Hp->VK->Prop}(h:SlR X r)(h':SlR X r'):SlR X (λ x lo hi H Q=>r x lo hi H Q\/r' x lo hi H Q):=by
 intro pins s σ H x v vl vu lo hi sl Q I rx hs pl pu q;rcases q with q | q
 ·exact h pins s σ H x v vl vu lo hi sl Q I rx hs pl pu q
 ·exact h' pins s σ H x v vl vu lo hi sl Q I rx hs pl pu q
def tSl(r:V->Option Int->Option Int->Hp->VK->Prop)(te:TE)(tl th:TO):TE:=λ σ H Q=>te σ H λ x H1=>tl σ H1 λ l H2=>th σ H2 λ u H3=>r x l u H3 Q
theorem wU{r:V->Option Int->Option Int->Hp->VK->Prop}(hr:SlR X r)(he:PE X e te)(hl:PO X lo tl)(hu:PO X hi th):PE X (.Subscript e (.Slice lo hi none p2) pos) (tSl r te tl th):=by intro pins s σ H Q I h;refine Subscript_ (thn (he pins s σ H _ I h) λ v s1 hq21=>?_);obtain⟨x,H1,I1,r1,q1⟩:=hq21;refine wpAny_Slice (thn (hl pins s1 σ H1 _ I1 q1) λ vl s2 ⟨l,H2,I2,pl,q2⟩=>thn (hu pins s2 σ H2 _ I2 q2) λ vu s3 hq22=>?_);obtain⟨u,H3,I3,pu,q3⟩:=hq22;rw[evalPart_none];refine wpAny_pure ?_;have I4:Inv X pins σ H3 {s3 with heap:=s3.heap.push {cls:=.type "slice",data:=.fields #[vl,vu,.none]}}:=I3.kept (t':=s3.toks) λ b ob q=>Heap.get?_push_of_some _ q;obtain⟨T,id,hT,ht,hg⟩:=hr pins {s3 with heap:=s3.heap.push {cls:=.type "slice",data:=.fields #[vl,vu,.none]}} σ H3 x v vl vu l u s3.heap.objs.size Q I4 r1 (Heap.IsSliceOf.new ..) pl pu q3;show wpAny (model X.prog X.w) X.A (subscriptTail e (.Slice lo hi none p2) v (.ref s3.heap.objs.size)) (EP X pins σ Q) X.xe {s3 with heap:=s3.heap.push {cls:=.type "slice",data:=.fields #[vl,vu,.none]}};exact tail_any (ops:=[.ref s3.heap.objs.size,v]) ht hT hg (by with_unfolding_all rfl)
def zt(xs:List V)(lo hi:Option Int):List V:=(xs.drop (HT.sIx xs.length 0 lo)).take (HT.sIx xs.length xs.length hi-HT.sIx xs.length 0 lo)
theorem j4(xs:List V)(lo hi:Option Int):(zt xs lo hi).length<=xs.length:=by
 unfold zt;rw[List.length_take,List.length_drop];omega
def agM(K:FG):V->Option Int->Option Int->Hp->VK->Prop:=λ x lo hi H Q=>∃ a xs,x=.ref a/\SqT K H a xs /\
 ¬ (HT.sIx xs.length 0 lo=0/\HT.sIx xs.length xs.length hi=xs.length)/\∀ p,H p=none->Q (.ref p) (upd H p (.tup (zt xs lo hi)))
theorem ac2:SlR X (agM X.K):=by
 intro pins s σ H x v vl vu lo hi sl Q I rx hs pl pu h;obtain⟨a,xs,rfl,hx,hw,q⟩:=h;cases rx;obtain⟨its,r,ht,hz⟩:=I.tuple hx;have hlen:its.toArray.size=xs.length:=by rw[List.size_toArray];exact r.length.symm
 refine⟨"tuple",_,PyProof.Rows.slot_tuple_getitem.lookup,ht.typeIs,?_⟩;refine HT.iu ht hs pl pu (by rw[hlen];exact hw) ?_ (by rw[hlen];exact hz);rw[hlen];refine⟨.ref s.heap.objs.size,_,I.laid (t':=s.toks) (o:=.tup (zt xs lo hi)) (λ b ob q=>Heap.get?_push_of_some _ q) (Nat.le_refl _) ?_,rfl,q _ (I.hok.fresh (Nat.le_refl _))⟩;exact⟨Nat.le_trans (j4 xs lo hi) hz,_,(r.drop (HT.sIx xs.length 0 lo)).take (HT.sIx xs.length xs.length hi-HT.sIx xs.length 0 lo),xW.new _ _⟩
end
def ixN(n:Nat)(i:Int):Option Nat:=if 0<=i then (if i<n then some i.toNat else none) else if -(n:Int)<=i then some (i+n).toNat else none
def atI{α:Type}(xs:List α)(i:Int):Option α:=(ixN xs.length i).bind λ j=>xs[j]?
theorem vg{n:Nat}{i:Int}{j:Nat}(h:ixN n i=some j):seqIndex? i n=some j/\j<n/\-(n:Int)<=i/\i<n:=by
 unfold ixN at h
 by_cases h0:0<=i
 ·rw[if_pos h0] at h
  by_cases h1:i<n
  ·rw[if_pos h1] at h;have e:i.toNat=j:=Option.some.inj h;exact⟨by rw[seqIndex_of h0 h1,e],by omega,by omega,h1⟩
  ·rw[if_neg h1] at h;cases h
 ·rw[if_neg h0] at h
  by_cases h1:-(n:Int)<=i
  ·rw[if_pos h1] at h;have e:(i+n).toNat=j:=Option.some.inj h;exact⟨by rw[seqIndex_neg (by omega) h1,e],by omega,h1,by omega⟩
  ·rw[if_neg h1] at h;cases h
theorem ma{α:Type}{xs:List α}{i:Int}{v:α}(h:atI xs i=some v):∃ j,seqIndex? i xs.length=some j/\xs[j]? =some v/\j<xs.length/\-(xs.length:Int)<=i/\i<xs.length:=by
 unfold atI at h;cases e:ixN xs.length i with
 | none=>rw[e] at h;cases h
 | some j =>
  rw[e] at h;obtain⟨h1,h2,h3,h4⟩:=vg e;exact⟨j,h1,h,h2,h3,h4⟩
def pj(b:Expr):Prop:=∀ o i,subscripted b false o i=operate [o,i] (getItem o i)
def IxR(X:Cx)(r:R2):Prop:=
 ∀ (value slice:Expr) (pins:PN) (s:Shared) (σ:St) (H:Hp) (x y:V) (v u:Value) (Q:VK),Inv X pins σ H s->RelV x v->RelV y u->r x y H Q ->
  subscripted slice false v u=operate [v,u] (getItem v u)->wpAny (model X.prog X.w) X.A (subscriptTail value slice v u) (EP X pins σ Q) X.xe s
def MtR(X:Cx)(id:String)(r:V->List V->Hp->VK->Prop):Prop:=
 ∀ (pins:PN) (s:Shared) (σ:St) (H:Hp) (x:V) (xs:List V) (v:Value) (us:List Value) (Q:VK),Inv X pins σ H s->RelV x v->Vals xs us->r x xs H Q ->
  wpAny (model X.prog X.w) X.A (call (.builtin id) (v::us)) (EP X pins σ Q) X.xe s
section
variable {X:Cx}{a b:Expr}{ta tb:TE}{pos:Pos}
theorem IxR.or{r r':R2}(h:IxR X r)(h':IxR X r'):IxR X (λ x y H Q=>r x y H Q\/r' x y H Q):=by
 intro value slice pins s σ H x y v u Q I rx ry q hs;rcases q with q | q
 ·exact h value slice pins s σ H x y v u Q I rx ry q hs
 ·exact h' value slice pins s σ H x y v u Q I rx ry q hs
theorem afz{r:R2}(hr:IxR X r)(ha:PE X a ta)(hb:PE X b tb)(hs:pj b):PE X (.Subscript a b pos) (tOp r ta tb):=by intro pins s σ H Q I h;exact Subscript_ (agy ha hb I h λ v u s2 x y H2 I2 rx ry q=>hr a b pins s2 σ H2 x y v u Q I2 rx ry q (hs _ _))
def af3(K:FG):R2:=λ x y H Q=>∃ p xs i v,x=.ref p/\y=.int i/\SqL K H p xs/\atI xs i=some v/\Q v H
def agI(K:FG):R2:=λ x y H Q=>∃ p xs i v,x=.ref p/\y=.int i/\SqT K H p xs/\atI xs i=some v/\Q v H
def ag9:R2:=λ x y H Q=>∃ z i c,x=.str z/\y=.int i/\z.length<=sizeLine/\atI z.cps.toList i=some c/\Q (.str ⟨#[c]⟩) H
theorem aac:IxR X (af3 X.K):=by
 intro value slice pins s σ H x y v u Q I rx ry h hs;obtain⟨p,xs,i,z,rfl,rfl,hq,he,q⟩:=h;cases rx;obtain⟨t,rfl⟩:=ry;obtain⟨its,r,pl,hz⟩:=I.list hq;obtain⟨j,h1,h2,h3,h4,h5⟩:=ma he;obtain⟨w,ew,rw'⟩:=r.get h2;have hl:=r.length;have hn:=lb;have fin:EP X pins σ Q w s:=⟨z,H,I,rw',q⟩
 by_cases h0:0<=i
 ·have hj:i.toNat=j:=by rw[seqIndex_of h0 h5] at h1;exact Option.some.inj h1
  exact item_listR pl.isList h0 (by omega) (by rw[hj];simpa using ew) fin hs
 ·have hj:(i+(its.toArray.size:Int)).toNat=j:=by rw[seqIndex_neg (by omega) h4] at h1;rw[List.size_toArray,<- hl];exact Option.some.inj h1
  exact subscriptTail_builtinR (x:=w) pl.isList.typeIs slot_list_getitem.lookup
   (wpAny_getItem_list_neg (Q:=λ r s'=>r=w/\EP X pins σ Q r s') pl.isList (by omega) (by rw[List.size_toArray]<;>omega) (by omega) (by rw[hj];simpa using ew) ⟨rfl,fin⟩) hs
theorem acA:IxR X (agI X.K):=by
 intro value slice pins s σ H x y v u Q I rx ry h hs;obtain⟨p,xs,i,z,rfl,rfl,hq,he,q⟩:=h;cases rx;obtain⟨t,rfl⟩:=ry;obtain⟨its,r,pl,hz⟩:=I.tuple hq;obtain⟨j,h1,h2,h3,h4,h5⟩:=ma he;obtain⟨w,ew,rw'⟩:=r.get h2;have hl:=r.length;have hn:=lb;have fin:EP X pins σ Q w s:=⟨z,H,I,rw',q⟩;exact subscriptTail_builtinR (x:=w) pl.typeIs slot_tuple_getitem.lookup
  (getItem_tuple (j:=j) (Q:=λ r s'=>r=w/\EP X pins σ Q r s') pl (by omega) (by omega) (by rw[List.size_toArray,<- hl];exact h1) (by simpa using ew) ⟨rfl,fin⟩) hs
theorem ad4:IxR X ag9:=by
 intro value slice pins s σ H x y v u Q I rx ry h hs;obtain⟨z,i,c,rfl,rfl,hz,he,q⟩:=h;obtain⟨t,rfl⟩:=rx;obtain⟨t',rfl⟩:=ry;obtain⟨j,h1,h2,h3,h4,h5⟩:=ma he;have hl:z.cps.toList.length=z.length:=by simp[Str.length]
 rw[hl] at h1 h4 h5;have hn:=lb;exact tail_any (typeIs_str s z t) slot_str_getitem.lookup (getItem_str (c:=c) (by have e1:decide (i < -(2 ^ 63:Int))=false:=decide_eq_false (by omega);have e2:decide (i >= 2 ^ 63)=false:=decide_eq_false (by omega);rw[e1,e2,Bool.or_false]) (by rw[h1];simpa using h2) ⟨.str ⟨#[c]⟩,H,I.tok _,⟨_,rfl⟩,q⟩) hs
def rIx(K:FG):R2:=λ x y H Q=>af3 K x y H Q\/agI K x y H Q\/ag9 x y H Q
theorem bh:IxR X (rIx X.K):=aac.or (acA.or ad4)
theorem sP(its:List Value)(n j:Nat)(u:Value):Obj.mapSeq (·.setIfInBounds j u) {cls:=.type "list",data:=.seq its.toArray n}={cls:=.type "list",data:=.seq (its.set j u).toArray n}:=by simp[Obj.mapSeq]
theorem Inv.lst{pins:PN}{σ:St}{H:Hp}{s:Shared}{p:Addr}{xs:List V}(I:Inv X pins σ H s)(h:H p=some (.lst xs)) :
  ∃ (its:List Value) (n:Nat),Vals xs its/\s.heap.get? p=some {cls:=.type "list",data:=.seq its.toArray n}/\xs.length<=sizeLine:=by
 obtain⟨z,its,n,r,e⟩:=I.hok p _ h;exact⟨its,n,r,e,z⟩
theorem Inv.ae6{pins:PN}{σ:St}{H:Hp}{s:Shared}{p:Addr}{xs ys:List V}{its its':List Value}{n n':Nat}{f:Obj->Obj}(I:Inv X pins σ H s)(h:H p=some (.lst xs))
  (ho:s.heap.get? p=some {cls:=.type "list",data:=.seq its.toArray n})(hf:f {cls:=.type "list",data:=.seq its.toArray n}={cls:=.type "list",data:=.seq its'.toArray n'})(r:Vals ys its')(hz:ys.length<=sizeLine)(t:Nat) :
  Inv X pins σ (upd H p (.lst ys)) {s with heap:=s.heap.update p f,toks:=t}:=by
 have e:(s.heap.update p f).get? p=some {cls:=.type "list",data:=.seq its'.toArray n'}:=by rw[Heap.get?_update_self f ho (by rw[hf]<;>rfl),hf]
 refine I.write (x:=p) (e:=p) (by rw[h];trivial) (.inl rfl) (λ b u hb q=>(Heap.get?_update_other _ _ (Ne.symm hb)).trans q) ⟨_,e⟩ ?_;exact⟨hz,its',n',r,e⟩
def af9:V->V->V->Hp->(Hp->Prop)->Prop:=λ o i v H Q=>∃ p xs k j,o=.ref p/\i=.int k/\H p=some (.lst xs)/\ixN xs.length k=some j/\Q (upd H p (.lst (xs.set j v)))
theorem set_list:afx X af9:=by
 intro pins s σ H o i v ov iv u Q I ro ri rv h;obtain⟨p,xs,k,j,rfl,rfl,hp,hj,q⟩:=h;cases ro;obtain⟨t,rfl⟩:=ri;obtain⟨its,n,r,ho,hz⟩:=I.lst hp;obtain⟨h1,h2,h3,h4⟩:=vg hj;have hl:=r.length;have hn:=lb;have I':Inv X pins σ (upd H p (.lst (xs.set j v))) {s with heap:=s.heap.update p (Obj.mapSeq (·.setIfInBounds j u))}:=
  I.ae6 hp ho (sP its n j u) (r.set rv j) (by rw[List.length_set];exact hz) s.toks
 by_cases h0:0<=k
 ·have hk:k.toNat=j:=by rw[seqIndex_of h0 h4] at h1;exact Option.some.inj h1
  exact W.ki_setAt ho h0 (by omega) (by rw[List.size_toArray,<- hl];exact h4) (by rw[hk];exact⟨_,I',q⟩)
 ·have hk:(k+(its.toArray.size:Int)).toNat=j:=by rw[seqIndex_neg (by omega) h3] at h1;rw[List.size_toArray,<- hl];exact Option.some.inj h1
  exact W.ki_setBack ho (by omega) (by rw[List.size_toArray,<- hl];exact h3) (by omega) (by rw[hk];exact⟨_,I',q⟩)
theorem nX(lo hi:Option Int)(n:Nat):(sliceBounds lo hi none n).1=((HT.sIx n 0 lo:Nat):Int)/\(sliceBounds lo hi none n).2.1=((HT.sIx n n hi:Nat):Int)/\(sliceBounds lo hi none n).2.2=1:=by
 refine⟨?_,?_,rfl⟩
 ·cases lo with
  | none=>simp[sliceBounds,HT.sIx]
  | some i =>
   simp only[sliceBounds,HT.sIx,Option.getD_none,show(1:Int) > 0 by decide,if_true]
   by_cases h:i<0
   ·simp only[h,if_true]<;>omega
   ·simp only[h,if_false]<;>omega
 ·cases hi with
  | none=>simp[sliceBounds,HT.sIx]
  | some i =>
   simp only[sliceBounds,HT.sIx,Option.getD_none,show(1:Int) > 0 by decide,if_true]
   by_cases h:i<0
   ·simp only[h,if_true]<;>omega
   ·simp only[h,if_false]<;>omega
theorem lK(its:List Value)(lo hi:Option Int):slicePick its.toArray lo hi none=((its.drop (HT.sIx its.length 0 lo)).take (HT.sIx its.length its.length hi-HT.sIx its.length 0 lo)).toArray:=by obtain⟨h1,h2,h3⟩:=nX lo hi its.toArray.size;unfold slicePick;rw[h1,h2,h3];simp only[sliceRange_one,pick_run,List.size_toArray]<;>rfl
def agS(K:FG):V->Option Int->Option Int->Hp->VK->Prop:=λ x lo hi H Q=>∃ a xs,x=.ref a/\SqL K H a xs/\∀ p,H p=none->Q (.ref p) (upd H p (.lst (zt xs lo hi)))
theorem abx:SlR X (agS X.K):=by intro pins s σ H x v vl vu lo hi sl Q I rx hs pl pu h;obtain⟨a,xs,rfl,hx,q⟩:=h;cases rx;obtain⟨its,r,ht,hz⟩:=I.list hx;have hlen:=r.length;refine⟨"list",_,slot_list_getitem.lookup,ht.isList.typeIs,?_⟩;refine wpAny_getItem_list_slice ht.isList hs pl pu .none (by simp) ?_ (by rw[List.size_toArray]<;>omega);rw[lK,<- hlen];refine⟨.ref s.heap.objs.size,_,I.laid (t':=s.toks) (o:=.lst (zt xs lo hi)) (λ b ob q=>Heap.get?_push_of_some _ q) (Nat.le_refl _) ?_,rfl,q _ (I.hok.fresh (Nat.le_refl _))⟩;exact⟨Nat.le_trans (j4 xs lo hi) hz,_,0,(r.drop (HT.sIx xs.length 0 lo)).take (HT.sIx xs.length xs.length hi-HT.sIx xs.length 0 lo),Heap.get?_push_size _ rfl⟩
def ko:V->Bool
 | .non=>true
 | .bl _=>true
 | .int _=>true
 | .str _=>true
 | _=>false
def eqV:V->V->Bool
 | .non,.non=>true
 | .bl a,.bl b=>a==b
 | .bl a,.int b=>(if a then 1 else 0)==b
 | .int a,.bl b=>a==(if b then 1 else 0)
 | .int a,.int b=>a==b
 | .str a,.str b=>a==b
 | _,_=>false
theorem aeI{A:Around}{s:Shared}{y x:V}{u v:Value}(ry:RelV y u)(rx:RelV x v)(fy:ko y=true)(fx:ko x=true):SeqAt.EqAt A s u v (eqV y x):=by
 cases y with
 | non =>
  cases ry;cases x with
  | non=>cases rx;exact SeqAt.EqAt.same _
  | bl b=>cases rx;exact SeqAt.EqAt.none_bool b
  | int b=>obtain⟨t,rfl⟩:=rx;exact SeqAt.EqAt.none_int b t
  | str b=>obtain⟨t,rfl⟩:=rx;exact SeqAt.EqAt.none_str b t
  | _=>exact absurd (show false=true from fx) Bool.false_ne_true
 | bl a =>
  cases ry;cases x with
  | non=>cases rx;exact SeqAt.EqAt.bool_none a
  | bl b=>cases rx;exact SeqAt.EqAt.bool_bool a b
  | int b=>obtain⟨t,rfl⟩:=rx;exact SeqAt.EqAt.bool_int a b t
  | str b=>obtain⟨t,rfl⟩:=rx;exact SeqAt.EqAt.bool_str a b t
  | _=>exact absurd (show false=true from fx) Bool.false_ne_true
 | int a =>
  obtain⟨t',rfl⟩:=ry;cases x with
  | non=>cases rx;exact SeqAt.EqAt.int_none a t'
  | bl b=>cases rx;exact SeqAt.EqAt.int_bool a t' b
  | int b=>obtain⟨t,rfl⟩:=rx;exact SeqAt.EqAt.int_int a t' b t
  | str b=>obtain⟨t,rfl⟩:=rx;exact SeqAt.EqAt.int_str a t' b t
  | _=>exact absurd (show false=true from fx) Bool.false_ne_true
 | str a =>
  obtain⟨t',rfl⟩:=ry;cases x with
  | non=>cases rx;exact SeqAt.EqAt.str_none a t'
  | bl b=>cases rx;exact SeqAt.EqAt.str_bool a t' b
  | int b=>obtain⟨t,rfl⟩:=rx;exact SeqAt.EqAt.str_int a t' b t
  | str b=>obtain⟨t,rfl⟩:=rx;exact SeqAt.EqAt.str_str a t' b t
  | _=>exact absurd (show false=true from fx) Bool.false_ne_true
 | _=>exact absurd (show false=true from fy) Bool.false_ne_true
def eqU(x:V)(u:Value):Bool:=match u with
 | .none=>eqV .non x
 | .bool b=>eqV (.bl b) x
 | .int i _=>eqV (.int i) x
 | .str z _=>eqV (.str z) x
 | _=>false
theorem zG{x y:V}{u:Value}(r:RelV y u)(f:ko y=true):eqU x u=eqV y x:=by
 cases y with
 | non=>cases r;rfl
 | bl b=>cases r;rfl
 | int i=>obtain⟨t,rfl⟩:=r;rfl
 | str z=>obtain⟨t,rfl⟩:=r;rfl
 | _=>exact absurd (show false=true from f) Bool.false_ne_true
theorem pE{x:V}:∀ {xs:List V} {us:List Value},Vals xs us->xs.all ko=true->us.any (eqU x)=xs.any λ y=>eqV y x
 | _,_,.nil,_=>rfl
 | y::xs,u::us,.cons r t,f=>by rw[List.all_cons,Bool.and_eq_true] at f;rw[List.any_cons,List.any_cons,zG r f.1,pE t f.2]
theorem lG{A:Around}{s:Shared}{x:V}{v:Value}(rx:RelV x v)(fx:ko x=true):∀ {xs:List V} {us:List Value},Vals xs us->xs.all ko=true->∀ u∈us,SeqAt.EqAt A s u v (eqU x u)
 | _,_,.nil,_=>λ u hu=>by cases hu
 | y::xs,u::us,.cons r t,f=>λ u' hu=>by
  rw[List.all_cons,Bool.and_eq_true] at f;rcases List.mem_cons.mp hu with rfl | hu
  ·rw[zG r f.1];exact aeI r rx f.1 fx
  ·exact lG rx fx t f.2 u' hu
def inV(x:V)(xs:List V):Bool:=xs.any λ y=>eqV y x
def rIn(K:FG)(neg:Bool):R2:=λ x y H Q=>∃ p xs,y=.ref p/\(SqL K H p xs\/SqT K H p xs)/\ko x=true/\xs.all ko=true/\Q (.bl (if neg then !inV x xs else inV x xs)) H
theorem nq:OpR X (compareOp .In) (rIn X.K false):=by
 intro pins s σ H x y v u Q I rx ry h;obtain⟨p,xs,rfl,hq,fx,fs,q⟩:=h;cases ry;rcases hq with hq | hq
 ·obtain⟨its,r,pl,hz⟩:=I.list hq;refine SeqAt.in_listAt (eqU x) pl.isList (λ w hw=>lG rx fx r fs w (by simpa using hw)) ⟨.bl _,H,I,rfl,?_⟩;rw[show its.toArray.any (eqU x)=its.any (eqU x) by simp,pE r fs];exact q
 ·obtain⟨its,r,pl,hz⟩:=I.tuple hq;refine SeqAt.in_tupleAt (eqU x) pl (λ w hw=>lG rx fx r fs w (by simpa using hw)) ⟨.bl _,H,I,rfl,?_⟩;rw[show its.toArray.any (eqU x)=its.any (eqU x) by simp,pE r fs];exact q
theorem iD:fc X (.type "list") (λ xs H Q=>∃ p ys,xs=[.ref p]/\(SqL X.K H p ys\/SqT X.K H p ys)/\∀ l,H l=none->Q (.ref l) (upd H l (.lst ys))):=by
 intro pins s σ H xs us Q I r h;obtain⟨p,ys,rfl,hq,q⟩:=h;obtain⟨u,rfl,rx⟩:=vals1 r;cases rx;have fin:∀ (its:List Value),Vals ys its->ys.length<=sizeLine->∀ (h':Heap) (c':Nat),(∀ b o',s.heap.get? b=some o'->h'.get? b=some o') ->
   h'.get? s.heap.objs.size=some {cls:=.type "list",dict:=none,data:=.seq its.toArray c',slots:=#[]}->EP X pins σ Q (.ref s.heap.objs.size) {s with heap:=h'}:=λ its r' hz h' c' kp e =>
  ⟨.ref s.heap.objs.size,_,I.laid (t':=s.toks) kp (Nat.le_refl _) (show cF X.prog X.w _ h' _ (.lst ys) from⟨hz,its,c',r',e⟩),rfl,q _ (I.hok.fresh (Nat.le_refl _))⟩
 rcases hq with hq | hq
 ·obtain⟨its,r',pl,hz⟩:=I.list hq;have hlen:=r'.length;obtain⟨o,ho,hc,n,hd⟩:=pl.isList;exact call_list_seq p (.inl rfl) ho hc hd (λ h' c' kp e=>fin its r' hz h' c' kp e) (by simp only[List.size_toArray]<;>omega)
 ·obtain⟨its,r',pl,hz⟩:=I.tuple hq;have hlen:=r'.length;obtain⟨o,ho,hc,n,hd⟩:=pl;exact call_list_seq p (.inr rfl) ho hc hd (λ h' c' kp e=>fin its r' hz h' c' kp e) (by simp only[List.size_toArray]<;>omega)
theorem mv:fc X (.type "tuple") (λ xs H Q=>∃ p ys,xs=[.ref p]/\((SqL X.K H p ys/\∀ l,H l=none->Q (.ref l) (upd H l (.tup ys)))\/(SqT X.K H p ys/\Q (.ref p) H))):=by
 intro pins s σ H xs us Q I r h;obtain⟨p,ys,rfl,h⟩:=h;obtain⟨u,rfl,rx⟩:=vals1 r;cases rx;rcases h with ⟨hq,q⟩ | ⟨hq,q⟩
 ·obtain⟨its,r',pl,hz⟩:=I.list hq;have hlen:=r'.length;refine call_tuple_list pl.isList (λ h' kp=>?_) (by simp only[List.size_toArray]<;>omega);have I1:Inv X pins σ H {s with heap:=h'}:=I.kept (t':=s.toks) kp;have I2:Inv X pins σ (upd H h'.objs.size (.tup ys)) {s with heap:=h'.push {cls:=.type "tuple",data:=.seq its.toArray}}:=
   I1.laid (t':=s.toks) (λ b o e=>Heap.get?_push_of_some _ e) (Nat.le_refl _) (show cF X.prog X.w _ _ _ (.tup ys) from⟨hz,its,r',xW.new _ _⟩)
  exact⟨.ref h'.objs.size,_,I2,rfl,q _ (I1.hok.fresh (Nat.le_refl _))⟩
 ·obtain⟨its,r',pl,hz⟩:=I.tuple hq;exact call_tuple_same pl ⟨.ref p,H,I,rfl,q⟩
def tyV(K:FG)(T:String)(x:V)(H:Hp):Prop:=match x with
 | .str _=>T = "str"
 | .int _=>T = "int"
 | .ref p=>(T = "list" /\ ∃ xs,SqL K H p xs)\/(T = "tuple" /\ ∃ xs,SqT K H p xs) \/
   (T = "dict" /\ ((∃ kvs,H p=some (.dK kvs))\/∃ kvs,H p=some (.dT kvs)))\/(T = "set" /\ ∃ S n,H p=some (.set S n))
 | _=>False
theorem aef{pins:PN}{σ:St}{H:Hp}{s:Shared}{T:String}{x:V}{v:Value}(I:Inv X pins σ H s)(r:RelV x v)(ty:tyV X.K T x H) :
  s.TypeIs v T/\∀ a,v=.ref a->∃ ob,s.heap.get? a=some ob/\ob.dict=none:=by
 cases x with
 | str z =>
  obtain⟨t,rfl⟩:=r;cases (show T = "str" from ty);exact⟨typeIs_str s z t,λ _ e=>nomatch e⟩
 | int i =>
  obtain⟨t,rfl⟩:=r;cases (show T = "int" from ty);exact⟨typeIs_int s i t,λ _ e=>nomatch e⟩
 | ref p =>
  cases r;rcases ty with ⟨rfl,xs,hq⟩ | ⟨rfl,xs,hq⟩ | ⟨rfl,hk⟩ | ⟨rfl,S,n,hk⟩
  ·obtain⟨its,_,pl,_⟩:=I.list hq;refine⟨pl.isList.typeIs,λ a e=>?_⟩;cases e;obtain⟨o,n,e,c,hd,_⟩:=pl;exact⟨o,e,hd⟩
  ·obtain⟨its,_,⟨o,h1,h2,h3,_⟩,_⟩:=I.agT hq;refine⟨⟨o,h1,h2⟩,λ a e=>?_⟩;cases e;exact⟨o,h1,h3⟩
  ·have z:∃ o,s.heap.get? p=some o/\o.ExactDict:=by
    rcases hk with ⟨kvs,hk⟩ | ⟨kvs,hk⟩
    ·obtain⟨_,_,_,_,o,_,_,e,ex,_⟩:=I.hok p _ hk;exact⟨o,e,ex⟩
    ·obtain⟨_,_,_,_,o,_,_,e,ex,_⟩:=I.hok p _ hk;exact⟨o,e,ex⟩
   obtain⟨o,e,ex⟩:=z;refine⟨⟨o,e,ex.1⟩,λ a e2=>?_⟩;cases e2;exact⟨o,e,ex.2.1⟩
  ·obtain⟨o,_,_,_,e,ex,_⟩:=I.hok p _ hk;refine⟨⟨o,e,ex.1⟩,λ a e2=>?_⟩;cases e2;exact⟨o,e,ex.2.1⟩
 | _=>exact False.elim ty
def tBM(K:FG)(T:String)(r:V->List V->Hp->VK->Prop)(to:TE)(t:TA):TE:=λ σ H Q=>to σ H λ x H1=>tyV K T x H1/\t σ H1 λ xs H2=>r x xs H2 Q
variable {o e:Expr}{es:List Expr}{to:TE}{t:TA}{name:Str}{apos cpos:Pos}{T id:String}{r:V->List V->Hp->VK->Prop}
theorem afE(pa:PlainAttrs T)(slot:Slot T name id)(hty:typeOf (.builtin id)=pure (.type "method_descriptor"))(hm:MtR X id r)(ho:PE X o to)(ha:PA X (e::es) t)
  (hbase:attributeBase o name X.env (eval o X.env)=eval o X.env:=by rfl)
  (hfew:((backTo cpos (starEach (e::es) X.env)).all (λ x=>!x.1)&&(backToKw cpos (keywordEach [] X.env)).all (λ x=>x.1.isSome)
   && decide ((e::es).length+([]:List Keyword).length+(if ([]:List Keyword).isEmpty then 0 else 1)<30))=true:=by rfl)
  (hline:(apos.endLine==cpos.line)=true:=by rfl)(hs:starEach (e::es) X.env=(false,eval e X.env)::starEach es X.env:=by rfl)(hplain:(backTo cpos (starEach es X.env)).any (·.1)=false:=by rfl) :
  PE X (.Call (.Attribute o name apos) (e::es) [] cpos) (tBM X.K T r to t):=by
 intro pins s σ H Q I h;refine wpAny_Call_method_late hbase hfew hline rfl (thn (ho pins s σ H _ I h) λ v s1 hq23=>?_);obtain⟨x,H1,I1,r1,ty,q1⟩:=hq23;obtain⟨h1,h2⟩:=aef I1 r1 ty;refine⟨T,id,pa,slot,hty,h1,h2,?_⟩;have hA:=ha cpos pins s1 σ H1 _ I1 q1;rw[hs] at hA ⊢;refine Calls.callWith_builtin (by show(false || (backTo cpos (starEach es X.env)).any (·.1))=false;rw[hplain]<;>rfl) (Calls.evalArgs_plain ?_);exact thn hA λ us s2 ⟨vs,H2,I2,r2,q2⟩=>hm pins s2 σ H2 x vs v us Q I2 r1 r2 q2
end
def MtM(X:Cx)(id:String)(r:V->List V->Hp->VK->Prop):Prop:=
 ∀ (pins:PN) (s:Shared) (σ:St) (H:Hp) (x:V) (xs:List V) (v:Value) (us:List Value) (Q:VK),Inv X pins σ H s->RelV x v->Vals xs us->r x xs H Q ->
  wpAny (model X.prog X.w) X.A (call (.builtin id) (v::us)) (EP X pins σ Q) X.xe s
theorem Vals.one:∀ {x:V} {us:List Value},Vals [x] us->∃ u,us=[u]/\RelV x u
 | _,_,.cons r .nil=>⟨_,rfl,r⟩
section
variable {X:Cx}{pins:PN}{σ:St}{H:Hp}{s:Shared}{l b:Addr}{xs ys zs:List V}
theorem Inv.ahx{its its':List Value}{n:Nat}{f:Array Value->Array Value}{t':Nat}(I:Inv X pins σ H s)(hH:H l=some (.lst xs))
  (e:s.heap.get? l=some {cls:=.type "list",data:=.seq its.toArray n})(hf:f its.toArray=its'.toArray)(hv:Vals ys its')(hz:ys.length<=sizeLine) :
  Inv X pins σ (upd H l (.lst ys)) {s with heap:=s.heap.update l (Obj.mapSeq f),toks:=t'}:=by
 have q:=PySem.IsL.update e f;rw[hf] at q;refine I.write (x:=l) (e:=l) (by rw[hH];exact trivial) (.inl rfl) (λ b' u hb hu=>(Heap.get?_update_other s.heap (Obj.mapSeq f) (Ne.symm hb)).trans hu) ⟨_,q⟩ ?_;exact⟨hz,its',_,hv,q⟩
theorem Inv.ahE{its:List Value}{t':Nat}(I:Inv X pins σ H s)(hv:Vals ys its)(hz:ys.length<=sizeLine) :
  Inv X pins σ (upd H s.heap.objs.size (.lst ys)) {s with heap:=s.heap.push {cls:=.type "list",data:=.seq its.toArray},toks:=t'}:=
 I.laid (λ _ _ q=>Heap.get?_push_of_some _ q) (Nat.le_refl _) ⟨hz,its,0,hv,Heap.get?_push_size _ rfl⟩
theorem Inv.fresh(I:Inv X pins σ H s):H s.heap.objs.size=none:=I.hok.fresh (Nat.le_refl _)
theorem Inv.ahz(I:Inv X pins σ H s)(hH:H l=some (.lst xs)):xs.length<=sizeLine/\∃ (its:List Value) (n:Nat),Vals xs its/\xs.length=its.length/\s.heap.get? l=some {cls:=.type "list",data:=.seq its.toArray n}:=by obtain⟨z,its,n,r,e⟩:=I.hok l _ hH;exact⟨z,its,n,r,r.length,e⟩
end
section
variable {X:Cx}
def abH:V->List V->Hp->VK->Prop:=λ x vs H Q=>∃ l xs y,x=.ref l/\vs=[y]/\H l=some (.lst xs)/\xs.length<sizeLine/\Q .non (upd H l (.lst (xs++[y])))
theorem um:MtM X "list.append" abH:=by intro pins s σ H x vs v us Q I rx rv h;obtain⟨l,xs,y,rfl,rfl,hH,hz,q⟩:=h;cases rx;obtain⟨u,rfl,ru⟩:=rv.one;obtain⟨z,its,n,r,hl,e⟩:=I.ahz hH;refine call_meets F.slot_list_append ⟨_,e,rfl⟩ F.entry_list_append (F.args_list_append_2 _ _) (PySem.list_append l its.toArray n u (by rw[List.size_toArray];omega)) ⟨e,?_⟩;refine⟨.non,_,I.ahx (its':=its++[u]) hH e (by simp) (r.append (.cons ru .nil)) ?_,rfl,q⟩;rw[List.length_append,List.length_singleton];omega
end
section
variable {prog:Program}{w:World}{A:Around}{E:VP}{s:Shared}
end
section
variable {X:Cx}
end
end L2
namespace Att
open PySem PySem.W PySem.Calls PyProof.Rows
theorem jS{P:Params}{h:Heap}:∀ (ns:List Int) (vs:List Value),WellAll P h vs (ns.map WData.int)->IntsAre vs ns:=by
 intro ns
 induction ns with
 | nil =>
  intro vs w;rw[List.map_nil] at w;cases w;exact .nil
 | cons n ns ih =>
  intro vs w;rw[List.map_cons] at w;cases w with
  | cons a b =>
   cases a;exact .cons _ _ (ih _ b)
theorem vC{l:OpenLaw}{n:Nat}(hn:l.most=some n){P:Params}{h:Heap}{args:List WData}{vals:List Value}
  (hpre:l.row.toRowW.claim.pre args=true)(hwl:WellAll P h vals args) :
  ∃ a vs ns,vals=[Value.ref a]/\args=[WData.list (ns.map WData.int)]/\h.get? a=some {cls:=.type "list",data:=.seq vs.toArray}/\IntsAre vs ns/\ns.length<=n:=by
 have hsh:WShape.hasAll [] args [.list .int]=true:=(pre_splitW hpre).1;have hc:l.pre.holds [] {args:=args}=true:=(pre_splitW hpre).2;obtain⟨d,r,rfl,h1,h2⟩:=hasAllW_cons hsh;obtain rfl:=hasAllW_nil h2;obtain⟨xs,rfl,h3⟩:=hasW_list h1;obtain⟨ns,rfl⟩:=items_int h3;have hlen:ns.length<=n:=by
  unfold OpenLaw.pre at hc;have h4:(WTm.not (.lt (.lit (.int (n:Int))) (.len (.arg 0)))).holds [] {args:=[.list (ns.map .int)]}=true:=by have h4:=(holds_andW hc).1;rw[hn] at h4;exact h4
  have h5:=condW_of h4 (w_not (w_lt w_lit (w_len_list (w_arg rfl))));rw[List.length_map] at h5;refine Nat.le_of_not_lt λ q=>?_;have q':(n:Int)<((ns.length:Nat):Int):=by omega
  first
   | (rw[decide_eq_true q'] at h5;exact absurd h5 (by decide))
   | (simp at h5;omega)
 cases hwl with
 | cons w1 w2 =>
  cases w2;cases w1 with
  | list ho hall=>exact⟨_,_,ns,rfl,rfl,ho,jS ns _ hall,hlen⟩
theorem uZ(l:OpenLaw)(args:List WData):l.row.toRowW.claim.post args (.bool true) args=true:=
 postW_of (r:=l.row.toRowW) (X:=(true==true))
  (show WShape.has [] (.bool true) .bool=true by first | rfl | decide | simp[WShape.has,WShape.arms,WShape.armsAll])
  (show(WTm.eq .res (.lit (.bool true))).value [] {args:=args,res:=some (.bool true),after:=args}=some (.bool (true==true)) from w_eq_bool (w_res rfl) w_lit) rfl
theorem px{l:OpenLaw}{n:Nat}{q:Program}{loose:List Str}{XP:(Str->Option Value)->Heap->Prop}{YP:World->Heap->Prop}{d:DefRec}
  (hn:l.most=some n)(hdf:d.params.defaults=[])
  (call:∀ (w:World) (s₀ s₁:Shared) (mg mb:Str->Option Value) (fa:Addr) (o:Obj) (pm cd doc:Value) (a:Addr) (vs:List Value) (ns:List Int),
   Ground q loose [] XP w s₀ mg mb s₁.heap->YP w s₁.heap ->
   s₁.heap.get? fa=some o->o.data=.func (docDef d.name d.params d.body d.scope pm cd doc)->s₁.heap.CodeRec cd d.name->mg d.name=some (.ref fa) ->
   s₁.heap.get? a=some {cls:=.type "list",data:=.seq vs.toArray}->IntsAre vs ns->ns.length<=n->s₁.gens = #[] ->
   codeAny (model l.prog w) callerA (.call (.ref fa) ⟨[.ref a],[]⟩) (λ r s'=>r=.ok (.ret (.bool true))/\OldK s₁.heap s'.heap/\s'.os=s₁.os/\AllBare s'.gens) s₁) :
  WalkO q loose XP YP l.row.toRowW d [] (λ f vs=>PySem.call f vs):=by
 intro w s₀ s₁ mg mb G Y fa o pm cd doc dV kV ho hd hcd hD hmg hg args vals as hpre hlay hrd hwl hlo;obtain rfl:dV=.none:=Dflts.none hD hdf;obtain rfl:kV=.none:=Dflts.noKw hD;obtain⟨a,vs,ns,rfl,rfl,hobj,hints,hlen⟩:=vC hn hpre hwl;refine enter_call (codeAny_mono (call w s₀ s₁ mg mb fa o pm cd doc a vs ns G Y ho (fd_plain hd) hcd hmg hobj hints hlen hg) λ r s' hq=>?_);obtain⟨rfl,h2,h3,h4⟩:=hq;exact⟨.inl ⟨.bool true,.bool true,[],rfl,λ _=>rfl,.bool true,uZ l _,λ _=>⟨List.Pairwise.nil,λ _ hm=>(nomatch hm)⟩⟩,h2,h3,h4⟩
section
variable {prog:Program}{w:World}{A:Around}{E:VP}{s:Shared}{K:Frag}
end
end Att
namespace L2
theorem oK:∀ {vs:List Value} {ns:List Int},IntsAre vs ns->Vals (ns.map V.int) vs
 | _,_,.nil=>.nil
 | _,_,.cons n t h=>.cons ⟨t,rfl⟩ (oK h)
def inClass(s:Stmt)(j:Nat):Stmt:=match s with
 | .ClassDef _ _ _ body _ _ _ _ _ _ _=>body.getD j (.Pass ⟨0,0,0,0⟩)
 | _=>.Pass ⟨0,0,0,0⟩
def bo(s:Stmt):Arguments:=match s with
 | .FunctionDef _ a _ _ _ _ _ _ _ _=>a
 | _=>{posonlyargs:=[],args:=[],vararg:=none,kwonlyargs:=[],kw_defaults:=[],kwarg:=none,defaults:=[]}
def aS(s:Stmt):List Stmt:=match s with
 | .FunctionDef _ _ b _ _ _ _ _ _ _=>b
 | _=>[]
def au(s:Stmt):Scope:=match s with
 | .FunctionDef _ _ _ _ _ _ sc _ _ _=>sc
 | _=>{kind:=.function,names:=[],isGenerator:=false,isCoroutine:=false}
abbrev CX0:CXT:=λ _ _ _ _ _ _=>False
abbrev E0:XK:=λ _ _ _=>False
theorem yI{X:Cx}:Passes CX0 X E0:=λ _ _ _ _ _ _ _ h=>h.elim
structure Fun(K:FG)(x qual:Str)(st:Stmt)(f:Addr)(fd:FuncData):Prop where
 ex:∃ (oc:Value) (od:Option Addr) (kV doc pm:Value) (an:Option Addr) (cdv ct:Value) (osl:Array (Option Value)),
  fd=W.fnOf x qual (bo st) (aS st) (au st) .none kV doc pm an cdv ct/\K.lookup f=some ⟨oc,od,.func fd,osl⟩/\W.codeIn K cdv qual=true
 kp:W.keepIn K (.ref f)=true
section
variable {P:Program}{w:World}{K:FG}{mg:Str->Option Value}{base:Heap}
theorem Fun.ok{x qual:Str}{st:Stmt}{f:Addr}{fd:FuncData}{N ps:List Str}{k:Nat}{sp:Sp}(F:Fun K x qual st f fd)(S:bu N ps (au st))(len:∀ vs H Q E,sp vs H Q E->vs.length=ps.length)
  (hbody:∀ (cdv:Value) (A:Around) (outer:List Env) (s:Shared) (H:Hp) (vs:List V) (Q:VK) (E:XK),cW k (A.deeper (envOfC qual (au st) s.heap.objs.size f cdv))->sp vs H Q E ->
   ∃ t,PSs (zP CX0 P w K mg base N qual (au st) f cdv A outer s H E).nox (aS st) t/\t {nx:=λ _ H'=>Q .non H',rt:=Q} (start N vs) H):cX P w K mg base CX0 (k+1) f fd ps sp:=by
 obtain⟨oc,od,kV,doc,pm,an,cdv,ct,osl,rfl,lk,hcd⟩:=F.ex;refine ac5 lk hcd S len λ A outer s H vs Q E hr hsp=>?_;obtain⟨t,h,q⟩:=hbody cdv A outer s H vs Q E hr hsp;exact⟨t,h.nox,q⟩
theorem Fun.binds{x qual:Str}{st:Stmt}{f:Addr}{fd:FuncData}{ps:List Str}(F:Fun K x qual st f fd)
  (h:∀ (kV doc pm:Value) (an:Option Addr) (cdv ct:Value) (us:List Value),us.length=ps.length->bindArgs (W.fnOf x qual (bo st) (aS st) (au st) .none kV doc pm an cdv ct) ⟨us,[]⟩=pure (ps.zip us)):Binds K fd ps []:=by
 obtain⟨oc,od,kV,doc,pm,an,cdv,ct,osl,rfl,lk,hcd⟩:=F.ex;exact .all (h kV doc pm an cdv ct)
theorem tN{x qual:Str}{st:Stmt}{f:Addr}{oc:Value}{od an:Option Addr}{osl:Array (Option Value)}{kV doc pm cdv ct:Value}(l:K.lookup f=some ⟨oc,od,.func (W.fnOf x qual (bo st) (aS st) (au st) .none kV doc pm an cdv ct),osl⟩)
  (c:W.codeIn K cdv qual=true)(k:W.keepIn K (.ref f)=true):Fun K x qual st f (W.fnOf x qual (bo st) (aS st) (au st) .none kV doc pm an cdv ct):=⟨⟨oc,od,kV,doc,pm,an,cdv,ct,osl,rfl,l,c⟩,k⟩
end
theorem eo{A:Around}{k:Nat}(hr:cW k A):A.units+1<cLine:=Nat.lt_of_le_of_lt (Nat.add_le_add_left (by decide:1<=64) _) hr.units
section
variable {X:Cx}
end
theorem ace{A B:Prop}(h:B):if false=true then A else B:=by rw[if_neg Bool.false_ne_true];exact h
theorem adH{A B:Prop}(h:A):if true=true then A else B:=by rw[if_pos rfl];exact h
section
variable {κ:Type}[DecidableEq κ]
def mW(kvs:List (κ×V))(k:κ):Option V:=(kvs.find? λ kv=>decide (kv.1=k)).map (·.2)
def putK(kvs:List (κ×V))(k:κ)(v:V):List (κ×V):=
 if (kvs.any λ kv=>decide (kv.1=k))=true then kvs.map (λ kv=>if kv.1=k then (kv.1,v) else kv) else kvs++[(k,v)]
theorem je{p:κ×V}{r:List (κ×V)}{k:κ}(e:p.1=k):mW (p::r) k=some p.2:=by simp[mW,List.find?_cons,e]
theorem iX{p:κ×V}{r:List (κ×V)}{k:κ}(e:¬ p.1=k):mW (p::r) k=mW r k:=by simp[mW,List.find?_cons,e]
theorem jc(k:κ):∀ kvs:List (κ×V),(kvs.any λ kv=>decide (kv.1=k))=(mW kvs k).isSome
 | []=>rfl
 | p::r=>by
  rw[List.any_cons]
  by_cases e:p.1=k
  ·simp only[je e,decide_eq_true e,Bool.true_or,Option.isSome_some]
  ·rw[iX e,decide_eq_false e,Bool.false_or];exact jc k r
theorem eZ(kvs:List (κ×V))(k:κ)(v:V):(putK kvs k v).length<=kvs.length+1:=by
 unfold putK
 split
 ·rw[List.length_map];omega
 ·rw[List.length_append,List.length_cons,List.length_nil];omega
theorem xx{kvs:List (κ×V)}{k:κ}(v:V)(h:mW kvs k=none):putK kvs k v=kvs++[(k,v)]:=by
 unfold putK;rw[jc,h];exact if_neg (by decide)
theorem mY.wA{o:Option V}{u:Option Value}(r:mY o u):o.isSome=u.isSome:=by
 cases o with
 | none=>cases u with
  | none=>rfl
  | some _=>exact(show False from r).elim
 | some _=>cases u with
  | none=>exact(show False from r).elim
  | some _=>rfl
theorem mY.getD{o:Option V}{u:Option Value}{d:V}{d':Value}(r:mY o u)(rd:RelV d d'):RelV (o.getD d) (u.getD d'):=by
 cases o with
 | none=>cases u with
  | none=>exact rd
  | some _=>exact(show False from r).elim
 | some _=>cases u with
  | none=>exact(show False from r).elim
  | some _=>exact r
theorem KV.val{kvs:List (κ×V)}{vs:List (κ×Value)}(r:KV kvs vs)(k:κ):mY (mW kvs k) (valueAt vs k):=by
 unfold KV at r
 induction r with
 | nil=>exact True.intro
 | @cons p q ps qs h t ih =>
  obtain⟨h1,h2⟩:=h
  by_cases e:p.1=k
  ·have e':q.1=k:=h1.symm.trans e;have b:valueAt (q::qs) k=some q.2:=by simp[valueAt,List.find?_cons,e']
   rw[je e,b];exact h2
  ·have e':¬ q.1=k:=λ z=>e (h1.trans z);have b:valueAt (q::qs) k=valueAt qs k:=by simp[valueAt,List.find?_cons,e']
   rw[iX e,b];exact ih
theorem KV.any{kvs:List (κ×V)}{vs:List (κ×Value)}(r:KV kvs vs)(k:κ):(kvs.any λ kv=>decide (kv.1=k))=vs.any λ kv=>decide (kv.1=k):=by
 unfold KV at r
 induction r with
 | nil=>rfl
 | cons h t ih=>rw[List.any_cons,List.any_cons,ih,h.1]
theorem KV.ags{kvs:List (κ×V)}{vs:List (κ×Value)}(r:KV kvs vs)(k:κ){y:V}{u:Value}(ry:RelV y u) :
  KV (kvs.map λ kv=>if kv.1=k then (kv.1,y) else kv) (vs.map λ kv=>if kv.1=k then (kv.1,u) else kv):=by
 unfold KV at r ⊢
 induction r with
 | nil=>exact .nil
 | @cons p q ps qs h t ih =>
  rw[List.map_cons,List.map_cons];refine .cons ?_ ih;obtain⟨h1,h2⟩:=h
  by_cases e:p.1=k
  ·rw[if_pos e,if_pos (h1.symm.trans e)];exact⟨h1,ry⟩
  ·rw[if_neg e,if_neg (λ z=>e (h1.trans z))];exact⟨h1,h2⟩
theorem KV.put{kvs:List (κ×V)}{vs:List (κ×Value)}(r:KV kvs vs)(k:κ){y:V}{u:Value}(ry:RelV y u):KV (putK kvs k y) (stored vs k u):=by
 unfold putK stored;rw[r.any k]
 by_cases e:(vs.any λ kv=>decide (kv.1=k))=true
 ·rw[if_pos e,if_pos e];exact r.ags k ry
 ·rw[if_neg e,if_neg e];exact Paired.snoc r ⟨rfl,ry⟩
theorem KV.length{kvs:List (κ×V)}{vs:List (κ×Value)}(r:KV kvs vs):kvs.length=vs.length:=Paired.length r
end
theorem sH{P:Program}{w:World}{k:Key}{u:Value}(r:RelV (kV k) u):(aV P w).is k u=true:=by
 cases k with
 | inl i=>obtain⟨t,e⟩:=(show ∃ t,u=Value.int i t from r);subst e;exact pY P w i t
 | inr x=>obtain⟨t,e⟩:=(show ∃ t,u=Value.str x t from r);subst e;exact qh P w x t
theorem jI{P:Program}{w:World}:∀ {ks:List Key} {us:List Value},Vals (ks.map kV) us->ItemsAre (aV P w) ks us
 | [],_,r=>by rw[List.map_nil] at r;cases r;exact .nil
 | k::ks,_,r=>by
  rw[List.map_cons] at r;cases r with
  | cons h t=>exact .cons (sH h) (jI t)
abbrev KT(H:Hp):List (List Key×V)->List (List Key×Addr×Value)->Prop:=Paired λ p q=>p.1=q.1/\H q.2.1=some (.tup (p.1.map kV))/\RelV p.2 q.2.2
theorem KT.val{H:Hp}{kvs:List (List Key×V)}{xs:List (List Key×Addr×Value)}(r:KT H kvs xs)(k:List Key):mY (mW kvs k) ((atKey xs k).map (·.2)):=by
 induction r with
 | nil=>exact True.intro
 | @cons p q ps qs h t ih =>
  obtain⟨h1,_,h2⟩:=h
  by_cases e:p.1=k
  ·have e':q.1=k:=h1.symm.trans e;have b:atKey (q::qs) k=some q.2:=by simp[atKey,List.find?_cons,e']
   rw[je e,b];exact h2
  ·have e':¬ q.1=k:=λ z=>e (h1.trans z);have b:atKey (q::qs) k=atKey qs k:=by simp[atKey,List.find?_cons,e']
   rw[iX e,b];exact ih
theorem KT.ags{H:Hp}{kvs:List (List Key×V)}{xs:List (List Key×Addr×Value)}(r:KT H kvs xs)(k:List Key){y:V}{u:Value}(ry:RelV y u) :
  KT H (kvs.map λ kv=>if kv.1=k then (kv.1,y) else kv) (xs.map (putAt k u)):=by
 induction r with
 | nil=>exact .nil
 | @cons p q ps qs h t ih =>
  rw[List.map_cons,List.map_cons];refine .cons ?_ ih;obtain⟨h1,h2,h3⟩:=h;unfold putAt
  by_cases e:p.1=k
  ·rw[if_pos e,if_pos (h1.symm.trans e)];exact⟨h1,h2,ry⟩
  ·rw[if_neg e,if_neg (λ z=>e (h1.trans z))];exact⟨h1,h2,h3⟩
theorem KT.put{H:Hp}{kvs:List (List Key×V)}{xs:List (List Key×Addr×Value)}(r:KT H kvs xs)(k:List Key){b:Addr}{y:V}{u:Value}(hb:H b=some (.tup (k.map kV)))(ry:RelV y u) :
  KT H (putK kvs k y) (storedH xs k b u):=by
 have e:(kvs.any λ kv=>decide (kv.1=k))=(atKey xs k).isSome:=by rw[jc,(r.val k).wA,Option.isSome_map]
 unfold putK storedH;rw[e]
 by_cases q:(atKey xs k).isSome=true
 ·rw[if_pos q,if_pos q];exact r.ags k ry
 ·rw[if_neg q,if_neg q];exact Paired.snoc r ⟨rfl,hb,ry⟩
theorem KT.keeps{H H':Hp}{kvs:List (List Key×V)}{xs:List (List Key×Addr×Value)}(r:KT H kvs xs)(ht:∀ b ys,H b=some (.tup ys)->H' b=some (.tup ys)):KT H' kvs xs:=
 Paired.fC r λ _ _ z=>⟨z.1,ht _ _ z.2.1,z.2.2⟩
section
variable {P:Program}{w:World}{H:Hp}{h:Heap}{a:Addr}
theorem aby{u:HO}(ok:HOk P w H h)(e:Rd H a u):cF P w H h a u:=e.ok ok
theorem rZ{kvs:List (Key×V)}(ok:HOk P w H h)(e:Rd H a (.dK kvs)):kvs.length<=sizeLine/\(a==sysModules)=false/\∃ vs,KV kvs vs/\h.DictOf (aV P w) a vs:=
 show cF P w H h a (.dK kvs) from aby ok e
theorem abA{kvs:List (Key×V)}(ok:HOk P w H h)(e:H a=some (.dK kvs)):kvs.length<=sizeLine/\(a==sysModules)=false/\∃ vs,KV kvs vs/\h.DictOf (aV P w) a vs:=rZ ok (.inl e)
theorem zD{ks:List Key}(ok:HOk P w H h)(e:H a=some (.tup (ks.map kV))):(tupleKind (aV P w)).is h ks a:=by obtain⟨_,its,r,o,h1,h2,_,n,h3⟩:=(show cF P w H h a (.tup (ks.map kV)) from ok a _ e);exact⟨o,its.toArray,n,h1,h2,h3,by simpa using jI r⟩
theorem w6{kvs:List (List Key×V)}(ok:HOk P w H h)(e:Rd H a (.dT kvs)):kvs.length<=sizeLine/\(a==sysModules)=false /\
  ∃ xs,KT H kvs xs/\h.DictOfH (tupleKind (aV P w)) a xs:=by
 obtain⟨z,y,xs,r,o,es,ep,h1,h2,h3,h4,h5⟩:=(show cF P w H h a (.dT kvs) from aby ok e);refine⟨z,y,xs,r,o,es,ep,h1,h2,h3,h4,λ x hx=>?_,h5⟩;have all:∀ {l:List (List Key×V)} {m:List (List Key×Addr×Value)},KT H l m->∀ x∈m,(tupleKind (aV P w)).is h x.1 x.2.1:=by
  intro l m q
  induction q with
  | nil=>intro x hx;exact nomatch hx
  | @cons p q ps qs hq t ih =>
   intro x hx;rcases List.mem_cons.mp hx with e | hx
   ·subst e;exact zD ok (by rw[<- hq.1];exact hq.2.1)
   ·exact ih x hx
 exact all r x hx
theorem af0{kvs:List (List Key×V)}(ok:HOk P w H h)(e:H a=some (.dT kvs)):kvs.length<=sizeLine/\(a==sysModules)=false /\
  ∃ xs,KT H kvs xs/\h.DictOfH (tupleKind (aV P w)) a xs:=w6 ok (.inl e)
end
def agO(H:Hp)(a:Addr)(y v:V)(H':Hp):Prop:=
 (∃ kvs k,H a=some (.dK kvs)/\y=kV k/\kvs.length<sizeLine/\H'=upd H a (.dK (putK kvs k v))) \/
 ∃ kvs k b,H a=some (.dT kvs)/\y=.ref b/\H b=some (.tup (k.map kV))/\kvs.length<sizeLine/\H'=upd H a (.dT (putK kvs k v))
section
variable {X:Cx}{pins:PN}{σ:St}{H:Hp}{s:Shared}{a:Addr}{y v:V}{u r:Value}{o:Option V}{A:Around}{E:VP}
theorem Inv.big(I:Inv X pins σ H s):sysModules<s.heap.objs.size:=by have h:mainGlobals<s.heap.objs.size:=(I.mod.glob.keeps I.bk).lt;exact Nat.lt_trans (by decide) h
theorem mJ{h':Heap}{t':Nat}{ob:HO}(I:Inv X pins σ H s)(mu:Mut (H a))(hs:Heap.SameBut a s.heap h')(he:∃ q,h'.get? a=some q)(new:cF X.prog X.w (upd H a ob) h' a ob) :
  Inv X pins σ (upd H a ob) {s with heap:=h',toks:=t'}:=
 I.write (x:=a) (e:=a) mu (.inl rfl) (λ b q hb z=>(hs.2 b hb).trans z) he new
theorem vR{P:Program}{w:World}{H':Hp}{h':Heap}{kvs:List (Key×V)}{vs:List (Key×Value)}(z:kvs.length<=sizeLine)(hd:(a==sysModules)=false)(rel:KV kvs vs)(dd:h'.DictOf (aV P w) a vs) :
  cF P w H' h' a (.dK kvs):=⟨z,hd,vs,rel,dd⟩
theorem wx{H':Hp}{Q:Unit->Shared->Prop}(hu:A.units+1<cLine)(I:Inv X pins σ H s)(g:agO H a y v H')(ry:RelV y u)(rv:RelV v r)(h:∀ s',Inv X pins σ H' s'->Q () s') :
  wpAny (model X.prog X.w) A (setItem (.ref a) u r) Q E s:=by
 rcases g with ⟨kvs,k,e,ey,l,eH⟩ | ⟨kvs,k,b,e,ey,eb,l,eH⟩
 ·subst ey eH;obtain⟨z,hd,vs,rel,dd⟩:=abA I.hok e;have hz:vs.length<=sizeLine:=by rw[<- rel.length];exact z
  have hl:(putK kvs k v).length<=sizeLine:=by have:=eZ kvs k v;omega
  refine wpAny_setItem_pairs (hsz:=hz) (sH ry) dd λ h' dd' hs=>h _ ?_;have he:∃ q,h'.get? a=some q:=let ⟨q,_,_,hq,_⟩:=dd'; ⟨q,hq⟩;exact mJ I (by rw[e];exact True.intro) hs he (vR hl hd (rel.put k rv) dd')
 ·subst ey eH;cases (show u=Value.ref b from ry);obtain⟨z,hd,xs,rel,dd⟩:=af0 I.hok e;have hz:xs.length<=sizeLine:=by rw[<- Paired.length rel];exact z
  have hl:(putK kvs k v).length<=sizeLine:=by have:=eZ kvs k v;omega
  refine wpAny_setItem_heap (hsz:=hz) (tupleKind_room_in1 hu) (zD I.hok eb) dd λ h' dd' hs=>h _ ?_;obtain⟨q,es,ep,hq,h2,h3,h4,_,h5⟩:=dd';refine mJ I (by rw[e];exact True.intro) hs ⟨q,hq⟩ ⟨hl,hd,_,(rel.put k eb rv).keeps λ c ys ec=>?_,q,es,ep,hq,h2,h3,h4,h5⟩;rw[ah (sh ec e (λ z=>nomatch z))];exact ec
end
section
variable {X:Cx}{pins:PN}{σ:St}{H:Hp}{s:Shared}{a:Addr}{kvs:List (Key×V)}{k:Key}{u:Value}{A:Around}{E:VP}
end
def aco(i:Expr):Prop:=∀ ov iv,subscripted i false ov iv=operate [ov,iv] (getItem ov iv)
theorem vW{prog:Program}{w:World}{A:Around}{E:VP}{s:Shared}{env:Env}{value slice:Expr}{pos:Pos}{T id:String}{Q:VP}
  (hl:typeLookup (.type T) "__getitem__" = pure (some (.builtin id)))(hs:aco slice)
  (h:wpAny (model prog w) A (eval value env) (λ o s₁=>wpAny (model prog w) A (eval slice env) (λ i s₂=>s₂.TypeIs o T/\wpAny (model prog w) A (getItem o i) Q E s₂) E s₁) E s) :
  wpAny (model prog w) A (eval (.Subscript value slice pos) env) Q E s:=by
 refine Subscript_ (wpAny_mono h (λ o s₁ h₁=>wpAny_mono h₁ (λ i s₂ h₂=>?_) λ _ _ x=>x) λ _ _ x=>x);obtain⟨hT,h₂⟩:=h₂;unfold subscriptTail;refine wpAny_bind ?_;rw[getitemInPython_of_ne hT.not_modules];refine wpAny_bind (wpAny_specialOf hT hl ?_);have fin:wpAny (model prog w) A (subscripted slice false o i) (λ r s₃=>wpAny (model prog w) A (letTemporaryGo value o r >>= λ _=>pure r) Q E s₃) E s₂:=by rw[hs o i];exact wpAny_operating (wpAny_mono h₂ (λ r s₃ h₃=>wpAny_bind (wpAny_letTemporaryGo (wpAny_pure h₃))) λ _ _ x=>x)
 first
  | exact wpAny_pure (wpAny_bind fin)
  | exact wpAny_bind (wpAny_pure (wpAny_bind fin))
  | exact wpAny_bind fin
def afH(td ty tv:TE):TS:=λ D σ H=>tv σ H λ v H1=>td σ H1 λ x H2=>ty σ H2 λ y H3=>∃ a H4,x=.ref a/\agO H3 a y v H4/\D.nx σ H4
section
variable {X:Cx}{o i e value:Expr}{pos pos' tpos:Pos}{td ty tv:TE}
theorem uY(hu:X.A.units+1<cLine)(ho:PE X o td)(hi:PE X i ty)(hv:PE X value tv)(hs:swapsWith value (some (.Subscript o i pos')) pos.line X.env=pure false) :
  PS X (.Assign [.Subscript o i pos'] value pos) (afH td ty tv):=by
 intro pins s σ H D I h;refine wpAny_Assign_Subscript (thn (hv pins s σ H _ I h) λ r s1 ⟨v,H1,I1,rv,q1⟩=>thn (ho pins s1 σ H1 _ I1 q1) λ u s2 ⟨x,H2,I2,rx,q2⟩=>thn (hi pins s2 σ H2 _ I2 q2) λ iv s3 ⟨y,H3,I3,ry,a,H4,ex,g,q3⟩=>?_) hs;subst ex;obtain rfl:u=Value.ref a:=rx;exact wx hu I3 g ry rv λ s4 I4=>⟨σ,H4,I4,q3⟩
end
theorem l7{P:Program}{w:World}{H:Hp}(h:Heap)(hb:sysModules<h.objs.size):cF P w H (h.push {cls:=.type "dict",data:=.dict #[]}) h.objs.size (.dK []):=
 ⟨Nat.zero_le _,beq_eq_false_iff_ne.mpr (Ne.symm (Nat.ne_of_lt hb)),[],.nil,Heap.DictOf.new h⟩
theorem xR{P:Program}{w:World}{H:Hp}(h:Heap)(hb:sysModules<h.objs.size):cF P w H (h.push {cls:=.type "dict",data:=.dict #[]}) h.objs.size (.dT []):=
 ⟨Nat.zero_le _,beq_eq_false_iff_ne.mpr (Ne.symm (Nat.ne_of_lt hb)),[],.nil,_,#[],0,Heap.get?_push_size _ rfl,⟨rfl,rfl,rfl⟩,rfl,rfl,List.nodup_nil⟩
def adY:TE:=λ _ H Q=>∀ p,H p=none->Q (.ref p) (upd H p (.dK []))
def aet:TE:=λ _ H Q=>∀ p,H p=none->Q (.ref p) (upd H p (.dT []))
section
variable {X:Cx}{pos:Pos}
theorem xn:PE X (.Dict [] [] pos) adY:=λ pins s σ H Q I h =>
 wpAny_Dict_empty ⟨.ref s.heap.objs.size,_,I.laid (a:=s.heap.objs.size) (o:=.dK []) (t':=s.toks) (λ _ _ q=>Heap.get?_push_of_some _ q) (Nat.le_refl _) (l7 s.heap I.big),rfl,h _ (I.hok.fresh (Nat.le_refl _))⟩
theorem yN:PE X (.Dict [] [] pos) aet:=λ pins s σ H Q I h =>
 wpAny_Dict_empty ⟨.ref s.heap.objs.size,_,I.laid (a:=s.heap.objs.size) (o:=.dT []) (t':=s.toks) (λ _ _ q=>Heap.get?_push_of_some _ q) (Nat.le_refl _) (xR s.heap I.big),rfl,h _ (I.hok.fresh (Nat.le_refl _))⟩
end
def qt:List (TE×TE)->St->Hp->(List (V×V)->Hp->Prop)->Prop
 | [],_,H,Q=>Q [] H
 | (tk,tv)::r,σ,H,Q=>tk σ H λ x H1=>tv σ H1 λ y H2=>qt r σ H2 λ ps H3=>Q ((x,y)::ps) H3
abbrev VV:List (V×V)->List (Value×Value)->Prop:=Paired λ p q=>RelV p.1 q.1/\RelV p.2 q.2
def PPs(X:Cx)(pos:Pos)(keys:List (Option Expr))(values:List Expr)(trs:List (TE×TE)):Prop:=
 ∀ (pins:PN) (s:Shared) (σ:St) (H:Hp) (Q:List (V×V)->Hp->Prop),Inv X pins σ H s->qt trs σ H Q ->
  wpAny (model X.prog X.w) X.A (evalPairs (pairTrees keys values X.env pos)) (λ vs s'=>∃ ps H',Inv X pins σ H' s'/\VV ps vs/\Q ps H') X.xe s
theorem ab4{X:Cx}{pos:Pos}:PPs X pos [] [] []:=λ pins s σ H Q I h=>pairTrees_nil_walk ⟨[],H,I,.nil,h⟩
theorem xY{X:Cx}{pos:Pos}{k v:Expr}{ks:List (Option Expr)}{vs:List Expr}{tk tv:TE}{trs:List (TE×TE)}(hk:PE X k tk)(hv:PE X v tv)(hr:PPs X pos ks vs trs) :
  PPs X pos (some k::ks) (v::vs) ((tk,tv)::trs):=λ pins s σ H Q I h =>
 pairTrees_cons_walk (thn (hk pins s σ H _ I h) λ u s1 ⟨x,H1,I1,rx,q1⟩=>thn (hv pins s1 σ H1 _ I1 q1) λ w2 s2 ⟨y,H2,I2,ry,q2⟩ =>
  thn (hr pins s2 σ H2 _ I2 q2) λ ws s3 ⟨ps,H3,I3,rel,q3⟩=>⟨(x,y)::ps,H3,I3,.cons ⟨rx,ry⟩ rel,q3⟩)
def gP(kvs more:List (Key×V)):List (Key×V):=more.foldl (λ acc kv=>putK acc kv.1 kv.2) kvs
theorem KV.merge:∀ {more:List (Key×V)} {rs:List (Key×Value)} {kvs:List (Key×V)} {vs:List (Key×Value)},KV more rs->KV kvs vs->KV (gP kvs more) (merged vs rs):=by
 intro more rs kvs vs r;unfold KV at r
 induction r generalizing kvs vs with
 | nil=>intro q;exact q
 | @cons p q ps qs h t ih =>
  intro r0;have e:KV (putK kvs p.1 p.2) (stored vs q.1 q.2):=by have:=r0.put p.1 h.2;rw[<- h.1];exact this
  exact ih e
theorem gW:∀ (more kvs:List (Key×V)),(gP kvs more).length<=kvs.length+more.length
 | [],kvs=>by show kvs.length<=kvs.length+0;omega
 | p::r,kvs=>by have h1:=gW r (putK kvs p.1 p.2);have h2:=eZ kvs p.1 p.2;show(gP (putK kvs p.1 p.2) r).length<=_;rw[List.length_cons];omega
theorem lh{P:Program}{w:World}:∀ {kvs:List (Key×V)} {ws:List (Value×Value)},VV (kvs.map λ kv=>(kV kv.1,kv.2)) ws->∃ rs,Carries (aV P w) ws rs/\KV kvs rs
 | [],_,r=>by rw[List.map_nil] at r;cases r;exact⟨[],True.intro,.nil⟩
 | p::kvs,_,r=>by
  rw[List.map_cons] at r;cases r with
  | @cons a b as bs h t =>
   obtain⟨rs,c,q⟩:=lh (P:=P) (w:=w) t;obtain⟨b1,b2⟩:=b;exact⟨(p.1,b2)::rs,⟨sH h.1,rfl,c⟩,.cons ⟨rfl,h.2⟩ q⟩
def afj(trs:List (TE×TE)):TE:=λ σ H Q=>∀ p,H p=none->qt trs σ (upd H p (.dK [])) λ ps H2=>H2 p=some (.dK [])/\∃ kvs:List (Key×V),ps=kvs.map (λ kv=>(kV kv.1,kv.2))/\kvs.length<=15/\Q (.ref p) (upd H2 p (.dK (gP [] kvs)))
theorem ab8{X:Cx}{pos:Pos}{keys:List (Option Expr)}{values:List Expr}{trs:List (TE×TE)}(h:PPs X pos keys values trs)(hall:keys.all (·.isSome)=true)(hl:keys.length=values.length)(h0:keys≠[])
  (h15:keys.length<=15):PE X (.Dict keys values pos) (afj trs):=by
 intro pins s σ H Q I q;have hn:=I.hok.fresh (Nat.le_refl s.heap.objs.size);have I1:=I.laid (a:=s.heap.objs.size) (o:=.dK []) (h':=s.heap.push {cls:=.type "dict",data:=.dict #[]}) (t':=s.toks) (λ _ _ q=>Heap.get?_push_of_some _ q) (Nat.le_refl _) (l7 s.heap I.big);refine wpAny_Dict_walk (knd:=aV X.prog X.w) hall hl h0 h15 (thn (h pins _ σ _ _ I1 (q _ hn)) λ ws s2 hq24=>?_);obtain⟨ps,H2,I2,rel,e,kvs,ep,lk,q2⟩:=hq24;subst ep;obtain⟨rs,c,rk⟩:=lh (P:=X.prog) (w:=X.w) rel;obtain⟨z,hd,vs0,r0,dd⟩:=abA I2.hok e;cases r0;refine⟨rs,c,dd,λ h' dd' hs=>⟨.ref s.heap.objs.size,_,?_,rfl,q2⟩⟩;have hz:(gP [] kvs).length<=sizeLine:=by have h1:=gW kvs [];rw[List.length_nil] at h1;rw[sizeLine_eq];omega
 have he:∃ q,h'.get? s.heap.objs.size=some q:=let ⟨q,_,_,hq,_⟩:=dd'; ⟨q,hq⟩;exact mJ I2 (by rw[e];exact True.intro) hs he (vR hz hd (rk.merge .nil) dd')
structure M2(X:Cx)(o:Expr)(m:Str)(apos:Pos)(e f:Expr)(cpos:Pos):Prop where
 base:attributeBase o m X.env (eval o X.env)=eval o X.env
 few:((backTo cpos (starEach [e,f] X.env)).all (λ x=>!x.1)&&(backToKw cpos (keywordEach [] X.env)).all (λ x=>x.1.isSome)
  && decide (([e,f]:List Expr).length+([]:List Keyword).length+(if ([]:List Keyword).isEmpty then 0 else 1)<30))=true
 line:(apos.endLine==cpos.line)=true
 trees:backTo cpos (starEach [e,f] X.env)=[(false,eval e X.env),(false,eval f X.env)]
def IsD(H:Hp)(a:Addr):Prop:=(∃ kvs,Rd H a (.dK kvs))\/∃ kvs,Rd H a (.dT kvs)
theorem acF{X:Cx}{pins:PN}{σ:St}{H:Hp}{s:Shared}{a:Addr}(I:Inv X pins σ H s)(d:IsD H a) :
  s.TypeIs (.ref a) "dict" /\ (∀ b,Value.ref a=.ref b->∃ ob,s.heap.get? b=some ob/\ob.dict=none)/\(a==sysModules)=false:=by
 rcases d with ⟨kvs,e⟩ | ⟨kvs,e⟩
 ·obtain⟨_,hd,vs,_,dd⟩:=rZ I.hok e;refine⟨dd.typeIs,λ b q=>?_,hd⟩;cases q;obtain⟨ob,_,_,h1,h2,_⟩:=dd;exact⟨ob,h1,h2.2.1⟩
 ·obtain⟨_,hd,xs,_,dd⟩:=w6 I.hok e;refine⟨dd.typeIs,λ b q=>?_,hd⟩;cases q;obtain⟨ob,_,_,h1,h2,_⟩:=dd;exact⟨ob,h1,h2.2.1⟩
section
variable {X:Cx}{pins:PN}{σ:St}{H:Hp}{s:Shared}{a:Addr}{y d:V}{u r:Value}{o:Option V}{A:Around}{E:VP}
end
section
variable {X:Cx}{o e f:Expr}{apos cpos:Pos}{td ty tx:TE}
end
section
variable {X:Cx}{pins:PN}{σ:St}{H:Hp}{s:Shared}{a:Addr}{kvs:List (Key×V)}{A:Around}{E:VP}
end
section
variable {X:Cx}{pins:PN}{σ:St}{H:Hp}{s:Shared}{a:Addr}{y:V}{u:Value}{A:Around}{E:VP}
end
end L2
set_option maxHeartbeats 0
namespace L2
def Fz:HO->Prop
 | .lst _=>True
 | .dK _=>True
 | _=>False
theorem adO(e:H p=some u)(f:Fz u):Un fs ex H (upd H p (.frz o u)) h h where
 keep:=λ b ob q _ _ _=>q
 slot:=λ b ob q _ _ _=>⟨ob.slots,q⟩
 free:=λ b ob _ n _=>by rw[ah (Ne.symm (aF e n))];exact n
 there:=λ b ob q _=>⟨ob,q⟩
 tups:=λ b xs q=>by
  have:b≠p:=λ z=>by subst z;rw[e] at q;cases q;exact f
  rw[ah this];exact q
 frzs:=λ b ob v q=>by
  have:b≠p:=λ z=>by subst z;rw[e] at q;cases q;exact f
  rw[ah this];exact q
 tbls:=λ b ps q=>by
  have:b≠p:=λ z=>by subst z;rw[e] at q;cases q;exact f
  exact⟨#[],by rw[ah this,q];simp⟩
theorem cF.adk(f:Fz u)(x:cF P w H h a u):cF P w H' h a u:=by
 cases u with
 | lst xs=>exact x
 | dK kvs=>exact x
 | _=>exact f.elim
theorem cF.obj(f:Fz u)(x:cF P w H h a u):∃ o,h.get? a=some o:=by
 cases u with
 | lst xs=>obtain⟨_,_,_,_,e⟩:=x;exact⟨_,e⟩
 | dK kvs=>obtain⟨_,_,_,_,o,_,_,e,_⟩:=x;exact⟨o,e⟩
 | _=>exact f.elim
theorem Inv.freeze(I:Inv X pins σ H s)(e:H p=some u)(f:Fz u):∃ o,Inv X pins σ (upd H p (.frz o u)) s:=by
 obtain⟨o,ho⟩:=(I.hok p u e).obj f;refine⟨o,I.un (h':=s.heap) (t':=s.toks) (adO e f) λ b v q=>?_⟩
 by_cases hb:b=p
 ·subst hb;rw[ao] at q;cases q;exact⟨ho,(I.hok b u e).adk f⟩
 ·rw[ah hb] at q;refine(I.hok b v q).tE (λ _ _ _ q=>q) (λ c r=>?_) λ c xs r=>?_
  ·have:c≠p:=λ z=>by subst z;rw[e] at r;cases r;exact f
   rw[ah this];exact r
  ·have:c≠p:=λ z=>by subst z;rw[e] at r;cases r;exact f
   rw[ah this];exact r
def agV(t:TE):TE:=λ σ H Q=>t σ H λ v H1=>∃ p u,v=.ref p/\H1 p=some u/\Fz u/\∀ o,Q v (upd H1 p (.frz o u))
theorem rM(h:PE X e t):PE X e (agV t):=by intro pins s σ H Q I hq;refine thn (h pins s σ H _ I hq) λ v s1 hq25=>?_;obtain⟨x,H1,I1,r1,p,u,e1,e2,f,q⟩:=hq25;obtain⟨o,I2⟩:=I1.freeze e2 f;exact⟨x,_,I2,r1,q o⟩
theorem Inv.yF(I:Inv X pins σ H s)(e:s.heap.get? D=some {cls:=.type "list",data:=.seq us.toArray n})(hn:H D=none)(hv:Vals ys us)(hz:ys.length<=sizeLine)
  (h0:X.s₀.heap.objs.size<=D)(hL:D≠X.env.locals)(hc:∀ x c,X.env.cells.lookup x=some c->c≠D)(hp:∀ p∈X.pn++pins,p.1≠D):Inv X pins σ (upd H D (.lst ys)) s:=by
 have ne:∀ b u,H b=some u->b≠D:=λ b u q=>aF q hn;refine I.step (h':=s.heap) (g':=s.gens) (d':=s.drawn) (t':=s.toks) (ch:=[D]) (λ b hb=>?_) (λ b o _ _ _ q _=>q) (λ b o _ _ _ q _=>⟨o.slots,q⟩) (λ b o hb q n=>?_) (λ b o _ q=>⟨o,q⟩)
  (λ b xs q=>by rw[ah (ne b _ q)];exact q) (λ b o u q=>by rw[ah (ne b _ q)];exact q) (λ b ps q=>⟨#[],by rw[ah (ne b _ q),q];simp⟩) (λ m hm=>hm) (λ b u q=>?_) I.bare
 ·have e:b=D:=by simpa using hb
  subst e;exact⟨.inr h0,hL,hc,hp⟩
 ·rw[ah (λ z=>hb (by simp[z]))];exact n
 ·by_cases hb:b=D
  ·subst hb;rw[ao] at q;cases q;exact⟨hz,us,n,hv,e⟩
  ·rw[ah hb] at q;exact(I.hok b u q).tE (λ _ _ _ q=>q) (λ c r=>by rw[ah (ne c _ r)];exact r) λ c xs r=>by rw[ah (ne c _ r)];exact r
abbrev qb(ifs:List Expr)(env:Env):Sem Bool:=forIn ifs true λ c r=>if r=true then do let ok <- isTrue c env (eval c env);pure (ForInStep.yield ok) else pure (ForInStep.yield r)
theorem nL(I:Nat->Shared->Prop)
  (turn:∀ n s,I n s->wpAny (model prog w) A (pyNext it) (λ r s₁=>match r with
   | none=>R (.ok .next) s₁
   | some v=>wpAny (model prog w) A (letOwnedTupleGo target it v) (λ _ s₁'=>wpAny (model prog w) A (assign target env v) (λ _ s₂ =>
     wpAny (model prog w) A (qb ifs env) (λ ok s₃ =>
      if ok=true then wpAny (model prog w) A (eval elt env) (λ x s₄ =>
       wpAny (model prog w) A (call (.builtin "list.append") [acc,x]) (λ _ s₅=>∃ m,m<n/\I m s₅) (λ _ _=>False) s₄) (λ _ _=>False) s₃
      else ∃ m,m<n/\I m s₃) (λ _ _=>False) s₂) (λ _ _=>False) s₁') (λ _ _=>False) s₁) (λ _ _=>False) s)
  (n:Nat)(h:I n s) :
  codeAny (model prog w) A (.compLoop (.ListComp elt [⟨target,iter,ifs,0⟩] scope pos) 0 it acc env) R s:=by
 refine codeAny_loop rfl I (λ n s hI=>?_) n h;show wpAny _ A ((compTurn (.ListComp elt [⟨target,iter,ifs,0⟩] scope pos) 0 it acc env).onRaise (λ x=>do noteFrame x env;theTreesLotGoes x)) _ _ s;refine wpAny_noted ?_;rw[compTurn_list];refine wpAny_bind (wpAny_standAt (wpAny_bind (wpAny_mono (turn n s hI) (λ r s₁ h₁=>?_) λ _ _ h'=>h'.elim)));cases r with
 | none=>exact wpAny_pure h₁
 | some v =>
  refine wpAny_bind (wpAny_mono h₁ (λ _ s₁' h₁'=>?_) λ _ _ h'=>h'.elim);refine wpAny_bind (wpAny_mono h₁' (λ _ s₂ h₂=>wpAny_bind (wpAny_mono h₂ (λ ok s₃ h₃=>?_) λ _ _ h'=>h'.elim)) λ _ _ h'=>h'.elim);cases ok with
  | false=>exact wpAny_pure ⟨rfl,h₃⟩
  | true =>
   exact wpAny_bind (wpAny_bind (wpAny_mono h₃ (λ x s₄ h₄=>wpAny_bind (wpAny_mono h₄ (λ _ s₅ h₅=>wpAny_pure (wpAny_pure ⟨rfl,h₅⟩)) λ _ _ h'=>h'.elim)) λ _ _ h'=>h'.elim))
theorem iE(h:∀ x∈scope.names,x.2=.free->∃ c,env.cells.lookup x.1=some c) :
  ∃ cl,closureFor scope env=pure cl/\(∀ n c,cl.lookup n=some c->env.cells.lookup n=some c)/\(∀ n,(n,NameKind.free)∈scope.names->∃ c,cl.lookup n=some c):=by
 have key:∀ (l:List (Str×NameKind)) (cs:List (Str×Addr)),(∀ x∈l,x.2=.free->∃ c,env.cells.lookup x.1=some c)->(∀ n c,cs.lookup n=some c->env.cells.lookup n=some c) ->
   ∃ cl:List (Str×Addr),(forIn l cs λ x r=>match x with
    | (name,kind)=>if (kind==NameKind.free)=true then do let a <- cellOf env name;pure (ForInStep.yield ((name,a)::r)) else pure (ForInStep.yield r):Sem (List (Str×Addr)))=pure cl /\
    (∀ n c,cl.lookup n=some c->env.cells.lookup n=some c)/\(∀ n c,cs.lookup n=some c->∃ c,cl.lookup n=some c)/\(∀ n,(n,NameKind.free)∈l->∃ c,cl.lookup n=some c):=by
  intro l
  induction l with
  | nil=>intro cs _ hc;exact⟨cs,rfl,hc,λ n c e=>⟨c,e⟩,λ n hn=>nomatch hn⟩
  | cons x l ih =>
   intro cs hl hc;obtain⟨name,kind⟩:=x
   by_cases hk:kind=.free
   ·subst hk;obtain⟨c,e⟩:=hl (name,.free) List.mem_cons_self rfl;obtain⟨cl,h1,h2,h3,h4⟩:=ih ((name,c)::cs) (λ y hy=>hl y (List.mem_cons_of_mem _ hy)) (λ n d q=>by
     rw[List.lookup_cons] at q;cases hb:n==name with
     | true =>
      rw[hb] at q;cases q;rw[eq_of_beq hb];exact e
     | false =>
      rw[hb] at q;exact hc n d q)
    refine⟨cl,?_,h2,λ n d q=>?_,λ n hn=>?_⟩
    ·rw[List.forIn_cons];simp only[beq_self_eq_true,if_true,cellOf,e,pure_bind];exact h1
    ·cases hb:n==name with
     | true=>exact h3 n c (by rw[List.lookup_cons,hb])
     | false=>exact h3 n d (by rw[List.lookup_cons,hb];exact q)
    ·rcases List.mem_cons.mp hn with z | z
     ·cases z;exact h3 name c (by rw[List.lookup_cons];simp)
     ·exact h4 n z
   ·obtain⟨cl,h1,h2,h3,h4⟩:=ih cs (λ y hy=>hl y (List.mem_cons_of_mem _ hy)) hc;refine⟨cl,?_,h2,h3,λ n hn=>?_⟩
    ·rw[List.forIn_cons];have:(kind==NameKind.free)=false:=by simpa using hk
     simp only[this,Bool.false_eq_true,if_false,pure_bind];exact h1
    ·rcases List.mem_cons.mp hn with z | z
     ·cases z;exact absurd rfl hk
     ·exact h4 n z
 obtain⟨cl,h1,h2,_,h4⟩:=key scope.names [] h (λ n c e=>by simp at e);refine⟨cl,?_,h2,h4⟩;unfold closureFor;simp only[bind_pure];exact h1
theorem ix{sc:Scope}{env:Env}{x:Str}:∀ {names:List (Str×NameKind)},(names.map λ(n,k)=>if (k==NameKind.free&&env.scope.kind==.function&&env.kindOf n==some .cell) then (n,NameKind.cell) else (n,k)).lookup x=some .cell \/
  (names.map λ(n,k)=>if (k==NameKind.free&&env.scope.kind==.function&&env.kindOf n==some .cell) then (n,NameKind.cell) else (n,k)).lookup x=some .free->(∀ y∈names,y.2 ≠ .cell)->(x,NameKind.free)∈names
 | [],h,_=>by simp at h
 | (n,k)::r,h,hc=>by
  have ih:=@ix sc env x r
  by_cases hk:(k==NameKind.free&&env.scope.kind==.function&&env.kindOf n==some .cell)=true
  ·simp only[List.map_cons,if_pos hk,List.lookup_cons] at h;cases hx:x==n with
   | true =>
    have e:=eq_of_beq hx;subst e;simp only[Bool.and_eq_true] at hk;have:=eq_of_beq hk.1.1;subst this;exact List.mem_cons_self
   | false =>
    rw[hx] at h;exact List.mem_cons_of_mem _ (ih h λ y hy=>hc y (List.mem_cons_of_mem _ hy))
  ·simp only[List.map_cons,if_neg hk,List.lookup_cons] at h;cases hx:x==n with
   | true =>
    rw[hx] at h;have e:=eq_of_beq hx;subst e;rcases h with h | h
    ·cases h;exact absurd rfl (hc (x,.cell) List.mem_cons_self)
    ·cases h;exact List.mem_cons_self
   | false =>
    rw[hx] at h;exact List.mem_cons_of_mem _ (ih h λ y hy=>hc y (List.mem_cons_of_mem _ hy))
theorem dw{env:Env}{x:Str}:∀ {names:List (Str×NameKind)},names.lookup x=some .free ->
  (names.map λ(n,k)=>if (k==NameKind.free&&env.scope.kind==.function&&env.kindOf n==some .cell) then (n,NameKind.cell) else (n,k)).lookup x=some .cell \/
  (names.map λ(n,k)=>if (k==NameKind.free&&env.scope.kind==.function&&env.kindOf n==some .cell) then (n,NameKind.cell) else (n,k)).lookup x=some .free
 | [],h=>by simp at h
 | (n,k)::r,h=>by
  have ih:=@dw env x r
  by_cases hk:(k==NameKind.free&&env.scope.kind==.function&&env.kindOf n==some .cell)=true
  ·simp only[List.map_cons,if_pos hk,List.lookup_cons];cases hx:x==n with
   | true=>exact .inl rfl
   | false=>rw[List.lookup_cons,hx] at h;exact ih h
  ·simp only[List.map_cons,if_neg hk,List.lookup_cons];cases hx:x==n with
   | true=>rw[List.lookup_cons,hx] at h;exact .inr h
   | false=>rw[List.lookup_cons,hx] at h;exact ih h
def blk(X:Cx)(sc:Scope)(N':List Str)(cl:List (Str×Addr))(C:Addr)(s:Shared)(H:Hp)(ex:List Addr)(pins:PN):Cx:=
 {X with N:=N',s₀:=s,H₀:=H,env:=compEnvC sc cl C X.env,outer:=X.stack,ex:=ex,fn:=λ _=>false,pn:=X.pn++pins,xe:=λ _ _=>False}
def lcN(X:Cx)(own:List Str)(fr:List Nat):List Str:=own++fr.map λ j=>X.N.getD j Str.empty
def lcS(k:Nat)(fr:List Nat)(σ:St):St:=List.replicate k none++fr.map λ j=>(σ[j]?).getD none
def aez(N:List Str)(sc:Scope)(fr:List Nat):Bool:=fr.all λ j=>match N[j]? with
 | some x=>sc.names.lookup x==some .free
 | none=>false
structure lI(X:Cx)(sc:Scope)(own:List Str)(fr:List Nat):Prop where
 kind:sc.kind=.function
 cell:∀ y∈sc.names,y.2 ≠ .cell
 free:∀ y∈sc.names,y.2=.free->(X.env.kindOf y.1=some .cell\/X.env.kindOf y.1=some .free)
 names:∀ y∈sc.names,y.2=.local->sc.names.lookup y.1=some .local
 fr:aez X.N sc fr=true
def PTs(X:Cx)(ifs:List Expr)(t:TT):Prop:=
 ∀ (pins:PN) (s:Shared) (σ:St) (H:Hp) (Q:Bool->Hp->Prop),Inv X pins σ H s->t σ H Q->wpAny (model X.prog X.w) X.A (qb ifs X.env) (TP X pins σ Q) X.xe s
def ahd:TT:=λ _ H Q=>Q true H
theorem abT:PTs X [] ahd:=λ _ _ _ H _ I h=>wpAny_tests_nil ⟨H,I,h⟩
theorem aaL(h:PT X c t):PTs X [c] t:=λ pins s σ H Q I q=>wpAny_tests_one (h pins s σ H Q I q)
theorem qL(h:aez N sc fr=true)(hj:j∈fr):∃ x,N[j]? =some x/\sc.names.lookup x=some .free:=by
 have q:=List.all_eq_true.mp h j hj;cases e:N[j]? with
 | none=>simp[e] at q
 | some x =>
  simp only[e] at q;exact⟨x,rfl,eq_of_beq q⟩
theorem aem(L:lI X sc own fr)(I:Inv X pins σ H s)(hf:∀ b∈fp,jd X pins H b)(hb:∀ b∈fp,b<s.heap.objs.size)(hC:s.heap.objs.size<=C)
  (c1:∀ n c,cl.lookup n=some c->X.env.cells.lookup n=some c)(c2:∀ n,(n,NameKind.free)∈sc.names->∃ c,cl.lookup n=some c):(blk X sc (lcN X own fr) cl C s H fp pins).Ok where
 mod:=I.ok.mod
 kind:=L.kind
 glob:=I.ok.glob
 blt:=I.ok.blt
 above:=hC
 inj:=λ x y c a b=>I.ok.inj x y c (c1 _ _ a) (c1 _ _ b)
 has:=λ x hx=>c2 x (ix (sc:=sc) (env:=X.env) hx L.cell)
 cab:=λ x c z=>absurd (show false=true from z) Bool.false_ne_true
 hd:=I.ok.hd
 frames:=I.ok.frames
 stk:=.inl rfl
 exf:=λ b z=>⟨Nat.ne_of_lt (Nat.lt_of_lt_of_le (hb b z) hC),λ x c e=>(hf b z).2.2.2.2.1 x c (c1 _ _ e)⟩
 bs:=I.bs
 bsz:=Nat.le_trans I.ok.bsz I.sz
 noex:=λ b o e z=>by
  rcases(hf b z).2.2.2.1 with q | q
  ·exact I.ok.noex b o e q
  ·exact absurd (Nat.lt_of_lt_of_le (Heap.lt_size e) (Nat.le_trans I.ok.bsz q)) (Nat.lt_irrefl _)
 exfs:=λ b z q=>by
  rcases List.mem_cons.mp (I.iO b q) with e | e
  ·exact(hf b z).2.1 e
  ·exact(hf b z).2.2.1 e
 oZ:=I.stack
 frf:=I.o6
theorem vJ(L:lI X sc own fr)(I:Inv X pins σ H s)(hf:∀ b∈fp,jd X pins H b)(hb:∀ b∈fp,b<s.heap.objs.size)(hC:s.heap.objs.size<=C)
  (c1:∀ n c,cl.lookup n=some c->X.env.cells.lookup n=some c)(c2:∀ n,(n,NameKind.free)∈sc.names->∃ c,cl.lookup n=some c)
(hn:h1.Ns C m) (k:∀ b o,s.heap.get? b=some o->h1.get? b=some o) :
  Inv (blk X sc (lcN X own fr) cl C s H fp pins) [] (lcS own.length fr σ) H {s with heap:=h1,toks:=tk}:=by
 have ok:=aem L I hf hb hC c1 c2;refine⟨ok,rfl,I.bare,Un.kept k,⟨m,hn,λ i x v e1 e2 e3=>?_⟩,λ x c e=>?_,I.hok.fresh hC,λ x c e=>I.freeC x c (c1 _ _ e),λ p hp=>?_,I.hok.kept k,?_⟩
 ·-- one of the names around
  have hi:¬ i<own.length:=λ hi=>by
   unfold lcS at e2;rw[List.getElem?_append_left (by simpa using hi),List.getElem?_replicate] at e2
   split at e2<;>cases e2
  have e1':(lcN X own fr)[i]? =some x:=e1;unfold lcN at e1';unfold lcS at e2;rw[List.getElem?_append_right (by omega),List.getElem?_map] at e1';rw[List.getElem?_append_right (by simpa using hi),List.getElem?_map,List.length_replicate] at e2;cases q:fr[i-own.length]? with
  | none=>rw[q] at e1';cases e1'
  | some j =>
   rw[q] at e1' e2;obtain⟨y,hy,hyf⟩:=qL L.fr (List.mem_of_getElem? q);have ex:y=x:=by have:=Option.some.inj e1';rw[<- this];simp[List.getD,hy]
   subst ex;have ev:σ[j]? =some (some v):=by
    have z:(σ[j]?).getD none=some v:=Option.some.inj e2;cases w:σ[j]? with
    | none=>rw[w] at z;cases z
    | some o=>rw[w] at z;exact congrArg some z
   have hm:(y,NameKind.free)∈sc.names:=PySem.mem_of_lookup hyf;have hk:=L.free _ hm rfl;have vis:Vis X.env.scope y:=by
    rcases hk with z | z
    ·exact .inr (.inl z)
    ·exact .inr (.inr z)
   obtain⟨m0,hn0,hl⟩:=I.loc;obtain⟨u,r,l⟩:=hl j y v hy ev vis;refine⟨u,r,.inr ⟨?_,?_⟩⟩
   ·exact dw (env:=X.env) hyf
   ·obtain⟨c,hc⟩:=c2 y hm;rcases l with ⟨z,_⟩ | ⟨_,c',hc',hcell⟩
    ·rcases hk with q | q
     ·exact absurd (show X.env.kindOf y=some .local from z) (by rw[q];decide)
     ·exact absurd (show X.env.kindOf y=some .local from z) (by rw[q];decide)
    ·have:c=c':=Option.some.inj ((c1 _ _ hc).symm.trans hc');subst this;obtain⟨o,ho,hd⟩:=hcell;exact⟨c,hc,o,k _ _ ho,hd⟩
 ·obtain⟨v,o,ho,hd⟩:=I.cell x c (c1 _ _ e);exact⟨v,o,k _ _ ho,hd⟩
 ·have hp':p∈X.pn++pins:=by simpa [blk] using hp
  obtain⟨a1,a2,a3,a4,a5⟩:=I.pin p hp';refine⟨k _ _ a1,a2,Nat.ne_of_lt (Nat.lt_of_lt_of_le (Heap.lt_size a1) hC),λ q=>?_,a5⟩;rcases List.mem_cons.mp (I.iO _ q) with e | e
  ·exact a3 e
  ·exact a4 e
 ·show(lcS own.length fr σ).length=(lcN X own fr).length;simp[lcS,lcN]
abbrev LcW:=Nat->Nat->List V->St->Hp->Prop
def y6(J:It)(g:TG)(tt:TT)(te:TE)(W:LcW)(Fin:List V->Hp->Prop):Prop:=∀ i m ys τ H,W i m ys τ H ->
 (J.stop i H/\Fin ys H)\/(J.go i H/\ys.length<sizeLine/\∀ x H',J.yld i H x H'->g x τ H' λ τ2 H2=>tt τ2 H2 λ b H3 =>
  if b=true then te τ2 H3 λ y H4=>∃ m',m'<m/\W (i+1) m' (ys++[y]) τ2 H4 else ∃ m',m'<m/\W (i+1) m' ys τ2 H3)
section
variable {X:Cx}{pins:PN}{σ:St}{H:Hp}{s:Shared}{sc:Scope}{own:List Str}{fr:List Nat}{cl:List (Str×Addr)}{fp:List Addr}{it:Addr}{J:It}{tn:Nat->Heap->Prop}{g:TG}{tt:TT}{te:TE}{W:LcW}{Fin:List V->Hp->Prop}
 {elt tg iter:Expr}{ifs:List Expr}{pos:Pos}{E:VP}
theorem uN{RR:Value->Addr->Result->Shared->Prop}(hc:X.calm=true)(L:lI X sc own fr)(hcl1:∀ n c,cl.lookup n=some c->X.env.cells.lookup n=some c)(hcl2:∀ n,(n,NameKind.free)∈sc.names->∃ c,cl.lookup n=some c)
  (hg:∀ C s H ex pl,PG (blk X sc (lcN X own fr) cl C s H ex pl) tg g)(ht:∀ C s H ex pl,PTs (blk X sc (lcN X own fr) cl C s H ex pl) ifs tt)(he:∀ C s H ex pl,PE (blk X sc (lcN X own fr) cl C s H ex pl) elt te)
  (I:Inv X pins σ H s)(T:Turn X.prog X.w X.K tg J fp it tn)(st:tn 0 s.heap)(hf:∀ b∈fp,jd X pins H b)(w0:∃ m,W 0 m [] (lcS own.length fr σ) H)(turn:y6 J g tt te W Fin)
  (hRR:∀ (D C:Addr) (s':Shared) (H':Hp) (ys:List V) (us:List Value) (n:Nat) (m:Str->Option Value),Inv X pins σ H' s'->s'.heap.get? D=some {cls:=.type "list",data:=.seq us.toArray n}->Vals ys us->ys.length<=sizeLine->H' D=none->H' C=none ->
   s.heap.objs.size<=D->s.heap.objs.size<=C->D≠C->s'.heap.Ns C m->Fin ys H'->RR (.ref D) C (.ok .next) s') :
  wpAny (model X.prog X.w) X.A (newList []) (λ acc s₃=>wpAny (model X.prog X.w) X.A (newFunctionEnv sc X.env.globals cl [] X.env.qual none .none (some X.env)) (λ cenv s₄ =>
   codeAny (model X.prog X.w) X.A (.compStart (.ListComp elt [⟨tg,iter,ifs,0⟩] sc pos) 0 (.ref it) acc {cenv with scope:=relabel sc X.env}) (RR acc cenv.locals) s₄) E s₃) E s:=by
 refine wpAny_newObj_type (wpAny_newFunctionEnv L.cell (by intro y hy;simp at hy) (λ h₁ hns₁ hsb₁=>?_) L.kind);dsimp only at hns₁ hsb₁ ⊢;generalize hH2:s.heap.push {cls:=.type "list",dict:=none,data:=.seq ([]:List Value).toArray}=H2 at hns₁ hsb₁ ⊢;have hCs:H2.objs.size=s.heap.objs.size+1:=by rw[<- hH2,Heap.size_push]
 have hD0:s.heap.objs.size≠H2.objs.size:=by rw[hCs];exact Nat.ne_of_lt (Nat.lt_succ_self _)
 have hCle:s.heap.objs.size<=H2.objs.size:=by rw[hCs];exact Nat.le_succ _
 have below:∀ b,b<s.heap.objs.size->b≠H2.objs.size/\b≠s.heap.objs.size:=λ b hb=>⟨by rw[hCs];exact Nat.ne_of_lt (Nat.lt_succ_of_lt hb),Nat.ne_of_lt hb⟩;have old:∀ b o,s.heap.get? b=some o->h₁.get? b=some o:=λ b o e=>hsb₁.extBut b o (below b (Heap.lt_size e)).1 (Heap.get?_push_of_some _ (hH2 ▸ Heap.get?_push_of_some _ e));have hacc:h₁.get? s.heap.objs.size=some {cls:=.type "list",data:=.seq ([]:List Value).toArray 0}:=hsb₁.extBut _ _ hD0 (Heap.get?_push_of_some _ (hH2 ▸ Heap.get?_push_size _ rfl));have hfb:∀ b∈fp,b<s.heap.objs.size:=λ b hb=>by obtain⟨o,e,_⟩:=T.obj 0 _ st b hb;exact Heap.lt_size e
 have I1:Inv (blk X sc (lcN X own fr) cl H2.objs.size s H fp pins) [] (lcS own.length fr σ) H {s with heap:=h₁,toks:=s.toks+([]:List (Str×Value)).length}:=vJ L I hf hfb hCle hcl1 hcl2 hns₁ old;have st1:tn 0 h₁:=T.keep 0 _ _ st λ b _ o e=>old b o e;generalize hY:blk X sc (lcN X own fr) cl H2.objs.size s H fp pins=Y at I1;have hYp:Y.prog=X.prog:=by rw[<- hY];rfl
 have hYw:Y.w=X.w:=by rw[<- hY];rfl
 have hYK:Y.K=X.K:=by rw[<- hY];rfl
 have hYA:Y.A=X.A:=by rw[<- hY];rfl
 have hYc:Y.calm=true:=by rw[<- hY];exact hc
 have hYe:Y.env=compEnvC sc cl H2.objs.size X.env:=by rw[<- hY];rfl
 have hYx:Y.xe=λ _ _=>False:=by rw[<- hY];rfl
 have hYpn:Y.pn=X.pn++pins:=by rw[<- hY];rfl
 have hYs:Y.s₀=s:=by rw[<- hY];rfl
 have hYH:Y.H₀=H:=by rw[<- hY];rfl
 have hYex:Y.ex=fp:=by rw[<- hY];rfl
 have hYfs:Y.fs=frs X.stack:=by rw[<- hY];rfl
 have gY:=hg H2.objs.size s H fp pins;have tY:=ht H2.objs.size s H fp pins;have eY:=he H2.objs.size s H fp pins;rw[hY] at gY tY eY;have D_pin:∀ p∈Y.pn++([]:PN),p.1≠s.heap.objs.size:=λ p hp=>by rw[hYpn,List.append_nil] at hp;exact(below _ (Heap.lt_size (I.pin p hp).1)).2
 have D_cell:∀ x c,Y.env.cells.lookup x=some c->c≠s.heap.objs.size:=λ x c e=>by rw[hYe] at e;obtain⟨v,z⟩:=I.cell x c (hcl1 _ _ e);exact(below _ z.lt).2
 have D_loc:s.heap.objs.size≠Y.env.locals:=by rw[hYe];exact hD0
 have D_fs:s.heap.objs.size ∉ Y.fs:=by
  rw[hYfs];intro z;rcases List.mem_cons.mp (I.iO _ z) with e | e
  ·exact absurd I.lt (by rw[<- e];exact Nat.lt_irrefl _)
  ·exact I.agW (Nat.le_refl _) e
 have fpY:∀ {H':Hp} (pl:PN),(∀ b∈fp,H' b=none)->(∀ p∈pl,p.1=s.heap.objs.size)->∀ b∈fp,jd Y pl H' b:=λ {H'} pl hn hp b hb=>by
  obtain⟨_,f1,f2,f3,f4,f5⟩:=hf b hb;refine⟨hn b hb,by rw[hYe];exact(below b (hfb b hb)).1,?_,.inl (by rw[hYex];exact hb),λ x c e=>?_,λ p q=>?_⟩
  ·rw[hYfs];intro z;rcases List.mem_cons.mp (I.iO _ z) with e | e
   ·exact f1 e
   ·exact f2 e
  ·rw[hYe] at e;exact f4 x c (hcl1 _ _ e)
  ·rcases List.mem_append.mp q with z | z
   ·rw[hYpn] at z;exact f5 p z
   ·rw[hp p z];exact Ne.symm (below b (hfb b hb)).2
 have loop:∀ s₃:Shared,s₃={s with heap:=h₁,toks:=s.toks+([]:List (Str×Value)).length} ->
   codeAny (model X.prog X.w) X.A (.compLoop (.ListComp elt [⟨tg,iter,ifs,0⟩] sc pos) 0 (.ref it) (.ref s.heap.objs.size) (compEnvC sc cl H2.objs.size X.env)) (RR (.ref s.heap.objs.size) H2.objs.size) s₃:=by
  rintro s₃ rfl;obtain⟨m0,w0⟩:=w0;refine nL (λ n s'=>∃ i ys τ H' us k,Inv Y [] τ H' s'/\tn i s'.heap/\(∀ b∈fp,H' b=none)/\H' s.heap.objs.size=none/\s'.heap.get? s.heap.objs.size=some {cls:=.type "list",data:=.seq us.toArray k}/\Vals ys us/\ys.length<=sizeLine/\W i n ys τ H') ?_ m0
   ⟨0,[],_,H,[],0,I1,st1,λ b hb=>(hf b hb).1,I.hok.fresh (Nat.le_refl _),hacc,.nil,Nat.zero_le _,w0⟩
  rintro n s' ⟨i,ys,τ,H',us,k,I',st',hn',hD',ha',hv',hz',w'⟩;have Ip:Inv Y [(s.heap.objs.size,{cls:=.type "list",data:=.seq us.toArray k})] τ H' s':=I'.dY λ p hp=>by
   have e:p=(s.heap.objs.size,{cls:=.type "list",data:=.seq us.toArray k}):=by simpa using hp
   subst e;exact⟨ha',hD',D_loc,D_fs,λ v z=>nomatch (show Data.seq _ _=Data.cell v from z)⟩
  have onlyD:∀ p∈[((s.heap.objs.size,{cls:=.type "list",data:=.seq us.toArray k}):Addr×Obj)],p.1=s.heap.objs.size:=λ p hp=>by
   have e:p=(s.heap.objs.size,{cls:=.type "list",data:=.seq us.toArray k}):=by simpa using hp
   subst e;rfl
  rcases turn i n ys τ H' w' with ⟨stop,fin⟩ | ⟨go,hlen,step⟩
  ·have q:=T.done Y hYp hYw hYK hYc i _ s' τ H' (λ _ _=>False) Ip (fpY _ hn' onlyD) st' stop;rw[hYA] at q;refine thn q λ r s4 hq26=>?_;obtain⟨hr,I4⟩:=hq26;subst hr;have un:Un (frs X.stack) fp H H' s.heap s4.heap:=by have z:=I4.base;rw[hYfs,hYex,hYH,hYs] at z;exact z
   have os4:s4.os=s.os:=by have z:=I4.os;rw[hYs] at z;exact z
   have hok4:HOk X.prog X.w H' s4.heap:=by have z:=I4.hok;rw[hYp,hYw] at z;exact z
   have hch:∀ b∈fp,(b∈X.ex\/X.s₀.heap.objs.size<=b)/\b≠X.env.locals/\(∀ x c,X.env.cells.lookup x=some c->c≠b)/\∀ p∈X.pn++pins,p.1≠b:=λ b hb=>by obtain⟨_,f1,f2,f3,f4,f5⟩:=hf b hb;exact⟨f3,f1,f4,f5⟩
   have IX:Inv X pins σ H' s4:=I.acK os4 un hok4 I4.bare hch;obtain⟨mC,hmC,_⟩:=I4.loc;have hCf:=I4.free;rw[hYe] at hmC hCf;have pD:=I4.pin (s.heap.objs.size,{cls:=.type "list",data:=.seq us.toArray k}) (List.mem_append_right _ (List.mem_singleton.mpr rfl));exact hRR _ _ s4 H' ys us k mC IX pD.1 hv' hz' pD.2.1 hCf (Nat.le_refl _) hCle hD0 hmC fin
  ·have q:=T.item Y hYp hYw hYK hYc i _ s' τ H' (λ _ _=>False) Ip (fpY _ hn' onlyD) st' go;rw[hYA] at q;refine thn q λ r s4 hq27=>?_;obtain⟨u,hr,h4⟩:=hq27;subst hr;refine thn h4 λ _ s5 hq28=>?_;obtain⟨x,H5,I5,r5,y5,st5,fr5⟩:=hq28;have I5':=I5.pinned (fpY _ fr5 onlyD) (T.obj _ _ st5);have g5:=gY _ s5 τ H5 x u _ I5' r5 (step x H5 y5);rw[hYp,hYw,hYA,hYe,hYx] at g5;refine thn g5 λ _ s6 hq29=>?_;obtain⟨σ6,H6,I6,q6⟩:=hq29;have t6:=tY _ s6 σ6 H6 _ I6 q6;rw[hYp,hYw,hYA,hYe,hYx] at t6;refine thn t6 λ ok s7 hq30=>?_;obtain⟨H7,I7,q7⟩:=hq30;have keepD:∀ {σ8:St} {H8:Hp} {s8:Shared},Inv Y ([(s.heap.objs.size,{cls:=.type "list",data:=.seq us.toArray k})]++jQ fp s5.heap) σ8 H8 s8->s8.heap.get? s.heap.objs.size=some {cls:=.type "list",data:=.seq us.toArray k}/\H8 s.heap.objs.size=none:=
    λ {σ8 H8 s8} I8=>by have pD:=I8.pin (s.heap.objs.size,{cls:=.type "list",data:=.seq us.toArray k}) (List.mem_append_right _ (List.mem_append_left _ (List.mem_singleton.mpr rfl)));exact⟨pD.1,pD.2.1⟩
   have keepI:∀ {σ8:St} {H8:Hp} {s8:Shared},Inv Y ([(s.heap.objs.size,{cls:=.type "list",data:=.seq us.toArray k})]++jQ fp s5.heap) σ8 H8 s8->tn (i+1) s8.heap/\∀ b∈fp,H8 b=none:=
    λ {σ8 H8 s8} I8=>by refine⟨T.keep _ _ _ st5 λ b hb o e=>(I8.pin (b,o) (List.mem_append_right _ (List.mem_append_right _ (dm hb e)))).1,λ b hb=>?_⟩;obtain⟨o,e,d⟩:=T.obj _ _ st5 b hb;exact(I8.pin (b,o) (List.mem_append_right _ (List.mem_append_right _ (dm hb e)))).2.1
   cases ok with
   | false =>
    rw[if_neg Bool.false_ne_true] at q7 ⊢;obtain⟨m',hm',w7⟩:=q7;obtain⟨a7,b7⟩:=keepD I7;obtain⟨c7,d7⟩:=keepI I7;exact⟨m',hm',i+1,ys,σ6,H7,us,k,I7.dY (λ p hp=>(nomatch hp)),c7,d7,b7,a7,hv',hz',w7⟩
   | true =>
    rw[if_pos rfl] at q7 ⊢;have e7:=eY _ s7 σ6 H7 _ I7 q7;rw[hYp,hYw,hYA,hYe,hYx] at e7;refine thn e7 λ v s8 hq31=>?_;obtain⟨y,H8,I8,r8,m',hm',w8⟩:=hq31;obtain⟨a8,b8⟩:=keepD I8;obtain⟨c8,d8⟩:=keepI I8;have hl:=hv'.length;refine call_meets F.slot_list_append ⟨_,a8,rfl⟩ F.entry_list_append (F.args_list_append_2 _ _) (PySem.list_append s.heap.objs.size us.toArray k v (by rw[List.size_toArray];omega)) ⟨a8,?_⟩;have qu:=PySem.IsL.update a8 (λ xs=>xs.push v);have I9:=(I8.dY (pins':=[]) λ p hp=>nomatch hp).turned (it:=s.heap.objs.size) (t':=s8.toks) (h':=s8.heap.update s.heap.objs.size (Obj.mapSeq λ xs=>xs.push v)) (λ b o hb e=>(Heap.get?_update_other s8.heap _ (Ne.symm hb)).trans e) b8 D_loc (.inr (by rw[hYs];exact Nat.le_refl _)) D_cell D_pin;have ep:us.toArray.push v=(us++[v]).toArray:=by simp
    rw[ep] at qu;refine⟨m',hm',i+1,ys++[y],σ6,H8,us++[v],(if (us++[v]).toArray.size==us.toArray.size then k else k+1),I9,T.keep _ _ _ c8 λ b hb o e=>(Heap.get?_update_other s8.heap _ (Ne.symm (below b (hfb b hb)).2)).trans e,d8,b8,?_,hv'.append (.cons r8 .nil),?_,w8⟩
    ·exact qu
    ·rw[List.length_append,List.length_singleton];omega
 exact codeAny_compStart_list (loop _ rfl) (T.self _ 0 _ _ _ st1 (loop _ rfl))
def tLC(wi:TI)(g:TG)(tt:TT)(te:TE)(k:Nat)(fr:List Nat):TE:=λ σ H Q=>wi σ H λ J H1=>∃ W:LcW,(∃ m,W 0 m [] (lcS k fr σ) H1)/\y6 J g tt te W λ ys H2=>∀ p,H2 p=none->Q (.ref p) (upd H2 p (.lst ys))
theorem hX(L:lI X sc own fr)(ok:X.Ok):∃ cl,closureFor sc X.env=pure cl/\(∀ n c,cl.lookup n=some c->X.env.cells.lookup n=some c)/\(∀ n,(n,NameKind.free)∈sc.names->∃ c,cl.lookup n=some c):=
 iE λ x hx hf=>ok.has x.1 (L.free x hx hf)
theorem aeV(hc:X.calm=true)(L:lI X sc own fr)(hi:PI X tg iter wi)
  (hg:∀ cl C s H ex pl,PG (blk X sc (lcN X own fr) cl C s H ex pl) tg g)(ht:∀ cl C s H ex pl,PTs (blk X sc (lcN X own fr) cl C s H ex pl) ifs tt)(he:∀ cl C s H ex pl,PE (blk X sc (lcN X own fr) cl C s H ex pl) elt te)
  (hs:∀ x,foldedSetIterable iter X.env x=pure x:=by intro _;rfl):PE X (.ListComp elt [⟨tg,iter,ifs,0⟩] sc pos) (tLC wi g tt te own.length fr):=by
 intro pins s σ H Q I h;obtain⟨cl,hcl,c1,c2⟩:=hX L I.ok;rw[eval_ListComp];refine wpAny_comprehension_free (use:=none) (g:=⟨tg,iter,ifs,0⟩) (gs:=[]) rfl hs hcl L.kind L.names ?_;refine thn (hi pins s σ H _ I h) λ v s1 h1=>thn h1 λ itv s2 h2=>?_;obtain⟨it,fp,tn,J,H2,e,I2,T,st2,f2,W,w0,turn⟩:=h2;subst e;refine uN (cl:=cl) hc L c1 c2 (hg cl) (ht cl) (he cl) I2 T st2 f2 w0 turn λ D C s' H' ys us n m I' a' hv hz hD hC dD dC hDC hns fin=>?_;refine⟨m,hns,λ h' sb=>?_⟩;have far:∀ b,s2.heap.objs.size<=b->(X.s₀.heap.objs.size<=b)/\b≠X.env.locals/\(∀ x c,X.env.cells.lookup x=some c->c≠b)/\∀ p∈X.pn++pins,p.1≠b:=λ b hb=>by obtain⟨_,f1,_,f3,f4,f5⟩:=I2.pf (H':=λ _=>none) hb rfl;refine⟨Nat.le_trans I2.sz hb,f1,f4,f5⟩
 obtain⟨z1,z2,z3,z4⟩:=far C dC;obtain⟨y1,y2,y3,y4⟩:=far D dD;have I3:Inv X pins σ H' {s' with heap:=h'}:=I'.turned (t':=s'.toks) (λ b o hb e=>sb.extBut b o hb e) hC z2 (.inr z1) z3 z4;exact⟨.ref D,_,I3.yF (sb.extBut _ _ hDC a') hD hv hz y1 y2 y3 y4,rfl,fin D hD⟩
theorem yB(hN:X.N.Nodup)(hi':X.N[i]? =some x)(hx:Loc X.env.scope x)(hc:X.calm=true)(L:lI X sc own fr)(hi:PI X tg iter wi)
  (hg:∀ cl C s H ex pl,PG (blk X sc (lcN X own fr) cl C s H ex pl) tg g)(ht:∀ cl C s H ex pl,PTs (blk X sc (lcN X own fr) cl C s H ex pl) ifs tt)(he:∀ cl C s H ex pl,PE (blk X sc (lcN X own fr) cl C s H ex pl) elt te)
  (hsw:swapsWith (.ListComp elt [⟨tg,iter,ifs,0⟩] sc pos) (some (.Name x pos')) spos.line X.env=pure true:=by rfl)
  (hs:∀ x,foldedSetIterable iter X.env x=pure x:=by intro _;rfl)(hf:X.fn x=true\/X.env.scope.names.lookup x=some .local:=by first | exact .inl rfl | exact .inr rfl | assumption) :
  PS X (.Assign [.Name x pos'] (.ListComp elt [⟨tg,iter,ifs,0⟩] sc pos) spos) (afd (tLC wi g tt te own.length fr) (aa8 i)):=by
 intro pins s σ H D' I h;obtain⟨cl,hcl,c1,c2⟩:=hX L I.ok;rw[exec_Assign_Name_used _ _ _ _ hsw];refine wpAny_bind (wpAny_standAt (wpAny_bind ?_));show wpAny _ _ (evalThenUse (.ListComp elt [⟨tg,iter,ifs,0⟩] sc pos) X.env (assign (.Name x pos') X.env)) _ _ _;unfold evalThenUse;refine wpAny_bind ?_;refine wpAny_comprehension_free (use:=some (assign (.Name x pos') X.env)) (g:=⟨tg,iter,ifs,0⟩) (gs:=[]) rfl hs hcl L.kind L.names ?_;refine thn (hi pins s σ H _ I h) λ v s1 h1=>thn h1 λ itv s2 h2=>?_;obtain⟨it,fp,tn,J,H2,e,I2,T,st2,f2,W,w0,turn⟩:=h2;subst e;refine uN (cl:=cl) hc L c1 c2 (hg cl) (ht cl) (he cl) I2 T st2 f2 w0 turn λ D C s' H' ys us n m I' a' hv hz hD hC dD dC hDC hns fin=>?_;have far:∀ b,s2.heap.objs.size<=b->(X.s₀.heap.objs.size<=b)/\b≠X.env.locals/\(∀ x c,X.env.cells.lookup x=some c->c≠b)/\(b ∉ X.fs)/\∀ p∈X.pn++pins,p.1≠b:=λ b hb=>by obtain⟨_,f1,f2,f3,f4,f5⟩:=I2.pf (H':=λ _=>none) hb rfl;refine⟨Nat.le_trans I2.sz hb,f1,f4,f2,f5⟩
 obtain⟨z1,z2,z3,z0,z4⟩:=far C dC;obtain⟨y1,y2,y3,_,y4⟩:=far D dD;have I3:=I'.yF a' hD hv hz y1 y2 y3 y4;obtain⟨oC,hoC,nsC⟩:∃ o,s'.heap.get? C=some o/\∃ es ep,o.data=.dict es ep:=by obtain⟨o,es,ep,e1,e2,_⟩:=hns;exact⟨o,e1,es,ep,e2⟩
 have hCt:(upd H' D (.lst ys)) C=none:=by rw[ah (Ne.symm hDC)];exact hC
 have I4:Inv X (pins++[(C,oC)]) σ (upd H' D (.lst ys)) s':=I3.dY λ p hp=>by
  rcases List.mem_append.mp hp with z | z
  ·exact I3.pin p (List.mem_append_right _ z)
  ·have e:p=(C,oC):=by simpa using z
   subst e;obtain⟨es,ep,hd⟩:=nsC;exact⟨hoC,hCt,z2,z0,λ v z=>by have z':oC.data=.cell v:=z;rw[hd] at z';cases z'⟩
 refine thn (uk (pos:=pos') hN hi' hx hf _ s' σ _ (.ref D) (.ref D) _ I4 rfl (fin D hD)) λ _ s5 hq32=>?_;obtain⟨σ5,H5,I5,q5⟩:=hq32;have pC:=I5.pin (C,oC) (List.mem_append_right _ (List.mem_append_right _ (List.mem_singleton.mpr rfl)));obtain⟨o,es,ep,e1,e2,e3⟩:=hns;rw[hoC] at e1;cases e1;refine⟨m,⟨oC,es,ep,pC.1,e2,e3⟩,λ h' sb=>?_⟩;have I6:Inv X pins σ5 H5 {s5 with heap:=h'}:=(I5.i8).turned (t':=s5.toks) (λ b o hb e=>sb.extBut b o hb e) pC.2.1 z2 (.inr z1) z3 z4;exact wpAny_pure (wpAny_pure ⟨σ5,H5,I6,q5⟩)
end
end L2
namespace D
open L2
abbrev St:=L2.St
structure Kp(H H':Hp):Prop where
 tup:∀ b xs,H b=some (.tup xs)->H' b=some (.tup xs)
 frz:∀ b o u,H b=some (.frz o u)->H' b=some (.frz o u)
theorem Kp.refl(H:Hp):Kp H H:=⟨λ _ _ e=>e,λ _ _ _ e=>e⟩
theorem Kp.trans(a:Kp H H1)(b:Kp H1 H2):Kp H H2:=⟨λ c xs e=>b.tup c xs (a.tup c xs e),λ c o u e=>b.frz c o u (a.frz c o u e)⟩
theorem Kp.new(h:H p=none):Kp H (upd H p o):=⟨λ b xs e=>by rw[ah (aF e h)];exact e,λ b ob u e=>by rw[ah (aF e h)];exact e⟩
theorem Kp.set(h:H p=some u)(ht:∀ xs,u ≠ .tup xs)(hf:∀ ob v,u ≠ .frz ob v):Kp H (upd H p o):=
 ⟨λ b xs e=>by rw[ah (sh e h λ z=>ht _ z.symm)];exact e,λ b ob v e=>by rw[ah (sh e h λ z=>hf _ _ z.symm)];exact e⟩
def SqF(K:FG)(H:Hp)(a:Addr)(xs:List V):Prop:=
 (∃ o,H a=some (.frz o (.lst xs)))\/∃ (o:Obj) (its:Array Value) (n:Nat),K.lookup a=some o/\o.cls=.type "list" /\ o.dict=none/\o.data=.seq its n/\its.size<=sizeLine/\Vals xs its.toList
theorem SqF.sq{K:FG}{H:Hp}{a:Addr}{xs:List V}(h:SqF K H a xs):SqL K H a xs:=by
 rcases h with h | h
 ·exact .inl (.inr h)
 ·exact .inr h
theorem SqF.keep{K:FG}{H H':Hp}{a:Addr}{xs:List V}(k:Kp H H')(h:SqF K H a xs):SqF K H' a xs:=by
 rcases h with ⟨o,h⟩ | h
 ·exact .inl ⟨o,k.frz _ _ _ h⟩
 ·exact .inr h
theorem SqT.keep{K:FG}{H H':Hp}{a:Addr}{xs:List V}(k:Kp H H')(h:SqT K H a xs):SqT K H' a xs:=by
 rcases h with (h | ⟨o,h⟩) | h
 ·exact .inl (.inl (k.tup _ _ h))
 ·exact .inl (.inr ⟨o,k.frz _ _ _ h⟩)
 ·exact .inr h
def mX:Key->PyData
 | .inl i=>.int i
 | .inr x=>.str x
mutual
def ay(K:FG)(H:Hp):PyData->V->Prop
 | .none,v=>v=.non
 | .bool b,v=>v=.bl b
 | .int i,v=>v=.int i
 | .str x,v=>v=.str x
 | .list ds,v=>∃ a vs,v=.ref a/\SqF K H a vs/\aQ K H ds vs
 | .tuple ds,v=>∃ a vs,v=.ref a/\SqT K H a vs/\aQ K H ds vs
 | .dict kvs,v=>∃ a o l,v=.ref a/\H a=some (.frz o (.dK l))/\fY K H kvs l
def aQ(K:FG)(H:Hp):List PyData->List V->Prop
 | [],vs=>vs=[]
 | d::ds,vs=>∃ v r,vs=v::r/\ay K H d v/\aQ K H ds r
def fY(K:FG)(H:Hp):List (PyData×PyData)->List (Key×V)->Prop
 | [],l=>l=[]
 | (k,d)::ds,l=>∃ key v r,l=(key,v)::r/\k=mX key/\ay K H d v/\fY K H ds r
end
mutual
theorem ay.keep{K:FG}{H H':Hp}(k:Kp H H'):∀ {d:PyData} {v:V},ay K H d v->ay K H' d v
 | .none,v,h=>by simp only[ay] at h ⊢;exact h
 | .bool b,v,h=>by simp only[ay] at h ⊢;exact h
 | .int i,v,h=>by simp only[ay] at h ⊢;exact h
 | .str x,v,h=>by simp only[ay] at h ⊢;exact h
 | .list ds,v,h=>by simp only[ay] at h ⊢;obtain⟨a,vs,e,s,r⟩:=h;exact⟨a,vs,e,s.keep k,aQ.keep k r⟩
 | .tuple ds,v,h=>by simp only[ay] at h ⊢;obtain⟨a,vs,e,s,r⟩:=h;exact⟨a,vs,e,SqT.keep k s,aQ.keep k r⟩
 | .dict kvs,v,h=>by simp only[ay] at h ⊢;obtain⟨a,o,l,e,s,r⟩:=h;exact⟨a,o,l,e,k.frz _ _ _ s,fY.keep k r⟩
theorem aQ.keep{K:FG}{H H':Hp}(k:Kp H H'):∀ {ds:List PyData} {vs:List V},aQ K H ds vs->aQ K H' ds vs
 | [],vs,h=>by simp only[aQ] at h ⊢;exact h
 | d::ds,vs,h=>by simp only[aQ] at h ⊢;obtain⟨v,r,e,h1,h2⟩:=h;exact⟨v,r,e,ay.keep k h1,aQ.keep k h2⟩
theorem fY.keep{K:FG}{H H':Hp}(k:Kp H H'):∀ {ds:List (PyData×PyData)} {l:List (Key×V)},fY K H ds l->fY K H' ds l
 | [],l,h=>by simp only[fY] at h ⊢;exact h
 | (key,d)::ds,l,h=>by simp only[fY] at h ⊢;obtain⟨k',v,r,e,ek,h1,h2⟩:=h;exact⟨k',v,r,e,ek,ay.keep k h1,fY.keep k h2⟩
end
theorem aQ.length{K:FG}{H:Hp}:∀ {ds:List PyData} {vs:List V},aQ K H ds vs->vs.length=ds.length
 | [],vs,h=>by simp only[aQ] at h;rw[h];rfl
 | d::ds,vs,h=>by simp only[aQ] at h;obtain⟨v,r,e,_,h2⟩:=h;rw[e,List.length_cons,List.length_cons,aQ.length h2]
theorem aQ.get{K:FG}{H:Hp}:∀ {ds:List PyData} {vs:List V} {i:Nat} {d:PyData},aQ K H ds vs->ds[i]? =some d->∃ v,vs[i]? =some v/\ay K H d v
 | [],_,_,_,_,e=>by simp at e
 | d::ds,vs,0,d',h,e=>by simp only[aQ] at h;obtain⟨v,r,ev,h1,_⟩:=h;simp at e;subst e;exact⟨v,by rw[ev];rfl,h1⟩
 | d::ds,vs,i+1,d',h,e=>by simp only[aQ] at h;obtain⟨v,r,ev,_,h2⟩:=h;obtain⟨v',e1,e2⟩:=aQ.get (i:=i) h2 (by simpa using e);exact⟨v',by rw[ev];simpa using e1,e2⟩
theorem aQ.get'{K:FG}{H:Hp}{ds:List PyData}{vs:List V}{i:Nat}{v:V}(h:aQ K H ds vs)(e:vs[i]? =some v):∃ d,ds[i]? =some d/\ay K H d v:=by
 have hi:i<ds.length:=by have:=(List.getElem?_eq_some_iff.mp e).1;rw[h.length] at this;exact this
 obtain⟨v',e1,r⟩:=h.get (i:=i) (d:=ds[i]) (by simp[hi]);rw[e] at e1;cases e1;exact⟨ds[i],by simp[hi],r⟩
theorem aQ.ints{K:FG}{H:Hp}:∀ (ns:List Int),aQ K H (ns.map PyData.int) (ns.map V.int)
 | []=>by simp[aQ]
 | n::ns=>by simp only[List.map_cons,aQ];exact⟨_,_,rfl,by simp[ay],aQ.ints ns⟩
theorem aQ.append{K:FG}{H:Hp}:∀ {ds es:List PyData} {vs us:List V},aQ K H ds vs->aQ K H es us->aQ K H (ds++es) (vs++us)
 | [],es,vs,us,h,q=>by simp only[aQ] at h;subst h;exact q
 | d::ds,es,vs,us,h,q=>by simp only[aQ] at h;obtain⟨v,r,e,h1,h2⟩:=h;subst e;simp only[List.cons_append,aQ];exact⟨v,r++us,rfl,h1,aQ.append h2 q⟩
theorem aQ.drop{K:FG}{H:Hp}:∀ {ds:List PyData} {vs:List V} (n:Nat),aQ K H ds vs->aQ K H (ds.drop n) (vs.drop n)
 | ds,vs,0,h=>by simpa using h
 | [],vs,n+1,h=>by simp only[aQ] at h;subst h;simp[aQ]
 | d::ds,vs,n+1,h=>by
  simp only[aQ] at h;obtain⟨v,r,e,_,h2⟩:=h;subst e
  simpa using aQ.drop n h2
theorem aQ.take{K:FG}{H:Hp}:∀ {ds:List PyData} {vs:List V} (n:Nat),aQ K H ds vs->aQ K H (ds.take n) (vs.take n)
 | ds,vs,0,h=>by simp[aQ]
 | [],vs,n+1,h=>by simp only[aQ] at h;subst h;simp[aQ]
 | d::ds,vs,n+1,h=>by simp only[aQ] at h;obtain⟨v,r,e,h1,h2⟩:=h;subst e;simp only[List.take_succ_cons,aQ];exact⟨v,_,rfl,h1,aQ.take n h2⟩
inductive W where
 | d (x:PyData)
 | m (a:Addr)
 | t (n:String)
inductive MO where
 | lst (ws:List W)
 | dic (kvs:List (Key×W))
 | dct (kvs:List (List Key×W))
 | fdic (kvs:List (Key×W))
 | fdct (kvs:List (List Key×W))
 | ins (C:Addr) (fs:List (Str×W))
 | tup (ws:List W)
 | flst (ws:List W)
 | exc (C:Addr) (fs:List (Str×W))
 | code (q:Str) (pos:Pos)
abbrev MH:=Addr->Option MO
def ax(M:MH)(a:Addr)(o:MO):MH:=λ b=>if b=a then some o else M b
theorem aa:ax M a o a=some o:=if_pos rfl
theorem ab(h:b≠a):ax M a o b=M b:=if_neg h
theorem jK:ax (ax M a o) a u=ax M a u:=by funext b;unfold ax;split<;>rfl
abbrev DS:=List (Option W)
def aA(K:FG)(H:Hp):W->V->Prop
 | .d x,v=>ay K H x v
 | .m a,v=>v=.ref a
 | .t n,v=>v=.ty n
theorem aA.keep{K:FG}{H H':Hp}(k:Kp H H'):∀ {w:W} {v:V},aA K H w v->aA K H' w v
 | .d _,_,h=>ay.keep k h
 | .m _,_,h=>h
 | .t _,_,h=>h
def aI(K:FG)(H:Hp):List W->List V->Prop:=Paired (aA K H)
theorem aI.keep{K:FG}{H H':Hp}(k:Kp H H'){ws:List W}{vs:List V}(h:aI K H ws vs):aI K H' ws vs:=Paired.fC h λ _ _ r=>r.keep k
theorem aI.length{K:FG}{H:Hp}{ws:List W}{vs:List V}(h:aI K H ws vs):ws.length=vs.length:=Paired.length h
theorem aI.get{K:FG}{H:Hp}:∀ {ws:List W} {vs:List V} {i:Nat} {w:W},aI K H ws vs->ws[i]? =some w->∃ v,vs[i]? =some v/\aA K H w v
 | _,_,_,_,.nil,e=>by simp at e
 | _,_,0,_,.cons r _,e=>by simp at e;subst e;exact⟨_,rfl,r⟩
 | _,_,i+1,_,.cons _ t,e=>by obtain⟨u,h1,h2⟩:=aI.get (i:=i) t (by simpa using e);exact⟨u,by simpa using h1,h2⟩
theorem aI.set{K:FG}{H:Hp}{w:W}{v:V}(r:aA K H w v):∀ {ws:List W} {vs:List V} (i:Nat),aI K H ws vs->aI K H (ws.set i w) (vs.set i v)
 | _,_,_,.nil=>.nil
 | _,_,0,.cons _ t=>.cons r t
 | _,_,i+1,.cons q t=>.cons q (aI.set r i t)
theorem aI.append{K:FG}{H:Hp}:∀ {ws ws':List W} {vs vs':List V},aI K H ws vs->aI K H ws' vs'->aI K H (ws++ws') (vs++vs')
 | _,_,_,_,.nil,s=>s
 | _,_,_,_,.cons r t,s=>.cons r (aI.append t s)
theorem aI.data{K:FG}{H:Hp}:∀ {ds:List PyData} {vs:List V},aI K H (ds.map W.d) vs->aQ K H ds vs
 | [],_,h=>by cases h;simp[aQ]
 | d::ds,_,h=>by
  cases h with
  | cons r t=>simp only[aQ];exact⟨_,_,rfl,r,aI.data t⟩
theorem aQ.ws{K:FG}{H:Hp}:∀ {ds:List PyData} {vs:List V},aQ K H ds vs->aI K H (ds.map W.d) vs
 | [],vs,h=>by simp only[aQ] at h;subst h;exact .nil
 | d::ds,vs,h=>by simp only[aQ] at h;obtain⟨v,r,e,h1,h2⟩:=h;subst e;exact .cons h1 (aQ.ws h2)
def abq(K:FG)(H:Hp)(a:Addr):MO->Prop
 | .lst ws=>∃ vs,H a=some (.lst vs)/\aI K H ws vs
 | .dic kvs=>∃ l,H a=some (.dK l)/\Paired (λ(p:Key×W) (q:Key×V)=>p.1=q.1/\aA K H p.2 q.2) kvs l
 | .fdic kvs=>∃ o l,H a=some (.frz o (.frz o (.dK l)))/\Paired (λ(p:Key×W) (q:Key×V)=>p.1=q.1/\aA K H p.2 q.2) kvs l
 | .dct kvs=>∃ l,H a=some (.dT l)/\Paired (λ(p:List Key×W) (q:List Key×V)=>p.1=q.1/\aA K H p.2 q.2) kvs l
 | .fdct kvs=>∃ o l,H a=some (.frz o (.dT l))/\Paired (λ(p:List Key×W) (q:List Key×V)=>p.1=q.1/\aA K H p.2 q.2) kvs l
 | .ins C fs=>∃ dx l,H a=some (.ins C dx l)/\Paired (λ(p:Str×W) (q:Str×V)=>p.1=q.1/\aA K H p.2 q.2) fs l
 | .tup ws=>∃ vs,H a=some (.tup vs)/\aI K H ws vs
 | .flst ws=>∃ o vs,H a=some (.frz o (.frz o (.lst vs)))/\aI K H ws vs
 | .exc C fs=>∃ φ dct,H a=some (.ext φ)/\(∀ h,φ h->∃ vs,h.get? a=some {cls:=.ref C,dict:=dct,data:=.fields vs}/\(fs=[]->vs[2]? =some .none)) /\
   ((dct=none/\fs=[])\/∃ dx o l,dct=some dx/\H dx=some (.frz o (.xd l))/\Paired (λ(p:Str×W) (q:Str×V)=>p.1=q.1/\aA K H p.2 q.2) fs l)
 | .code q pos=>∃ ps,H a=some (.tbl ps)/\TriplesOk ps.toList/\(codeAmong pos ps.toList=none\/∃ c o vs t,codeAmong pos ps.toList=some (.ref c)/\H c=some (.frz o (.own 0))/\o.data=.fields vs/\vs[1]? =some (.str q t))
def cB(K:FG)(H:Hp)(M:MH):Prop:=∀ a o,M a=some o->abq K H a o
theorem abq.is{K:FG}{H:Hp}{a:Addr}{o:MO}(h:abq K H a o):∃ u,H a=some u:=by
 cases o with
 | lst ws=>obtain⟨vs,e,_⟩:=h;exact⟨_,e⟩
 | dic kvs=>obtain⟨l,e,_⟩:=h;exact⟨_,e⟩
 | dct kvs=>obtain⟨l,e,_⟩:=h;exact⟨_,e⟩
 | fdic kvs=>obtain⟨o,l,e,_⟩:=h;exact⟨_,e⟩
 | fdct kvs=>obtain⟨o,l,e,_⟩:=h;exact⟨_,e⟩
 | ins C fs=>obtain⟨dx,l,e,_⟩:=h;exact⟨_,e⟩
 | tup ws=>obtain⟨vs,e,_⟩:=h;exact⟨_,e⟩
 | flst ws=>obtain⟨o,vs,e,_⟩:=h;exact⟨_,e⟩
 | exc C fs=>obtain⟨φ,dct,e,_⟩:=h;exact⟨_,e⟩
 | code q pos=>obtain⟨ps,e,_⟩:=h;exact⟨_,e⟩
theorem cB.free{K:FG}{H:Hp}{M:MH}(h:cB K H M){p:Addr}(e:H p=none):M p=none:=by
 cases q:M p with
 | none=>rfl
 | some o =>
  obtain⟨u,z⟩:=(h p o q).is;rw[e] at z;cases z
theorem abq.keep{K:FG}{H H':Hp}{a:Addr}{o:MO}(k:Kp H H')(s:∀ u,H a=some u->H' a=some u)(h:abq K H a o):abq K H' a o:=by
 cases o with
 | lst ws=>obtain⟨vs,e,r⟩:=h;exact⟨vs,s _ e,r.keep k⟩
 | dic kvs=>obtain⟨l,e,r⟩:=h;exact⟨l,s _ e,Paired.fC r λ p q z=>⟨z.1,z.2.keep k⟩⟩
 | dct kvs=>obtain⟨l,e,r⟩:=h;exact⟨l,s _ e,Paired.fC r λ p q z=>⟨z.1,z.2.keep k⟩⟩
 | fdic kvs=>obtain⟨o,l,e,r⟩:=h;exact⟨o,l,s _ e,Paired.fC r λ p q z=>⟨z.1,z.2.keep k⟩⟩
 | fdct kvs=>obtain⟨o,l,e,r⟩:=h;exact⟨o,l,s _ e,Paired.fC r λ p q z=>⟨z.1,z.2.keep k⟩⟩
 | ins C fs=>obtain⟨dx,l,e,r⟩:=h;exact⟨dx,l,s _ e,Paired.fC r λ p q z=>⟨z.1,z.2.keep k⟩⟩
 | tup ws=>obtain⟨vs,e,r⟩:=h;exact⟨vs,s _ e,r.keep k⟩
 | flst ws=>obtain⟨o,vs,e,r⟩:=h;exact⟨o,vs,s _ e,r.keep k⟩
 | exc C fs =>
  obtain⟨φ,dct,e,p,r⟩:=h;refine⟨φ,dct,s _ e,p,?_⟩;rcases r with r | ⟨dx,o,l,e1,e2,r⟩
  ·exact .inl r
  ·exact .inr ⟨dx,o,l,e1,k.frz _ _ _ e2,Paired.fC r λ p q z=>⟨z.1,z.2.keep k⟩⟩
 | code q pos =>
  obtain⟨ps,e,ht,hc⟩:=h;refine⟨ps,s _ e,ht,?_⟩;rcases hc with hc | ⟨c,o,vs,t,e1,e2,e3⟩
  ·exact .inl hc
  ·exact .inr ⟨c,o,vs,t,e1,k.frz _ _ _ e2,e3⟩
theorem cB.new{K:FG}{H:Hp}{M:MH}{p:Addr}{o:HO}(h:cB K H M)(e:H p=none):cB K (upd H p o) M:=λ a mo q =>
 (h a mo q).keep (Kp.new e) λ u z=>by rw[ah (aF z e)];exact z
theorem cB.put{K:FG}{H:Hp}{M:MH}{p:Addr}{o:HO}{mo:MO}(h:cB K H M)(k:Kp H (upd H p o))(r:abq K (upd H p o) p mo):cB K (upd H p o) (ax M p mo):=λ a mo' q=>by
 by_cases e:a=p
 ·subst e;rw[aa] at q;cases q;exact r
 ·rw[ab e] at q;exact(h a mo' q).keep k λ u z=>by rw[ah e];exact z
structure Abs(K:FG)(H:Hp)(σ:St)(τ:DS)(M:MH):Prop where
 len:σ.length=τ.length
 val:∀ (i:Nat) w,τ[i]? =some (some w)->∃ v,σ[i]? =some (some v)/\aA K H w v
 mem:cB K H M
theorem Abs.go{K:FG}{H H':Hp}{σ:St}{τ:DS}{M M':MH}(h:Abs K H σ τ M)(k:Kp H H')(m:cB K H' M'):Abs K H' σ τ M':=
 ⟨h.len,λ i w e=>let ⟨v,q,r⟩:=h.val i w e; ⟨v,q,r.keep k⟩,m⟩
theorem Abs.set{K:FG}{H:Hp}{σ:St}{τ:DS}{M:MH}{w:W}{v:V}(h:Abs K H σ τ M)(i:Nat)(r:aA K H w v):Abs K H (σ.set i (some v)) (τ.set i (some w)) M:=by
 refine⟨by rw[List.length_set,List.length_set];exact h.len,λ j w' e=>?_,h.mem⟩
 by_cases hj:i=j
 ·subst hj;have hl:i<τ.length:=by
   have:=(List.getElem?_eq_some_iff.mp e).1
   rwa[List.length_set] at this
  rw[List.getElem?_set_self hl] at e;cases e;exact⟨v,List.getElem?_set_self (by rw[h.len];exact hl),r⟩
 ·rw[List.getElem?_set_ne hj] at e;obtain⟨v',q,r'⟩:=h.val j w' e;exact⟨v',by rw[List.getElem?_set_ne hj];exact q,r'⟩
abbrev QD:=W->MH->Prop
abbrev TD:=DS->MH->QD->Prop
abbrev TTd:=DS->MH->(Bool->MH->Prop)->Prop
abbrev TAd:=DS->MH->(List W->MH->Prop)->Prop
structure Ed where
 nx:DS->MH->Prop
 rt:QD
 bk:DS->MH->Prop:=λ _ _=>False
 ct:DS->MH->Prop:=λ _ _=>False
abbrev TSd:=Ed->DS->MH->Prop
def up(K:FG)(t:TD):TE:=λ σ H Q=>∃ τ M Qd,Abs K H σ τ M/\t τ M Qd/\∀ v H' w M',Kp H H'->aA K H' w v->cB K H' M'->Qd w M'->Q v H'
def upT(K:FG)(t:TTd):TT:=λ σ H Q=>∃ τ M Qd,Abs K H σ τ M/\t τ M Qd/\∀ b H' M',Kp H H'->cB K H' M'->Qd b M'->Q b H'
def upA(K:FG)(t:TAd):TA:=λ σ H Q=>∃ τ M Qd,Abs K H σ τ M/\t τ M Qd/\∀ vs H' ws M',Kp H H'->aI K H' ws vs->cB K H' M'->Qd ws M'->Q vs H'
def upS(K:FG)(t:TSd):TS:=λ D σ H=>∃ τ M Dd,Abs K H σ τ M/\t Dd τ M /\
 (∀ σ' H' τ' M',Kp H H'->Abs K H' σ' τ' M'->Dd.nx τ' M'->D.nx σ' H')/\(∀ v H' w M',Kp H H'->aA K H' w v->cB K H' M'->Dd.rt w M'->D.rt v H') /\
 (∀ σ' H' τ' M',Kp H H'->Abs K H' σ' τ' M'->Dd.bk τ' M'->D.bk σ' H')/\(∀ σ' H' τ' M',Kp H H'->Abs K H' σ' τ' M'->Dd.ct τ' M'->D.ct σ' H')
abbrev PD(X:Cx)(e:Expr)(t:TD):Prop:=PE X e (up X.K t)
abbrev PTd(X:Cx)(e:Expr)(t:TTd):Prop:=PT X e (upT X.K t)
abbrev PAd(X:Cx)(es:List Expr)(t:TAd):Prop:=PA X es (upA X.K t)
abbrev PSd(X:Cx)(st:Stmt)(t:TSd):Prop:=PS X st (upS X.K t)
abbrev o8(X:Cx)(st:List Stmt)(t:TSd):Prop:=PSs X st (upS X.K t)
theorem fE(h:PE X e t)(k:∀ σ H Q,t' σ H Q->t σ H Q):PE X e t':=λ pins s σ H Q I q=>h pins s σ H Q I (k σ H Q q)
theorem agl(h:PT X e t)(k:∀ σ H Q,t' σ H Q->t σ H Q):PT X e t':=λ pins s σ H Q I q=>h pins s σ H Q I (k σ H Q q)
theorem agU(h:PA X es t)(k:∀ σ H Q,t' σ H Q->t σ H Q):PA X es t':=λ pos pins s σ H Q I q=>h pos pins s σ H Q I (k σ H Q q)
theorem rY{st:Stmt}{t t':TS}(h:PS X st t)(k:∀ D σ H,t' D σ H->t D σ H):PS X st t':=λ pins s σ H D I q=>h pins s σ H D I (k D σ H q)
theorem adn{st:List Stmt}{t t':TS}(h:PSs X st t)(k:∀ D σ H,t' D σ H->t D σ H):PSs X st t':=λ pins s σ H D I q=>h pins s σ H D I (k D σ H q)
end D
namespace D
open L2
section
variable {X:Cx}{pos:Pos}{a b c e:Expr}{ta tb tc te:TD}{K:FG}
abbrev Kont(K:FG)(H:Hp)(Qd:QD)(Q:VK):Prop:=∀ v H' w M',Kp H H'->aA K H' w v->cB K H' M'->Qd w M'->Q v H'
theorem kgo(k:Kont K H Qd Q)(kp:Kp H H1):Kont K H1 Qd Q:=λ v H' w M' k2 r m q=>k v H' w M' (kp.trans k2) r m q
inductive agL(i:Nat) (τ:DS) (M:MH) (Q:QD):Prop
 | mk (w:W) (z:τ[i]? =some (some w)) (q:Q w M):agL i τ M Q
def ak(i:Nat)(τ:DS)(M:MH)(Q:QD):Prop:=agL i τ M Q
theorem adG(h:PE X e (ag1 i)):PD X e (ak i):=fE h λ σ H Q hq33=>by obtain⟨τ,M,Qd,A,⟨w,e,q⟩,k⟩:=hq33;obtain⟨v,e',r⟩:=A.val i w e;exact⟨v,e',k v H w M (Kp.refl H) r A.mem q⟩
def dC(w:W)(_:DS)(M:MH)(Q:QD):Prop:=Q w M
theorem adK(h:PE X e (tC v))(r:∀ H,aA X.K H w v):PD X e (dC w):=fE h λ σ H Q ⟨τ,M,Qd,A,q,k⟩=>k v H w M (Kp.refl H) (r H) A.mem q
def OpD(K:FG)(r:R2)(rd:W->W->MH->QD->Prop):Prop:=∀ x y H w w' M Qd Q,aA K H w x->aA K H w' y->cB K H M->rd w w' M Qd->Kont K H Qd Q->r x y H Q
def dOp(rd:W->W->MH->QD->Prop)(ta tb:TD)(τ:DS)(M:MH)(Q:QD):Prop:=ta τ M λ w M1=>tb τ M1 λ w' M2=>rd w w' M2 Q
theorem qw(hd:OpD K r rd)(h:up K (dOp rd ta tb) σ H Q):tOp r (up K ta) (up K tb) σ H Q:=by obtain⟨τ,M,Qd,A,h,k⟩:=h;refine⟨τ,M,_,A,h,λ x H1 w M1 kp r1 m1 q1=>⟨τ,M1,_,A.go kp m1,q1,λ y H2 w' M2 kp2 r2 m2 q2=>?_⟩⟩;exact hd x y H2 w w' M2 Qd Q (r1.keep kp2) r2 m2 q2 (kgo k (kp.trans kp2))
theorem afU(ho:OpR X (binaryOp op) r)(hd:OpD X.K r rd)(ha:PD X a ta)(hb:PD X b tb):PD X (.BinOp a op b pos) (dOp rd ta tb):=fE (aeu ho ha hb) λ σ H Q h=>qw hd h
theorem acI(ho:OpR X (compareOp op) r)(hd:OpD X.K r rd)(ha:PD X a ta)(hb:PD X b tb)(hm:behindInMarks op b=false:=by first | exact i7 _ (by decide) (by decide) | rfl) :
  PD X (.Compare a [op] [b] pos) (dOp rd ta tb):=fE (abJ ho ha hb hm) λ σ H Q h=>qw hd h
theorem af6(hr:IxR X r)(hd:OpD X.K r rd)(ha:PD X a ta)(hb:PD X b tb)(hs:pj b:=by intro _ _;rfl):PD X (.Subscript a b pos) (dOp rd ta tb):=fE (afz hr ha hb hs) λ σ H Q h=>qw hd h
def bI(t:TD)(τ:DS)(M:MH)(Q:Bool->MH->Prop):Prop:=t τ M λ w M1=>∃ k,w=.d (.bool k)/\Q k M1
theorem qV(hi:∀ σ H Q,up K ta σ H Q->t' σ H Q)(h:upT K (bI ta) σ H Q):adg t' σ H Q:=by obtain⟨τ,M,Qd,A,h,k⟩:=h;refine hi σ H _ ⟨τ,M,_,A,h,λ v H' w M' kp r m hq34=>?_⟩;obtain⟨b,e,q⟩:=hq34;subst e;simp only[aA,ay] at r;exact⟨b,r,k b H' M' kp m q⟩
theorem zY(ho:OpR X (compareOp op) r)(hd:OpD X.K r rd)(ha:PD X a ta)(hb:PD X b tb)(hm:behindInMarks op b=false:=by first | exact i7 _ (by decide) (by decide) | rfl) :
  PTd X (.Compare a [op] [b] pos) (bI (dOp rd ta tb)):=agl (abw ho ha hb hm) λ σ H Q h=>qV (λ _ _ _ q=>qw hd q) h
theorem abp(h:PD X e te)(he:∀ whole,isTrue e X.env whole=(do let v <- whole;standAt e.pos;holding [v] (truthy v)):=by intro _;rfl):PTd X e (bI te):=agl (aeF h he) λ σ H Q q=>qV (λ _ _ _ z=>z) q
variable {tA tB:TTd}{rest:List Expr}
def dOr(t u:TTd)(τ:DS)(M:MH)(Q:Bool->MH->Prop):Prop:=t τ M λ k M1=>if k=true then Q true M1 else u τ M1 Q
def ac8(t:TTd)(τ:DS)(M:MH)(Q:Bool->MH->Prop):Prop:=t τ M λ k M1=>Q (!k) M1
abbrev PWd(X:Cx)(e:Expr)(t:TTd):Prop:=PW X e (upT X.K t)
theorem pw_w(h:PW X e t)(k:∀ σ H Q,t' σ H Q->t σ H Q):PW X e t':=λ w pins s σ H Q I q=>h w pins s σ H Q I (k σ H Q q)
theorem ab3(ha:PTd X a tA):PWd X (.BoolOp .Or [a] pos) tA:=pw_or1 ha
theorem aea(ha:PTd X a tA)(hb:PWd X (.BoolOp .Or (b::rest) pos) tB):PWd X (.BoolOp .Or (a::b::rest) pos) (dOr tA tB):=pw_w (pw_or ha hb) λ σ H Q h=>by
 obtain⟨τ,M,Qd,A,h,k⟩:=h;refine⟨τ,M,_,A,h,λ b H1 M1 kp m1 q1=>?_⟩;cases b with
 | false=>rw[if_neg Bool.false_ne_true] at q1 ⊢;exact⟨τ,M1,Qd,A.go kp m1,q1,λ b H2 M2 kp2 m2 q2=>k b H2 M2 (kp.trans kp2) m2 q2⟩
 | true=>rw[if_pos rfl] at q1 ⊢;exact k _ H1 M1 kp m1 q1
theorem afl(h:PWd X e tA):PTd X e tA:=h.pt
theorem abl(ha:PTd X a tA):PTd X (.UnaryOp .Not a pos) (ac8 tA):=agl (aei ha) λ σ H Q h=>by obtain⟨τ,M,Qd,A,h,k⟩:=h;exact⟨τ,M,_,A,h,λ b H1 M1 kp m1 q1=>k (!b) H1 M1 kp m1 q1⟩
def ym(ta tb:TD)(τ:DS)(M:MH)(Q:QD):Prop:=ta τ M λ x M1=>∃ k,x=.d (.bool k)/\if k=true then tb τ M1 Q else Q (.d (.bool false)) M1
def aga(ta tb:TD)(τ:DS)(M:MH)(Q:QD):Prop:=ta τ M λ x M1=>∃ k,x=.d (.bool k)/\if k=true then Q (.d (.bool true)) M1 else tb τ M1 Q
def aa5(ta:TD)(τ:DS)(M:MH)(Q:QD):Prop:=ta τ M λ x M1=>∃ k,x=.d (.bool k)/\Q (.d (.bool (!k))) M1
theorem adV{op}(h:PD X a ta):PD X (.BoolOp op [a] pos) ta:=acB h
theorem ac9(ha:PD X a ta)(hb:PD X (.BoolOp .And (b::rest) pos) tb):PD X (.BoolOp .And (a::b::rest) pos) (ym ta tb):=fE (ac1 ha hb) λ σ H Q h=>by
 obtain⟨τ,M,Qd,A,h,k⟩:=h;refine⟨τ,M,_,A,h,λ x H1 w M1 kp r1 m1 hq35=>?_⟩;obtain⟨b,e,q1⟩:=hq35;subst e;simp only[aA,ay] at r1;refine⟨b,r1,?_⟩;cases b with
 | true=>rw[if_pos rfl] at q1 ⊢;exact⟨τ,M1,Qd,A.go kp m1,q1,kgo k kp⟩
 | false=>rw[if_neg Bool.false_ne_true] at q1 ⊢;exact k _ H1 _ M1 kp (by simp[aA,ay]) m1 q1
theorem afX(ha:PD X a ta)(hb:PD X (.BoolOp .Or (b::rest) pos) tb):PD X (.BoolOp .Or (a::b::rest) pos) (aga ta tb):=fE (agg ha hb) λ σ H Q h=>by
 obtain⟨τ,M,Qd,A,h,k⟩:=h;refine⟨τ,M,_,A,h,λ x H1 w M1 kp r1 m1 hq36=>?_⟩;obtain⟨b,e,q1⟩:=hq36;subst e;simp only[aA,ay] at r1;refine⟨b,r1,?_⟩;cases b with
 | false=>rw[if_neg Bool.false_ne_true] at q1 ⊢;exact⟨τ,M1,Qd,A.go kp m1,q1,kgo k kp⟩
 | true=>rw[if_pos rfl] at q1 ⊢;exact k _ H1 _ M1 kp (by simp[aA,ay]) m1 q1
theorem aeb(ha:PD X a ta):PD X (.UnaryOp .Not a pos) (aa5 ta):=fE (aex ha) λ σ H Q h=>by obtain⟨τ,M,Qd,A,h,k⟩:=h;refine⟨τ,M,_,A,h,λ x H1 w M1 kp r1 m1 hq37=>?_⟩;obtain⟨b,e,q1⟩:=hq37;subst e;simp only[aA,ay] at r1;exact⟨b,r1,k _ H1 _ M1 kp (by simp[aA,ay]) m1 q1⟩
variable {es:List Expr}{t:TAd}
def aG(_:DS)(M:MH)(Q:List W->MH->Prop):Prop:=Q [] M
def af(ta:TD)(tr:TAd)(τ:DS)(M:MH)(Q:List W->MH->Prop):Prop:=ta τ M λ w M1=>tr τ M1 λ ws M2=>Q (w::ws) M2
theorem u1:PAd X [] aG:=agU yU λ σ H Q ⟨τ,M,Qd,A,h,k⟩=>k [] H [] M (Kp.refl H) .nil A.mem h
theorem xI(ha:PD X e te)(hr:PAd X es t)(hs:starEach (e::es) X.env=(false,eval e X.env)::starEach es X.env:=by rfl):PAd X (e::es) (af te t):=agU (u3 ha hr hs) λ σ H Q h=>by obtain⟨τ,M,Qd,A,h,k⟩:=h;exact⟨τ,M,_,A,h,λ x H1 w M1 kp r1 m1 q1=>⟨τ,M1,_,A.go kp m1,q1,λ xs H2 ws M2 kp2 r2 m2 q2=>k _ H2 _ M2 (kp.trans kp2) (.cons (r1.keep kp2) r2) m2 q2⟩⟩
def mN:List W->Option (List PyData)
 | []=>some []
 | .d x::r=>(mN r).map (x::·)
 | _::_=>none
theorem mB:∀ {ws:List W} {ds:List PyData},mN ws=some ds->ws=ds.map W.d
 | [],ds,h=>by simp only[mN] at h;cases h;rfl
 | .d x::r,ds,h=>by
  simp only[mN] at h;cases q:mN r with
  | none=>rw[q] at h;cases h
  | some l=>rw[q] at h;cases h;rw[mB q];rfl
 | .m _::_,ds,h=>by simp[mN] at h
 | .t _::_,ds,h=>by simp[mN] at h
def yv(t:TAd)(τ:DS)(M:MH)(Q:QD):Prop:=t τ M λ ws M1=>∃ ds,mN ws=some ds/\ds.length<=sizeLine/\Q (.d (.list ds)) M1
theorem abb(hp:H p=none)(r:aQ K H ds vs):ay K (upd H p (.frz o (.lst vs))) (.list ds) (.ref p):=by simp only[ay];exact⟨p,vs,rfl,.inl ⟨o,ao⟩,r.keep (Kp.new hp)⟩
theorem my(hp:H p=none)(r:aQ K H ds vs)(m:cB K H M)(q:Qd (.d (.list ds)) M)(k:Kont K H Qd Q) :
  ∃ p' u,V.ref p=.ref p'/\(upd H p (.lst vs)) p'=some u/\Fz u/\∀ o,Q (.ref p) (upd (upd H p (.lst vs)) p' (.frz o u)):=by
 refine⟨p,_,rfl,ao,trivial,λ o=>?_⟩;rw[abB];exact k _ _ (.d (.list ds)) M (Kp.new hp) (abb hp r) (m.new hp) q
theorem ae2(h:PAd X es t):PD X (.List es pos) (yv t):=fE (rM (zH h)) λ σ H Q h=>by obtain⟨τ,M,Qd,A,h,k⟩:=h;refine⟨τ,M,_,A,h,λ vs H1 ws M1 kp r1 m1 hq38=>?_⟩;obtain⟨ds,e,hz,q1⟩:=hq38;have e':=mB e;subst e';have rA:=r1.data;exact⟨by rw[rA.length];exact hz,λ p hp=>my hp rA m1 q1 (kgo k kp)⟩
def fD(t:TAd)(τ:DS)(M:MH)(Q:QD):Prop:=t τ M λ ws M1=>ws.length<=sizeLine/\∀ p,M1 p=none->Q (.m p) (ax M1 p (.lst ws))
theorem abM(h:PAd X es t):PD X (.List es pos) (fD t):=fE (zH h) λ σ H Q h=>by obtain⟨τ,M,Qd,A,h,k⟩:=h;refine⟨τ,M,_,A,h,λ vs H1 ws M1 kp r1 m1 ⟨hz,q1⟩=>⟨by rw[<- r1.length];exact hz,λ p hp=>?_⟩⟩;exact k _ _ (.m p) (ax M1 p (.lst ws)) (kp.trans (Kp.new hp)) rfl (m1.put (mo:=.lst ws) (Kp.new hp) ⟨vs,ao,r1.keep (Kp.new hp)⟩) (q1 p (m1.free hp))
def ach(t:TAd)(τ:DS)(M:MH)(Q:QD):Prop:=t τ M λ ws M1=>∃ ds,mN ws=some ds/\ds.length<=sizeLine/\Q (.d (.tuple ds)) M1
theorem acM{x1}(h:PAd X es t):PD X (.Tuple es x1 pos) (ach t):=fE (wt h) λ σ H Q h=>by obtain⟨τ,M,Qd,A,h,k⟩:=h;refine⟨τ,M,_,A,h,λ vs H1 ws M1 kp r1 m1 hq39=>?_⟩;obtain⟨ds,e,hz,q1⟩:=hq39;have e':=mB e;subst e';have rA:=r1.data;refine⟨by rw[rA.length];exact hz,λ p hp=>k _ _ (.d (.tuple ds)) M1 (kp.trans (Kp.new hp)) ?_ (m1.new hp) q1⟩;simp only[aA,ay];exact⟨p,vs,rfl,.inl (.inl ao),rA.keep (Kp.new hp)⟩
variable {x:Str}{p:Pos}{id T:String}{r:List V->Hp->VK->Prop}{rd:List W->MH->QD->Prop}
def fK(K:FG)(r:List V->Hp->VK->Prop)(rd:List W->MH->QD->Prop):Prop:=∀ vs H ws M Qd Q,aI K H ws vs->cB K H M->rd ws M Qd->Kont K H Qd Q->r vs H Q
def dCB(rd:List W->MH->QD->Prop)(t:TAd)(τ:DS)(M:MH)(Q:QD):Prop:=t τ M λ ws M1=>rd ws M1 Q
theorem zp(hd:fK K r rd)(h:up K (dCB rd t) σ H Q):tCB r (upA K t) σ H Q:=by obtain⟨τ,M,Qd,A,h,k⟩:=h;exact⟨τ,M,_,A,h,λ vs H1 ws M1 kp r1 m1 q1=>hd vs H1 ws M1 Qd Q r1 m1 q1 (kgo k kp)⟩
theorem yD(hc:fc X (.builtin id) r)(hd:fK X.K r rd)(hg:Gl X x)(hm:X.mg x=none)(hv:bootBuiltins x=some (.builtin id))(ha:PAd X (e::es) t)(hn:x ≠ "__name__":= by decide)(hdb:ND x:=by decide)
  (he:starEach (e::es) X.env=(false,eval e X.env)::starEach es X.env:=by rfl)(hpl:(backTo pos (starEach es X.env)).any (·.1)=false:=by rfl):PD X (.Call (.Name x p) (e::es) [] pos) (dCB rd t):=
 fE (xG hc hg hm hv ha hn hdb he hpl) λ σ H Q h=>zp hd h
theorem vX(hc:fc X (.type T) r)(hd:fK X.K r rd)(hg:Gl X x)(hm:X.mg x=none)(hv:bootBuiltins x=some (.type T))(ha:PAd X (e::es) t)(hn:x ≠ "__name__":= by decide)(hdb:ND x:=by decide)
  (he:starEach (e::es) X.env=(false,eval e X.env)::starEach es X.env:=by rfl)(hpl:(backTo pos (starEach es X.env)).any (·.1)=false:=by rfl):PD X (.Call (.Name x p) (e::es) [] pos) (dCB rd t):=
 fE (u9 hc hg hm hv ha hn hdb he hpl) λ σ H Q h=>zp hd h
end
section
variable {X:Cx}{pos:Pos}{st:Stmt}{sts:List Stmt}{t u:TSd}{e:Expr}{te:TD}{K:FG}
def cN(D:Ed)(τ:DS)(M:MH):Prop:=D.nx τ M
def bS(t u:TSd)(D:Ed)(τ:DS)(M:MH):Prop:=t {D with nx:=u D} τ M
theorem tS(h1:PSd X st t)(h2:o8 X sts u):o8 X (st::sts) (bS t u):=adn (wY h1 h2) λ D σ H ⟨τ,M,Dd,A,h,k1,k2,k3,k4⟩ =>
 ⟨τ,M,{Dd with nx:=u Dd},A,h,λ σ' H' τ' M' kp A' q=>⟨τ',M',Dd,A',q,λ σ2 H2 τ2 M2 kp2=>k1 σ2 H2 τ2 M2 (kp.trans kp2),λ v H2 w M2 kp2=>k2 v H2 w M2 (kp.trans kp2),λ σ2 H2 τ2 M2 kp2=>k3 σ2 H2 τ2 M2 (kp.trans kp2),λ σ2 H2 τ2 M2 kp2=>k4 σ2 H2 τ2 M2 (kp.trans kp2)⟩,k2,k3,k4⟩
theorem xT(h1:PSd X st t):o8 X [st] t:=ab2 h1
def cM(te:TD)(D:Ed)(τ:DS)(M:MH):Prop:=te τ M λ _ M1=>D.nx τ M1
theorem yE(he:PD X e te)(hs:swapsWith e none pos.line X.env=pure false:=by rfl):PSd X (.Expr e pos) (cM te):=rY (ab0 he hs) λ D σ H ⟨τ,M,Dd,A,h,k1,_⟩ =>
 ⟨τ,M,_,A,h,λ v H1 w M1 kp r m q=>k1 σ H1 τ M1 kp (A.go kp m) q⟩
def gO(te:TD)(D:Ed)(τ:DS)(M:MH):Prop:=te τ M D.rt
theorem aa2(he:PD X e te):PSd X (.Return (some e) pos) (gO te):=rY (ac7 he) λ D σ H ⟨τ,M,Dd,A,h,k1,k2,_⟩=>⟨τ,M,_,A,h,λ v H1 w M1 kp r m q=>k2 v H1 w M1 kp r m q⟩
def dIf(c:TTd)(t u:TSd)(D:Ed)(τ:DS)(M:MH):Prop:=c τ M λ b M1=>if b=true then t D τ M1 else u D τ M1
theorem aeK(hc:PTd X c tc)(ha:o8 X a t)(hb:o8 X b u):PSd X (.If c a b pos) (dIf tc t u):=rY (afB hc ha hb) λ D σ H hq40=>by
 obtain⟨τ,M,Dd,A,h,k1,k2,k3,k4⟩:=hq40;refine⟨τ,M,_,A,h,λ b H1 M1 kp m q=>?_⟩;have go:∀ {t':TSd},t' Dd τ M1->upS X.K t' D σ H1:=λ {t'} q=>⟨τ,M1,Dd,A.go kp m,q,λ σ2 H2 τ2 M2 kp2=>k1 σ2 H2 τ2 M2 (kp.trans kp2),λ v H2 w M2 kp2=>k2 v H2 w M2 (kp.trans kp2),λ σ2 H2 τ2 M2 kp2=>k3 σ2 H2 τ2 M2 (kp.trans kp2),λ σ2 H2 τ2 M2 kp2=>k4 σ2 H2 τ2 M2 (kp.trans kp2)⟩;cases b with
 | true=>rw[if_pos rfl] at q;show(if true=true then upS X.K t D σ H1 else upS X.K u D σ H1);rw[if_pos rfl];exact go q
 | false=>rw[if_neg Bool.false_ne_true] at q;show(if false=true then upS X.K t D σ H1 else upS X.K u D σ H1);rw[if_neg Bool.false_ne_true];exact go q
abbrev TGd:=W->DS->MH->(DS->MH->Prop)->Prop
def upG(K:FG)(g:TGd):TG:=λ v σ H Q=>∃ w τ M Qd,aA K H w v/\Abs K H σ τ M/\g w τ M Qd/\∀ σ' H' τ' M',Kp H H'->Abs K H' σ' τ' M'->Qd τ' M'->Q σ' H'
abbrev PGd(X:Cx)(e:Expr)(g:TGd):Prop:=PG X e (upG X.K g)
theorem agC(h:PG X e g)(k:∀ v σ H Q,g' v σ H Q->g v σ H Q):PG X e g':=λ pins s σ H v u Q I r q=>h pins s σ H v u Q I r (k v σ H Q q)
def gN(i:Nat)(w:W)(τ:DS)(M:MH)(Q:DS->MH->Prop):Prop:=Q (τ.set i (some w)) M
def dW(te:TD)(g:TGd)(D:Ed)(τ:DS)(M:MH):Prop:=te τ M λ w M1=>g w τ M1 D.nx
theorem abr(h:upS K (dW te g) D σ H):afd (up K te) (upG K g) D σ H:=by obtain⟨τ,M,Dd,A,h,k1,_⟩:=h;exact⟨τ,M,_,A,h,λ v H1 w M1 kp r m q=>⟨w,τ,M1,_,r,A.go kp m,q,λ σ2 H2 τ2 M2 kp2 A2 q2=>k1 σ2 H2 τ2 M2 (kp.trans kp2) A2 q2⟩⟩
theorem abk(he:PD X e te)(hg:PGd X tg g)(hs:swapsWithSole [tg] e pos.line X.env=pure false:=by rfl)(hw:swappedStores [tg] e X.env=pure none:=by rfl)
  (h1:(assignEach [tg] X.env).map (·.2)=[assign tg X.env]:=by rfl):PSd X (.Assign [tg] e pos) (dW te g):=rY (yR he hg hs hw h1) λ D σ H h=>abr h
theorem abN(hN:X.N.Nodup)(hi:X.N[i]? =some x)(hx:Loc X.env.scope x)(he:PD X e te)(hs:swapsWith e (some (.Name x pos')) pos.line X.env=pure false:=by rfl)(hf:X.fn x=true\/X.env.scope.names.lookup x=some .local:=by first | exact .inl rfl | exact .inr rfl | assumption) :
  PSd X (.Assign [.Name x pos'] e pos) (dW te (gN i)):=rY (acP hN hi hx he hs hf) λ D σ H ⟨τ,M,Dd,A,h,k1,_⟩ =>
 ⟨τ,M,_,A,h,λ v H1 w M1 kp r m q=>k1 _ H1 _ M1 kp ((A.go kp m).set i r) q⟩
end
abbrev SpD:=List W->MH->QD->Prop
def dR(K:FG)(sp:SpD):Sp:=λ vs H Q _=>∃ ws M Qd,aI K H ws vs/\cB K H M/\sp ws M Qd/\Kont K H Qd Q
def bR(sp:SpD)(t:TAd)(τ:DS)(M:MH)(Q:QD):Prop:=t τ M λ ws M1=>sp ws M1 Q
theorem abt(F:cX X.prog X.w X.K X.mg X.base CX0 k f fd ps (dR X.K sp))(hr:cW k X.A)(hg:Gl X x)(hm:X.mg x=some (.ref f))(hk:W.keepIn X.K (.ref f)=true)(hb:Binds X.K fd ps [])
  (ha:PAd X (e::es) t)(hdb:ND x:=by decide)(he:starEach (e::es) X.env=(false,eval e X.env)::starEach es X.env:=by rfl)(hpl:(backTo pos (starEach es X.env)).any (·.1)=false:=by rfl) :
  PD X (.Call (.Name x p) (e::es) [] pos) (bR sp t):=fE (aaS (E:=E0) (dvs:=[]) F hr hg hm hk hb .nil yI ha hdb he hpl) λ σ H Q h=>by
 obtain⟨τ,M,Qd,A,h,k⟩:=h;exact⟨τ,M,_,A,h,λ vs H1 ws M1 kp r1 m1 q1=>⟨ws,M1,Qd,by rw[List.append_nil];exact r1,m1,q1,kgo k kp⟩⟩
def bO(N:List Str)(ws:List W):DS:=ws.map some++List.replicate (N.length-ws.length) none
section
variable {P:Program}{w:World}{K:FG}{mg:Str->Option Value}{base:Heap}
theorem oR(r:aI K H ws vs)(m:cB K H M):Abs K H (start N vs) (bO N ws) M:=by
 have hl:=r.length;refine⟨?_,λ i w e=>?_,m⟩
 ·simp[L2.start,bO,hl]
 ·unfold bO at e
  by_cases hi:i<ws.length
  ·rw[List.getElem?_append_left (by simpa using hi),List.getElem?_map] at e;cases q:ws[i]? with
   | none=>rw[q] at e;cases e
   | some w' =>
    rw[q] at e;cases e;obtain⟨v,e1,r1⟩:=r.get q;refine⟨v,?_,r1⟩;unfold L2.start;rw[List.getElem?_append_left (by rw[List.length_map,<- hl];exact hi),List.getElem?_map,e1];rfl
  ·rw[List.getElem?_append_right (by simpa using hi),List.getElem?_replicate] at e
   split at e<;>cases e
theorem cO{x qual:Str}{st:Stmt}{N ps:List Str}{k:Nat}{sp:SpD}{t:TSd}(F:Fun K x qual st f fd)(S:bu N ps (au st))(len:∀ ws M Q,sp ws M Q->ws.length=ps.length)
  (hbody:∀ (cdv:Value) (A:Around) (outer:List Env) (s:Shared) (H:Hp) (E:XK),cW k (A.deeper (envOfC qual (au st) s.heap.objs.size f cdv)) ->
   o8 (zP CX0 P w K mg base N qual (au st) f cdv A outer s H E).nox (aS st) t)
  (read:∀ ws M Q,sp ws M Q->t {nx:=λ _ M'=>Q (.d .none) M',rt:=Q} (bO N ws) M):cX P w K mg base CX0 (k+1) f fd ps (dR K sp):=by
 refine F.ok S (λ vs H Q E h=>?_) (λ cdv A outer s H vs Q E hr h=>?_)
 ·obtain⟨ws,M,Qd,r,_,q,_⟩:=h;rw[<- r.length];exact len _ _ _ q
 ·obtain⟨ws,M,Qd,r,m,q,kk⟩:=h;refine⟨_,hbody cdv A outer s H E hr,bO N ws,M,_,oR r m,read ws M Qd q,λ σ' H' τ' M' kp A' q'=>?_,λ v H' w' M' kp r' m' q'=>?_,λ σ' H' τ' M' kp A' q'=>q'.elim,λ σ' H' τ' M' kp A' q'=>q'.elim⟩
  ·exact kk _ H' _ M' kp (by simp[aA,ay]) A'.mem q'
  ·exact kk v H' w' M' kp r' m' q'
end
end D
namespace L2
structure kF(k:Nat)(A:Around):Prop where
 gd:A.guards=some []
 dp:A.depth+3 * k+5<recursionLimit
 un:A.units+16 * k+200<cLine
theorem kF.units(r:kF k A):A.units+64<cLine:=by have:=r.un;omega
theorem cW.h(r:cW k A):kF k A:=⟨r.gd,r.dp,r.un⟩
end L2
namespace D
open L2
mutual
theorem dQ(I:Inv X pins σ H s):∀ (d:PyData) {x:V} {u:Value},ay X.K H d x->RelV x u->d.hasDict=false->∃ as,Reads s.heap u d as
 | .none,x,u,h,r,_=>by simp only[ay] at h;subst h;cases (show u=Value.none from r);exact⟨_,.none⟩
 | .bool b,x,u,h,r,_=>by simp only[ay] at h;subst h;cases (show u=Value.bool b from r);exact⟨_,.bool b⟩
 | .int i,x,u,h,r,_=>by simp only[ay] at h;subst h;obtain⟨t,e⟩:=(show ∃ t,u=Value.int i t from r);subst e;exact⟨_,.int i t⟩
 | .str z,x,u,h,r,_=>by simp only[ay] at h;subst h;obtain⟨t,e⟩:=(show ∃ t,u=Value.str z t from r);subst e;exact⟨_,.str z t⟩
 | .list ds,x,u,h,r,hd=>by simp only[ay] at h;obtain⟨a,vs,e,hs,ra⟩:=h;subst e;cases (show u=Value.ref a from r);obtain⟨its,rv,⟨o,n,e1,e2,e3,e4⟩,hz⟩:=I.list hs.sq;obtain⟨as,q⟩:=ju I ds ra rv (by simpa [PyData.hasDict] using hd);exact⟨_,.list e1 e2 e4 (by simpa using q)⟩
 | .tuple ds,x,u,h,r,hd=>by simp only[ay] at h;obtain⟨a,vs,e,hs,ra⟩:=h;subst e;cases (show u=Value.ref a from r);obtain⟨its,rv,⟨o,e1,e2,n,e4⟩,hz⟩:=I.tuple hs;obtain⟨as,q⟩:=ju I ds ra rv (by simpa [PyData.hasDict] using hd);exact⟨_,.tuple e1 e2 e4 (by simpa using q)⟩
 | .dict kvs,x,u,h,r,hd=>by simp[PyData.hasDict] at hd
theorem ju(I:Inv X pins σ H s):∀ (ds:List PyData) {xs:List V} {us:List Value},aQ X.K H ds xs->Vals xs us->PyData.hasDictAll ds=false->∃ as,ReadsAll s.heap us ds as
 | [],xs,us,h,r,_=>by simp only[aQ] at h;subst h;cases r;exact⟨_,.nil⟩
 | d::ds,xs,us,h,r,hd=>by
  simp only[aQ] at h;obtain⟨v,vr,e,h1,h2⟩:=h;subst e;simp only[PyData.hasDictAll,Bool.or_eq_false_iff] at hd;cases r with
  | cons r1 r2 =>
   obtain⟨as,q1⟩:=dQ I d h1 r1 hd.1;obtain⟨bs,q2⟩:=ju I ds h2 r2 hd.2;exact⟨_,.cons q1 q2⟩
end
def agu:PyData->Bool
 | .none | .bool _ | .int _ | .str _=>true
 | _=>false
theorem fR:∀ {d:PyData} {x:V} {u:Value} {h:Heap} {K:FG} {H:Hp},agu d=true->ay K H d x->RelV x u->Reads h u d []
 | .none,x,u,h,K,H,_,e,r=>by simp only[ay] at e;subst e;cases (show u=Value.none from r);exact .none
 | .bool b,x,u,h,K,H,_,e,r=>by simp only[ay] at e;subst e;cases (show u=Value.bool b from r);exact .bool b
 | .int i,x,u,h,K,H,_,e,r=>by simp only[ay] at e;subst e;obtain⟨t,z⟩:=(show ∃ t,u=Value.int i t from r);subst z;exact .int i t
 | .str i,x,u,h,K,H,_,e,r=>by simp only[ay] at e;subst e;obtain⟨t,z⟩:=(show ∃ t,u=Value.str i t from r);subst z;exact .str i t
 | .list _,_,_,_,_,_,f,_,_=>nomatch f
 | .tuple _,_,_,_,_,_,f,_,_=>nomatch f
 | .dict _,_,_,_,_,_,f,_,_=>nomatch f
def oY(d:PyData):Bool:=SeqAt.shaped d&&!d.hasDict
def fT:PyData->PyData->Bool
 | .str _,.str _=>true
 | d,d'=>oY d&&oY d'
theorem fh(h:fT d d'=true):(∃ x y,d=.str x/\d'=.str y)\/(oY d=true/\oY d'=true):=by
 cases d with
 | str x =>
  cases d' with
  | str y=>exact .inl ⟨x,y,rfl,rfl⟩
  | _=>exact .inr (by simpa [fT] using h)
 | _=>exact .inr (by simpa [fT] using h)
theorem pR(x y:Str):decide (V.str x=V.str y)=PyData.eqv (.str x) (.str y):=by
 rw[PyData.eqv]
 by_cases e:x=y
 ·subst e;simp
 ·rw[decide_eq_false (λ z=>e (V.str.inj z))];exact(beq_eq_false_iff_ne.mpr e).symm
theorem zB(hr:kF k X.A):OpR X (compareOp .Eq) (λ x y H Q=>∃ d d',ay X.K H d x/\ay X.K H d' y/\fT d d'=true/\Q (.bl (PyData.eqv d d')) H):=by
 intro pins s σ H x y v u Q I rx ry h;obtain⟨d,d',h1,h2,o,q⟩:=h;rcases fh o with ⟨a,b,e1,e2⟩ | ⟨o1,o2⟩
 ·subst e1;subst e2;simp only[ay] at h1 h2;subst h1;subst h2;exact afS pins s σ H _ _ v u Q I rx ry ⟨rfl,by rw[pR];exact q⟩
 simp only[oY,Bool.and_eq_true,Bool.not_eq_true'] at o1 o2;obtain⟨as,r1⟩:=dQ I d h1 rx o1.2;obtain⟨bs,r2⟩:=dQ I d' h2 ry o2.2;exact eq_dataH r1 r2 o1.1 o2.1 hr.units ⟨.bl _,H,I,rfl,q⟩
theorem ad5(hr:kF k X.A):OpR X (compareOp .NotEq) (λ x y H Q=>∃ d d',ay X.K H d x/\ay X.K H d' y/\fT d d'=true/\Q (.bl (!PyData.eqv d d')) H):=by
 intro pins s σ H x y v u Q I rx ry h;obtain⟨d,d',h1,h2,o,q⟩:=h;rcases fh o with ⟨a,b,e1,e2⟩ | ⟨o1,o2⟩
 ·subst e1;subst e2;simp only[ay] at h1 h2;subst h1;subst h2;exact agb pins s σ H _ _ v u Q I rx ry ⟨rfl,by rw[pR];exact q⟩
 simp only[oY,Bool.and_eq_true,Bool.not_eq_true'] at o1 o2;obtain⟨as,r1⟩:=dQ I d h1 rx o1.2;obtain⟨bs,r2⟩:=dQ I d' h2 ry o2.2;exact ne_dataH r1 r2 o1.1 o2.1 hr.units ⟨.bl _,H,I,rfl,q⟩
def tyD:PyData->String
 | .none => "NoneType"
 | .bool _ => "bool"
 | .int _ => "int"
 | .str _ => "str"
 | .list _ => "list"
 | .tuple _ => "tuple"
 | .dict _ => "dict"
inductive Ty6:String->Prop where
 | int:Ty6 "int" | bool:Ty6 "bool" | str:Ty6 "str" | list:Ty6 "list" | tuple:Ty6 "tuple" | dict:Ty6 "dict"
def dy(d:PyData)(T:String):Bool:=tyD d==T || (T == "int" && tyD d == "bool")
theorem mH{K:FG}(d:PyData){T:String}(h:Ty6 T):W.kitOne K (.type (tyD d)) (.type T)=some (dy d T):=by
 cases h<;>cases d<;>rfl
theorem wG:fc X (.builtin "isinstance") (λ xs H Q=>∃ x d T,xs=[x,.ty T]/\ay X.K H d x/\Ty6 T/\Q (.bl (dy d T)) H):=by
 intro pins s σ H xs us Q I r h;obtain⟨x,d,T,rfl,rd,h6,q⟩:=h;obtain⟨u,w',rfl,rx,ry⟩:=vals2 r;cases (show w'=Value.type T from ry);have e:=mH (K:=X.K) d h6;have fin:∀ tk,EP X pins σ Q (.bool (dy d T)) {s with toks:=tk}:=λ tk=>⟨.bl _,H,I.tok _,rfl,q⟩;generalize dy d T=b at e fin;cases d with
 | none=>simp only[ay] at rd;subst rd;cases (show u=Value.none from rx);exact W.kia_one W.kitx_none I.kIn True.intro e (λ z=>nomatch z) fin
 | bool y=>simp only[ay] at rd;subst rd;cases (show u=Value.bool y from rx);exact W.kia_one W.kitx_bool I.kIn True.intro e (λ z=>nomatch z) fin
 | int i=>simp only[ay] at rd;subst rd;obtain⟨t,z⟩:=(show ∃ t,u=Value.int i t from rx);subst z;exact W.kia_one W.kitx_int I.kIn True.intro e (λ z=>nomatch z) fin
 | str y=>simp only[ay] at rd;subst rd;obtain⟨t,z⟩:=(show ∃ t,u=Value.str y t from rx);subst z;exact W.kia_one W.kitx_str I.kIn True.intro e (λ z=>nomatch z) fin
 | list ds =>
  simp only[ay] at rd;obtain⟨a,vs,z,hs,_⟩:=rd;subst z;cases (show u=Value.ref a from rx);obtain⟨its,rv,⟨o,n,e1,e2,e3,e4⟩,hz⟩:=I.list hs.sq;exact W.kia_one W.kitx_list I.kIn ⟨_,e1,e2⟩ e (λ z=>nomatch z) fin
 | tuple ds =>
  simp only[ay] at rd;obtain⟨a,vs,z,hs,_⟩:=rd;subst z;cases (show u=Value.ref a from rx);obtain⟨its,rv,⟨o,e1,e2,e3⟩,hz⟩:=I.tuple hs;exact W.kia_one W.kitx_tuple I.kIn ⟨_,e1,e2⟩ e (λ z=>nomatch z) fin
 | dict kvs =>
  simp only[ay] at rd;obtain⟨a,o,l,z,ha,_⟩:=rd;subst z;cases (show u=Value.ref a from rx);obtain⟨_,hs,vs,kv,o',es,ep,e1,e2,_⟩:=rZ I.hok (.inr ⟨o,ha⟩);exact W.kia_one W.kitx_dict I.kIn ⟨_,e1,e2.1⟩ e (λ z=>nomatch z) fin
end D
namespace D
open L2
section
variable {X:Cx}{K:FG}
theorem OpR.or(h:OpR X f r)(h':OpR X f r'):OpR X f (λ x y H Q=>r x y H Q\/r' x y H Q):=by
 intro pins s σ H x y v u Q I rx ry q;rcases q with q | q
 ·exact h pins s σ H x y v u Q I rx ry q
 ·exact h' pins s σ H x y v u Q I rx ry q
theorem OpD.or(h:OpD K r rd)(h':OpD K r' rd'):OpD K (λ x y H Q=>r x y H Q\/r' x y H Q) (λ w w' M Q=>rd w w' M Q\/rd' w w' M Q):=by
 intro x y H w w' M Qd Q r1 r2 m q k;rcases q with q | q
 ·exact .inl (h x y H w w' M Qd Q r1 r2 m q k)
 ·exact .inr (h' x y H w w' M Qd Q r1 r2 m q k)
def aaF(g:Int->Int->PyData)(w:W)(w':W)(M:MH)(Q:QD):Prop:=∃ i j,w=.d (.int i)/\w'=.d (.int j)/\Q (.d (g i j)) M
def rdI(C:Int->Int->Prop)(g:Int->Int->PyData)(w:W)(w':W)(M:MH)(Q:QD):Prop:=∃ i j,w=.d (.int i)/\w'=.d (.int j)/\C i j/\Q (.d (g i j)) M
theorem kQ(hg:∀ i j H,ay K H (gd i j) (g i j)):OpD K (rI0 g) (aaF gd):=by intro x y H w w' M Qd Q r1 r2 m ⟨i,j,e1,e2,q⟩ k;subst e1;subst e2;simp only[aA,ay] at r1 r2;exact⟨i,j,r1,r2,k _ H (.d (gd i j)) M (Kp.refl H) (hg i j H) m q⟩
theorem abc(hg:∀ i j H,ay K H (gd i j) (g i j)):OpD K (rI C g) (rdI C gd):=by intro x y H w w' M Qd Q r1 r2 m ⟨i,j,e1,e2,c,q⟩ k;subst e1;subst e2;simp only[aA,ay] at r1 r2;exact⟨i,j,r1,r2,c,k _ H (.d (gd i j)) M (Kp.refl H) (hg i j H) m q⟩
def acQ(w w':W)(M:MH)(Q:QD):Prop:=aaF (λ i j=>.int (i-j)) w w' M Q
def gf(w w':W)(M:MH)(Q:QD):Prop:=rdI ade (λ i j=>.int (i * j)) w w' M Q
def eV(w w':W)(M:MH)(Q:QD):Prop:=rdI (λ _ j=>0<j) (λ i j=>.int (i % j)) w w' M Q
def tX(w w':W)(M:MH)(Q:QD):Prop:=rdI afG (λ i j=>.int (i / j)) w w' M Q
def dG(w:W)(w':W)(M:MH)(Q:QD):Prop:=aaF (λ i j=>.int (i+j)) w w' M Q\/∃ x y,w=.d (.str x)/\w'=.d (.str y)/\x.length+y.length<=sizeLine/\Q (.d (.str (x++y))) M
theorem aaH:OpD K (rI0 λ i j=>.int (i-j)) acQ:=kQ λ _ _ _=>by simp[ay]
theorem g9:OpD K (rI ade λ i j=>.int (i * j)) gf:=abc λ _ _ _=>by simp[ay]
theorem fG:OpD K (rI (λ _ j=>0<j) λ i j=>.int (i % j)) eV:=abc λ _ _ _=>by simp[ay]
theorem vZ:OpD K (rI afG λ i j=>.int (i / j)) tX:=abc λ _ _ _=>by simp[ay]
def aaO:R2:=λ x y H Q=>∃ i j,x=.str i/\y=.str j/\i.length+j.length<=sizeLine/\Q (.str (i++j)) H
theorem xh:OpD K aaO (λ w w' M Q=>∃ x y,w=.d (.str x)/\w'=.d (.str y)/\x.length+y.length<=sizeLine/\Q (.d (.str (x++y))) M):=by intro x y H w w' M Qd Q r1 r2 m ⟨i,j,e1,e2,c,q⟩ k;subst e1;subst e2;simp only[aA,ay] at r1 r2;exact⟨i,j,r1,r2,c,k _ H (.d (.str (i++j))) M (Kp.refl H) (by simp[aA,ay]) m q⟩
theorem cJ:OpR X (binaryOp .Add) (λ x y H Q=>rI0 (λ i j=>.int (i+j)) x y H Q\/aaO x y H Q):=OpR.or acX sN
theorem cf:OpD K (λ x y H Q=>rI0 (λ i j=>.int (i+j)) x y H Q\/aaO x y H Q) dG:=OpD.or (kQ λ _ _ _=>by simp[ay]) xh
def rS(g:Str->Str->Bool):R2:=λ x y H Q=>∃ i j,x=.str i/\y=.str j/\Q (.bl (g i j)) H
def rdS(g:Str->Str->Bool)(w:W)(w':W)(M:MH)(Q:QD):Prop:=∃ i j,w=.d (.str i)/\w'=.d (.str j)/\Q (.d (.bool (g i j))) M
theorem afN:OpD K (rS g) (rdS g):=by intro x y H w w' M Qd Q r1 r2 m ⟨i,j,e1,e2,q⟩ k;subst e1;subst e2;simp only[aA,ay] at r1 r2;exact⟨i,j,r1,r2,k _ H (.d (.bool (g i j))) M (Kp.refl H) (by simp[aA,ay]) m q⟩
theorem vc:OpR X (compareOp .LtE) (rS λ x y=>!decide (y.cps.toList<x.cps.toList)):=by intro pins s σ H x y v u Q I rx ry h;obtain⟨i,j,rfl,rfl,q⟩:=h;obtain⟨t,rfl⟩:=rx;obtain⟨t',rfl⟩:=ry;exact PySem.P.le_str ⟨.bl _,H,I,rfl,q⟩
def ag5(w:W)(w':W)(M:MH)(Q:QD):Prop:=aaF (λ i j=>.bool (decide (i<=j))) w w' M Q\/rdS (λ x y=>!decide (y.cps.toList<x.cps.toList)) w w' M Q
theorem ad9:OpR X (compareOp .LtE) (λ x y H Q=>rI0 (λ i j=>.bl (decide (i<=j))) x y H Q\/rS (λ x y=>!decide (y.cps.toList<x.cps.toList)) x y H Q):=OpR.or agx vc
theorem abL:OpD K (λ x y H Q=>rI0 (λ i j=>.bl (decide (i<=j))) x y H Q\/rS (λ x y=>!decide (y.cps.toList<x.cps.toList)) x y H Q) ag5:=OpD.or (kQ λ _ _ _=>by simp[ay]) afN
def afh(w w':W)(M:MH)(Q:QD):Prop:=aaF (λ i j=>.bool (decide (i<j))) w w' M Q
def tO(w w':W)(M:MH)(Q:QD):Prop:=aaF (λ i j=>.bool (decide (j<i))) w w' M Q
def agr(w w':W)(M:MH)(Q:QD):Prop:=aaF (λ i j=>.bool (decide (j<=i))) w w' M Q
theorem wb:OpD K (rI0 λ i j=>.bl (decide (i<j))) afh:=kQ λ _ _ _=>by simp[ay]
theorem iy:OpD K (rI0 λ i j=>.bl (decide (j<i))) tO:=kQ λ _ _ _=>by simp[ay]
theorem adT:OpD K (rI0 λ i j=>.bl (decide (j<=i))) agr:=kQ λ _ _ _=>by simp[ay]
def agF(w:W)(w':W)(M:MH)(Q:QD):Prop:=∃ d d',w=.d d/\w'=.d d'/\fT d d'=true/\Q (.d (.bool (PyData.eqv d d'))) M
theorem aeg:OpD K (λ x y H Q=>∃ d d',ay K H d x/\ay K H d' y/\fT d d'=true/\Q (.bl (PyData.eqv d d')) H) agF:=by intro x y H w w' M Qd Q r1 r2 m ⟨d,d',e1,e2,o1,q⟩ k;subst e1;subst e2;exact⟨d,d',r1,r2,o1,k _ H (.d (.bool _)) M (Kp.refl H) (by simp[aA,ay]) m q⟩
def acw:W->Bool
 | .d (.str z)=>decide (z.length<=sizeLine)
 | _=>true
def ixW(M:MH):W->Int->Option W
 | .d (.list ds),i=>(atI ds i).map W.d
 | .d (.tuple ds),i=>(atI ds i).map W.d
 | .d (.str z),i=>(atI z.cps.toList i).map λ c=>W.d (.str ⟨#[c]⟩)
 | .m a,i=>match M a with
  | some (.lst ws)=>atI ws i
  | some (.tup ws)=>atI ws i
  | _=>none
 | _,_=>none
inductive RIx(w:W) (w':W) (M:MH) (Q:QD):Prop
 | mk (i:Int) (x:W) (z0:w'=.d (.int i)) (z1:ixW M w i=some x) (z2:acw w=true) (q:Q x M):RIx w w' M Q
def cU(w:W)(w':W)(M:MH)(Q:QD):Prop:=RIx w w' M Q
theorem rP(r:aQ K H ds vs)(e:atI ds i=some d):∃ v,atI vs i=some v/\ay K H d v:=by
 unfold atI at e ⊢;rw[r.length];cases q:ixN ds.length i with
 | none=>rw[q] at e;cases e
 | some j =>
  rw[q] at e;exact r.get e
theorem nP(r:aI K H ds vs)(e:atI ds i=some d):∃ v,atI vs i=some v/\aA K H d v:=by
 unfold atI at e ⊢;rw[<- r.length];cases q:ixN ds.length i with
 | none=>rw[q] at e;cases e
 | some j =>
  rw[q] at e;exact r.get e
theorem ba:OpD K (rIx K) cU:=by
 intro x y H w w' M Qd Q r1 r2 m ⟨i,z,e2,ei,hf,q⟩ k;subst e2;simp only[aA,ay] at r2;cases w with
 | t n=>simp[ixW] at ei
 | m a =>
  simp only[aA] at r1;simp only[ixW] at ei;cases hm:M a with
  | none=>rw[hm] at ei;cases ei
  | some mo =>
   rw[hm] at ei;cases mo with
   | lst ws =>
    obtain⟨vs,e1,rw1⟩:=m a _ hm;obtain⟨v,e3,rv⟩:=nP rw1 ei;exact .inl ⟨a,vs,i,v,r1,r2,SqL.of e1,e3,k v H z M (Kp.refl H) rv m q⟩
   | dic _=>cases ei
   | dct _=>cases ei
   | fdic _=>cases ei
   | fdct _=>cases ei
   | ins _ _=>cases ei
   | tup ws =>
    obtain⟨vs,e1,rw1⟩:=m a _ hm;obtain⟨v,e3,rv⟩:=nP rw1 ei;exact .inr (.inl ⟨a,vs,i,v,r1,r2,.inl (.inl e1),e3,k v H z M (Kp.refl H) rv m q⟩)
   | flst _=>cases ei
   | exc _ _=>cases ei
   | code _ _=>cases ei
 | d d =>
  cases d with
  | list ds =>
   simp only[aA,ay] at r1;obtain⟨a,vs,e1,hs,ra⟩:=r1;simp only[ixW] at ei;cases h:atI ds i with
   | none=>rw[h] at ei;cases ei
   | some d =>
    rw[h] at ei;cases ei;obtain⟨v,e3,rv⟩:=rP ra h;exact .inl ⟨a,vs,i,v,e1,r2,hs.sq,e3,k v H (.d d) M (Kp.refl H) rv m q⟩
  | tuple ds =>
   simp only[aA,ay] at r1;obtain⟨a,vs,e1,hs,ra⟩:=r1;simp only[ixW] at ei;cases h:atI ds i with
   | none=>rw[h] at ei;cases ei
   | some d =>
    rw[h] at ei;cases ei;obtain⟨v,e3,rv⟩:=rP ra h;exact .inr (.inl ⟨a,vs,i,v,e1,r2,hs,e3,k v H (.d d) M (Kp.refl H) rv m q⟩)
  | str s =>
   simp only[aA,ay] at r1;simp only[ixW] at ei;cases h:atI s.cps.toList i with
   | none=>rw[h] at ei;cases ei
   | some c =>
    rw[h] at ei;cases ei;exact .inr (.inr ⟨s,i,c,r1,r2,of_decide_eq_true hf,h,k _ H (.d (.str ⟨#[c]⟩)) M (Kp.refl H) (by simp[aA,ay]) m q⟩)
  | _=>simp[ixW] at ei
theorem aa7(h:PE X e t):PE X e (λ σ H Q=>t σ H λ v H1=>Q v H1\/∃ p u,v=.ref p/\H1 p=some u/\Fz u/\∀ o,Q v (upd H1 p (.frz o u))):=by
 intro pins s σ H Q I hq;refine thn (h pins s σ H _ I hq) λ v s1 hq41=>?_;obtain⟨x,H1,I1,r1,q⟩:=hq41;rcases q with q | ⟨p,u,e1,e2,f,q⟩
 ·exact⟨x,_,I1,r1,q⟩
 ·obtain⟨o,I2⟩:=I1.freeze e2 f;exact⟨x,_,I2,r1,q o⟩
def ag3:V->Option Int->Option Int->Hp->VK->Prop:=λ x lo hi H Q=>∃ z,x=.str z/\z.length<=sizeLine/\Q (.str (Txt.slice z lo hi)) H
theorem aeT:SlR X ag3:=by
 intro pins s σ H x v vl vu lo hi sl Q I rx hs pl pu h;obtain⟨z,rfl,hz,q⟩:=h;obtain⟨t,rfl⟩:=rx;have fin:∀ t' k,EP X pins σ Q (.str (Txt.slice z lo hi) t') {s with toks:=k}:=λ t' k=>⟨.str _,H,I.tok _,⟨_,rfl⟩,q⟩;refine⟨"str",_,F.slot_str_getitem.lookup,typeIs_str _ _ _,?_⟩;cases pl with
 | none =>
  cases pu with
  | none=>exact wpAny_getItem_str_slice (l:=none) (u:=none) (st:=none) hs rfl (post_val_or_str ⟨Nat.le_trans (Txt.slice_le z _ _) hz,fin⟩)
  | int j uj=>exact wpAny_getItem_str_slice (l:=none) (u:=some (j,uj)) (st:=none) hs rfl (post_val_or_str ⟨Nat.le_trans (Txt.slice_le z _ _) hz,fin⟩)
 | int i ui =>
  cases pu with
  | none=>exact wpAny_getItem_str_slice (l:=some (i,ui)) (u:=none) (st:=none) hs rfl (post_val_or_str ⟨Nat.le_trans (Txt.slice_le z _ _) hz,fin⟩)
  | int j uj=>exact wpAny_getItem_str_slice (l:=some (i,ui)) (u:=some (j,uj)) (st:=none) hs rfl (post_val_or_str ⟨Nat.le_trans (Txt.slice_le z _ _) hz,fin⟩)
abbrev TOd:=DS->MH->(Option Int->MH->Prop)->Prop
def upO(K:FG)(t:TOd):TO:=λ σ H Q=>∃ τ M Qd,Abs K H σ τ M/\t τ M Qd/\∀ b H' M',Kp H H'->cB K H' M'->Qd b M'->Q b H'
abbrev POd(X:Cx)(e:Option Expr)(t:TOd):Prop:=PO X e (upO X.K t)
theorem aha(h:PO X e t)(k:∀ σ H Q,t' σ H Q->t σ H Q):PO X e t':=λ pins s σ H Q I q=>h pins s σ H Q I (k σ H Q q)
def p6(_:DS)(M:MH)(Q:Option Int->MH->Prop):Prop:=Q none M
def xc(t:TD)(τ:DS)(M:MH)(Q:Option Int->MH->Prop):Prop:=t τ M λ w M1=>∃ i,w=.d (.int i)/\Q (some i) M1
theorem xo(h:PD X e te):POd X (some e) (xc te):=aha (aam h) λ σ H Q ⟨τ,M,Qd,A,q,k⟩=>⟨τ,M,_,A,q,λ v H1 w M1 kp r m hq42=>by obtain⟨i,e,q1⟩:=hq42;subst e;simp only[aA,ay] at r;exact⟨i,r,k _ H1 M1 kp m q1⟩⟩
def cutD(xs:List α)(lo hi:Option Int):List α:=(xs.drop (HT.sIx xs.length 0 lo)).take (HT.sIx xs.length xs.length hi-HT.sIx xs.length 0 lo)
def zh(n:Nat)(lo hi:Option Int):Bool:=decide (HT.sIx n 0 lo=0/\HT.sIx n n hi=n)
def slW:W->Option Int->Option Int->Option W
 | .d (.list ds),lo,hi=>some (.d (.list (cutD ds lo hi)))
 | .d (.tuple ds),lo,hi=>if zh ds.length lo hi then none else some (.d (.tuple (cutD ds lo hi)))
 | .d (.str z),lo,hi=>some (.d (.str (Txt.slice z lo hi)))
 | _,_,_=>none
def dSl(te:TD)(tl th:TOd)(τ:DS)(M:MH)(Q:QD):Prop:=te τ M λ w M1=>tl τ M1 λ lo M2=>th τ M2 λ hi M3=>∃ z,slW w lo hi=some z/\acw w=true/\Q z M3
theorem ae0:SlR X (λ x lo hi H Q=>agS X.K x lo hi H Q\/agM X.K x lo hi H Q\/ag3 x lo hi H Q):=abx.or (ac2.or aeT)
theorem aQ.cut(r:aQ K H ds vs)(lo hi:Option Int):aQ K H (cutD ds lo hi) (zt vs lo hi):=by
 unfold cutD zt;rw[r.length];exact(r.drop _).take _
theorem yA{te:TD}{lo hi:Option Expr}{tl th:TOd}{pos p2:Pos}(he:PD X e te)(hl:POd X lo tl)(hu:POd X hi th):PD X (.Subscript e (.Slice lo hi none p2) pos) (dSl te tl th):=
 fE (aa7 (wU ae0 he hl hu)) λ σ H Q h=>by
  obtain⟨τ,M,Qd,A,h,k⟩:=h;refine⟨τ,M,_,A,h,λ v H1 w M1 kp1 r1 m1 q1=>⟨τ,M1,_,A.go kp1 m1,q1,λ lo H2 M2 kp2 m2 q2=>⟨τ,M2,_,A.go (kp1.trans kp2) m2,q2,λ hi H3 M3 kp3 m3 q3=>?_⟩⟩⟩;obtain⟨z,ez,hf,q⟩:=q3;have kp:=(kp1.trans kp2).trans kp3;have r:=r1.keep (kp2.trans kp3);cases w with
  | t n=>simp[slW] at ez
  | m a=>simp[slW] at ez
  | d d =>
   cases d with
   | list ds =>
    simp only[slW] at ez;cases ez;simp only[aA,ay] at r;obtain⟨a,vs,e1,hs,ra⟩:=r;exact .inl ⟨a,vs,e1,hs.sq,λ p hp=>.inr (my hp (aQ.cut ra lo hi) m3 q (kgo k kp))⟩
   | tuple ds =>
    simp only[slW] at ez
    split at ez
    ·cases ez
    ·rename_i hw
     cases ez;simp only[aA,ay] at r;obtain⟨a,vs,e1,hs,ra⟩:=r;refine .inr (.inl ⟨a,vs,e1,hs,?_,λ p hp=>.inl ?_⟩)
     ·rw[ra.length]
      simpa [zh] using hw
     ·refine k _ _ (.d (.tuple _)) M3 (kp.trans (Kp.new hp)) ?_ (m3.new hp) q;simp only[aA,ay];exact⟨p,_,rfl,.inl (.inl ao),(aQ.cut ra lo hi).keep (Kp.new hp)⟩
   | str s =>
    simp only[slW] at ez;cases ez;simp only[aA,ay] at r;exact .inr (.inr ⟨s,r,of_decide_eq_true hf,.inl (k _ H3 (.d (.str _)) M3 kp (by simp[aA,ay]) m3 q)⟩)
   | _=>simp[slW] at ez
def xE(to ti:TD)(v:W)(τ:DS)(M:MH)(Q:DS->MH->Prop):Prop:=to τ M λ w M1=>ti τ M1 λ w' M2=>∃ a ws i j,w=.m a/\w'=.d (.int i)/\M2 a=some (.lst ws)/\ixN ws.length i=some j/\Q τ (ax M2 a (.lst (ws.set j v)))
theorem t7(m:cB K H M)(e:H a=some (.lst vs))(rw1:aI K H ws vs)(rv:aA K H w v) :
  Kp H (upd H a (.lst (vs.set j v)))/\cB K (upd H a (.lst (vs.set j v))) (ax M a (.lst (ws.set j w))):=by
 have kp:Kp H (upd H a (.lst (vs.set j v))):=Kp.set e (λ xs z=>nomatch z) λ _ _ z=>nomatch z;exact⟨kp,m.put kp ⟨_,ao,(aI.set rv j rw1).keep kp⟩⟩
theorem aai(ho:PD X o to)(hi:PD X i ti)
  (ha:∀ v,assign (.Subscript o i pos) X.env v=(do
   let ov <- holding [v] (eval o X.env)
   let iv <- holding [v,ov] (eval i X.env)
   standAt pos
   holding [v,ov,iv] (setItem ov iv v)
   release [v,ov,iv] []):=by intro _;rfl):PGd X (.Subscript o i pos) (xE to ti):=agC (ad3 ho hi set_list ha) λ v σ H Q h=>by
 obtain⟨w,τ,M,Qd,rv,A,h,k⟩:=h;refine⟨τ,M,_,A,h,λ x H1 wo M1 kp1 r1 m1 q1=>⟨τ,M1,_,A.go kp1 m1,q1,λ y H2 wi M2 kp2 r2 m2 q2=>?_⟩⟩;obtain⟨a,ws,i,j,e1,e2,hm,hj,q⟩:=q2;subst e1;subst e2;simp only[aA,ay] at r1 r2;obtain⟨vs,e3,rw1⟩:=m2 a _ hm;have kp:=kp1.trans kp2;obtain⟨kp3,m3⟩:=t7 (j:=j) m2 e3 rw1 (rv.keep kp);exact⟨a,vs,i,j,r1,r2,e3,by rw[<- rw1.length];exact hj,k σ _ τ _ (kp.trans kp3) (A.go (kp.trans kp3) m3) q⟩
theorem yc:agX X (af3 X.K):=by
 intro pins s σ H o i ov iv Q I ro ri h;obtain⟨p,xs,k,z,rfl,rfl,hq,he,q⟩:=h;cases ro;obtain⟨t,rfl⟩:=ri;obtain⟨its,r,pl,hz⟩:=I.list hq;obtain⟨j,h1,h2,h3,h4,h5⟩:=ma he;obtain⟨w,ew,rw'⟩:=r.get h2;have hl:=r.length;have hn:=lb;have fin:EP X pins σ Q w s:=⟨z,H,I,rw',q⟩
 by_cases h0:0<=k
 ·have hj:k.toNat=j:=by rw[seqIndex_of h0 h5] at h1;exact Option.some.inj h1
  exact wpAny_getItem_list pl.isList h0 (by omega) (by rw[hj];simpa using ew) fin
 ·have hj:(k+(its.toArray.size:Int)).toNat=j:=by rw[seqIndex_neg (by omega) h4] at h1;rw[List.size_toArray,<- hl];exact Option.some.inj h1
  exact wpAny_getItem_list_neg pl.isList (by omega) (by rw[List.size_toArray]<;>omega) (by omega) (by rw[hj];simpa using ew) fin
def xj(to ti te:TD)(f:Int->Int->Int)(D:Ed)(τ:DS)(M:MH):Prop:=to τ M λ w M1=>ti τ M1 λ w' M2=>∃ a ws i j n,w=.m a/\w'=.d (.int i)/\M2 a=some (.lst ws)/\ixN ws.length i=some j/\ws[j]? =some (.d (.int n)) /\
 te τ M2 λ y M3=>∃ n',y=.d (.int n')/\M3=M2/\D.nx τ (ax M3 a (.lst (ws.set j (.d (.int (f n n'))))))
theorem xw(ho:PD X o to)(hi:PD X i ti)(he:PD X e te)(hp:PIp X op (ipI f))
  (ha:∀ ov iv new,augStore i ov iv new=(do holding [new,ov,iv] (setItem ov iv new);release [new,ov,iv] [];pure .next):=by intros;rfl):PSd X (.AugAssign (.Subscript o i tpos) op e pos) (xj to ti te f):=
 rY (aak ho hi yc he hp set_list ha) λ D σ H h=>by
  obtain⟨τ,M,Dd,A,h,k1,_⟩:=h;refine⟨τ,M,_,A,h,λ x H1 wo M1 kp1 r1 m1 q1=>⟨τ,M1,_,A.go kp1 m1,q1,λ y H2 wi M2 kp2 r2 m2 q2=>?_⟩⟩;obtain⟨a,ws,i,j,n,e1,e2,hm,hj,hn,q⟩:=q2;subst e1;subst e2;simp only[aA,ay] at r1 r2;obtain⟨vs,e3,rw1⟩:=m2 a _ hm;obtain⟨v,e4,rv⟩:=rw1.get hn;simp only[aA,ay] at rv;have hj':ixN vs.length i=some j:=by rw[<- rw1.length];exact hj
  refine⟨a,vs,i,v,r1,r2,SqL.of e3,by unfold atI;rw[hj'];exact e4,?_⟩;refine⟨τ,M2,_,A.go (kp1.trans kp2) m2,q,λ z H3 wz M3 kp3 r3 m3 q3=>?_⟩;obtain⟨n',e5,e6,qn⟩:=q3;subst e5;subst e6;simp only[aA,ay] at r3;refine⟨n,n',rv,r3,?_⟩;obtain⟨vs',e3',rw2⟩:=m3 a _ hm;have kp:=(kp1.trans kp2).trans kp3;obtain⟨kp4,m4⟩:=t7 (j:=j) (v:=.int (f n n')) (w:=.d (.int (f n n'))) m3 e3' rw2 (by simp[aA,ay]);exact⟨a,vs',i,j,r1,r2,e3',by rw[<- rw2.length];exact hj,k1 σ _ τ _ (kp.trans kp4) (A.go (kp.trans kp4) m4) qn⟩
end
section
variable {X:Cx}{K:FG}{tg:Expr}
def Its(z:Str):It:=⟨λ i _=>i<z.cps.size,λ i H x H'=>H'=H/\∃ c,z.cps[i]? =some c/\x=.str ⟨#[c]⟩,λ i _=>z.cps.size<=i⟩
theorem rQ(it:Addr)(T:String)(z:Str)(t:Tok)
  (hT:["enumerate", "zip", "dict_itemiterator", "dict_reverseitemiterator", "odict_iterator", "itertools.zip_longest", "itertools.pairwise"].contains T=false)
  (W:∀ A:Around,A.handled=none->Walks P w A it [it] [it] z.cps.size (SignAt z) (λ i h=>h.IsStrIter it T z t i))(hself:∀ (A:Around) (i:Nat) (s:Shared) (Q:VP) (E:VP),s.heap.IsStrIter it T z t i->Q (.ref it) s->wpAny (model P w) A (pyIter (.ref it)) Q E s)
  (hend:∀ (A:Around) (i:Nat) (s:Shared) (Q:Option Value->Shared->Prop) (E:VP),A.handled=none->s.heap.IsStrIter it T z t i->z.cps[i]? =none->(∀ h',Heap.ExtBut it s.heap h'->Q none {s with heap:=h'})->wpAny (model P w) A (pyNext (.ref it)) Q E s) :
  Turn P w K tg (Its z) [it] it (λ i h=>h.IsStrIter it T z t i) where
 mem:=by simp
 obj:=λ i h st b hb=>by
  have e:b=it:=by simpa using hb
  subst e;obtain⟨o,e,c,d⟩:=st;exact⟨o,e,λ v q=>by rw[d] at q;cases q⟩
 keep:=λ i h h' st k=>by obtain⟨o,e,r⟩:=st;exact⟨o,k it (by simp) o e,r⟩
 item:=by intro X hP hw hK hc i pins s σ H E I hf st hg;subst hP hw hK;obtain⟨f0,f1,f2,f3,f4,f5⟩:=hf it (by simp);refine(W X.A (I.ok.hd hc)).item i s _ _ hg st λ v h' tk hv st' kk=>?_;obtain⟨c,u,hc',rfl⟩:=hv;have I1:Inv X pins σ H {s with heap:=h',toks:=tk}:=I.turned (λ b o hb e=>kk b o (by simpa using hb) e) f0 f1 f3 f4 f5;obtain⟨o,e,cl,d⟩:=id st';exact⟨_,rfl,su (s:={s with heap:=h',toks:=tk}) e cl d hT ⟨.str ⟨#[c]⟩,H,I1,⟨u,rfl⟩,⟨rfl,c,hc',rfl⟩,st',λ b hb=>(hf b hb).1⟩⟩
 done:=by intro X hP hw hK hc i pins s σ H E I hf st hg;subst hP hw hK;obtain⟨f0,f1,f2,f3,f4,f5⟩:=hf it (by simp);have hn:z.cps.size<=i:=hg;exact hend X.A i s _ E (I.ok.hd hc) st (by simp[hn]) λ h' eb=>⟨rfl,I.turned (t':=s.toks) (λ b o hb e=>eb b o hb e) f0 f1 f3 f4 f5⟩
 self:=hself
section
variable {pins:PN}{σ:St}{H:Hp}{s:Shared}{R:It->Hp->Prop}{E:VP}
theorem ad6(I:Inv X pins σ H s)(q:R (Its z) H):wpAny (model X.prog X.w) X.A (pyIter (.str z t)) (PIE X pins σ tg R) E s:=by
 cases ha:z.cps.all (·<128)
 ·refine wpAny_pyIter_wide ha ?_;refine⟨s.heap.objs.size,[s.heap.objs.size],_,_,H,rfl,I.kept (t':=s.toks) λ b o e=>Heap.get?_push_of_some _ e,
   rQ _ "str_iterator" z t (by decide) (λ A hA=>Walks.strWide hA _ z t) (λ A i s Q E st h=>wpAny_pyIter_striter_wide st h) (λ A i s Q E hh st hx hQ=>wpAny_pyNext_wide_end hh st hx hQ),⟨_,Heap.get?_push_size _ rfl,rfl,rfl⟩,λ b hb=>?_,q⟩
  have e:b=s.heap.objs.size:=by simpa using hb
  subst e;exact I.pf (Nat.le_refl _) (I.hok.fresh (Nat.le_refl _))
 ·refine wpAny_pyIter_ascii ha ?_;refine⟨s.heap.objs.size,[s.heap.objs.size],_,_,H,rfl,I.kept (t':=s.toks) λ b o e=>Heap.get?_push_of_some _ e,
   rQ _ "str_ascii_iterator" z t (by decide) (λ A hA=>Walks.strAscii hA _ z t) (λ A i s Q E st h=>wpAny_pyIter_striter_ascii st h) (λ A i s Q E hh st hx hQ=>wpAny_pyNext_ascii_end hh st hx hQ),⟨_,Heap.get?_push_size _ rfl,rfl,rfl⟩,λ b hb=>?_,q⟩
  have e:b=s.heap.objs.size:=by simpa using hb
  subst e;exact I.pf (Nat.le_refl _) (I.hok.fresh (Nat.le_refl _))
theorem aba(I:Inv X pins σ H s)(hq:SqL X.K H a xs)(q:R (Itl X.K a) H):wpAny (model X.prog X.w) X.A (pyIter (.ref a)) (PIE X pins σ tg R) E s:=by
 obtain⟨its,rv,p,hz⟩:=I.list hq;refine wpAny_pyIter_list p.isList ?_;refine⟨s.heap.objs.size,[s.heap.objs.size],_,_,H,rfl,I.kept (t':=s.toks) λ b o e=>Heap.get?_push_of_some _ e,u7 a _,⟨_,Heap.get?_push_size _ rfl,rfl,rfl⟩,λ b hb=>?_,q⟩;have e:b=s.heap.objs.size:=by simpa using hb
 subst e;exact I.pf (Nat.le_refl _) (I.hok.fresh (Nat.le_refl _))
theorem acx(I:Inv X pins σ H s)(hq:SqT X.K H a xs)(q:R (Itt X.K a) H):wpAny (model X.prog X.w) X.A (pyIter (.ref a)) (PIE X pins σ tg R) E s:=by
 obtain⟨its,rv,p,hz⟩:=I.tuple hq;refine wpAny_pyIter_tuple (show s.heap.IsTuple a its.toArray from p) ?_;refine⟨s.heap.objs.size,[s.heap.objs.size],_,_,H,rfl,I.kept (t':=s.toks) λ b o e=>Heap.get?_push_of_some _ e,sm a _,⟨_,Heap.get?_push_size _ rfl,rfl,rfl⟩,λ b hb=>?_,q⟩;have e:b=s.heap.objs.size:=by simpa using hb
 subst e;exact I.pf (Nat.le_refl _) (I.hok.fresh (Nat.le_refl _))
end
def ahw(K:FG)(tl:TE):TI:=λ σ H R=>tl σ H λ x H1=>(∃ a xs,x=.ref a/\SqL K H1 a xs/\R (Itl K a) H1)\/(∃ a xs,x=.ref a/\SqT K H1 a xs/\R (Itt K a) H1)\/∃ z,x=.str z/\R (Its z) H1
theorem zw(hl:PE X l tl):PI X tg l (ahw X.K tl):=by
 intro pins s σ H R I h;refine thn (hl pins s σ H _ I h) λ v s1 hq43=>?_;obtain⟨x,H1,I1,r1,q1⟩:=hq43;rcases q1 with ⟨a,xs,e,hq,q⟩ | ⟨a,xs,e,hq,q⟩ | ⟨z,e,q⟩
 ·subst e;cases r1;exact aba I1 hq q
 ·subst e;cases r1;exact acx I1 hq q
 ·subst e;obtain⟨t,rfl⟩:=r1;exact ad6 I1 q
def ItD(K:FG)(J:It)(H0:Hp)(ws:List W):Prop:=∀ H,Kp H0 H->∀ i:Nat,(i<ws.length->J.go i H)/\(ws.length<=i->J.stop i H) /\
 ∀ x H',i<ws.length->J.yld i H x H'->Kp H H'/\(∀ M,cB K H M->cB K H' M)/\∃ w,ws[i]? =some w/\aA K H' w x
abbrev TId:=DS->MH->(List W->MH->Prop)->Prop
def upI(K:FG)(t:TId):TI:=λ σ H R=>∃ τ M Rd,Abs K H σ τ M/\t τ M Rd/\∀ J H' ws M',Kp H H'->cB K H' M'->ItD K J H' ws->Rd ws M'->R J H'
abbrev PId(X:Cx)(tg iter:Expr)(t:TId):Prop:=PI X tg iter (upI X.K t)
theorem aaM(h:PI X tg iter t)(k:∀ σ H R,t' σ H R->t σ H R):PI X tg iter t':=λ pins s σ H R I q=>h pins s σ H R I (k σ H R q)
def jq:W->Option (List W)
 | .d (.list ds)=>some (ds.map W.d)
 | .d (.tuple ds)=>some (ds.map W.d)
 | .d (.str z)=>some (z.cps.toList.map λ c=>W.d (.str ⟨#[c]⟩))
 | _=>none
def iA(te:TD)(τ:DS)(M:MH)(R:List W->MH->Prop):Prop:=te τ M λ w M1=>∃ ws,jq w=some ws/\R ws M1
theorem aav(hs:SqT K H a vs)(ra:aQ K H ds vs):ItD K (Itt K a) H (ds.map W.d):=λ H1 kp i=>by
 have hl:=ra.length;refine⟨λ hi=>?_,λ hi=>⟨vs,SqT.keep kp hs,by rw[List.length_map] at hi;omega⟩,λ x H' hi y=>?_⟩
 ·rw[List.length_map] at hi;exact⟨vs,vs[i]'(by omega),SqT.keep kp hs,by simp⟩
 ·obtain⟨e,y⟩:=y;subst e;have ev:=y vs (SqT.keep kp hs);obtain⟨d,e1,rd⟩:=(ra.keep kp).get' ev;exact⟨Kp.refl _,λ M m=>m,.d d,by simp[e1],rd⟩
theorem aaz(z:Str):ItD K (Its z) H (z.cps.toList.map λ c=>W.d (.str ⟨#[c]⟩)):=λ H1 kp i=>by refine⟨λ hi=>(show i<z.cps.size by simpa using hi),λ hi=>(show z.cps.size<=i by simpa using hi),λ x H' hi y=>?_⟩;obtain⟨e,c,hc,ex⟩:=y;subst e;subst ex;exact⟨Kp.refl _,λ M m=>m,.d (.str ⟨#[c]⟩),by simp[hc],by simp[aA,ay]⟩
theorem vF(lo:Int)(n:Nat):ItD K (Itr lo n) H ((List.range n).map λ i:Nat=>W.d (.int (lo+(i:Int)))):=λ H1 kp i=>by refine⟨λ hi=>(show i<n by simpa using hi),λ hi=>(show n<=i by simpa using hi),λ x H' hi y=>?_⟩;obtain⟨e,ex⟩:=y;subst e;subst ex;simp at hi;exact⟨Kp.refl _,λ M m=>m,.d (.int (lo+i)),by simp[hi],by simp[aA,ay]⟩
theorem ue(h:PD X l te):PId X tg l (iA te):=aaM (zw h) λ σ H R hq44=>by
 obtain⟨τ,M,Rd,A,h,k⟩:=hq44;refine⟨τ,M,_,A,h,λ v H1 w M1 kp r m hq45=>?_⟩;obtain⟨ws,e,q⟩:=hq45;cases w with
 | t n=>simp[jq] at e
 | m a=>simp[jq] at e
 | d d =>
  cases d with
  | list ds =>
   simp only[jq] at e;cases e;simp only[aA,ay] at r;obtain⟨a,vs,e1,hs,ra⟩:=r;refine .inl ⟨a,vs,e1,hs.sq,k _ H1 _ M1 kp m ?_ q⟩;intro H2 kp2 i;have hl:=ra.length;have hs2:=(hs.keep kp2).sq;refine⟨λ hi=>?_,λ hi=>⟨vs,hs2,by rw[List.length_map] at hi;omega⟩,λ x H' hi y=>?_⟩
   ·rw[List.length_map] at hi;exact⟨vs,vs[i]'(by omega),hs2,by simp⟩
   ·obtain⟨e,y⟩:=y;subst e;have ev:=y vs hs2;obtain⟨d,e1,rd⟩:=(ra.keep kp2).get' ev;exact⟨Kp.refl _,λ M m=>m,.d d,by simp[e1],rd⟩
  | tuple ds =>
   simp only[jq] at e;cases e;simp only[aA,ay] at r;obtain⟨a,vs,e1,hs,ra⟩:=r;exact .inr (.inl ⟨a,vs,e1,hs,k _ H1 _ M1 kp m (aav hs ra) q⟩)
  | str z =>
   simp only[jq] at e;cases e;simp only[aA,ay] at r;exact .inr (.inr ⟨z,r,k _ H1 _ M1 kp m (aaz z) q⟩)
  | _=>simp[jq] at e
def lz(lo:Int)(n:Nat):List W:=(List.range n).map λ i:Nat=>W.d (.int (lo+(i:Int)))
def lZ(ta:TAd)(τ:DS)(M:MH)(R:List W->MH->Prop):Prop:=ta τ M λ ws M1=>∃ j:Int,ws=[.d (.int j)]/\-(2 ^ 62)<=j/\j<2 ^ 62/\R (lz 0 j.toNat) M1
def ux(ta:TAd)(τ:DS)(M:MH)(R:List W->MH->Prop):Prop:=ta τ M λ ws M1=>∃ i j:Int,ws=[.d (.int i),.d (.int j)]/\(-(2 ^ 62)<=i/\i<2 ^ 62/\-(2 ^ 62)<=j/\j<2 ^ 62)/\R (lz i (j-i).toNat) M1
theorem eB(r:aI K H [w] vs):∃ v,vs=[v]/\aA K H w v:=by
 cases r with
 | cons r1 r2=>cases r2;exact⟨_,rfl,r1⟩
theorem zI(r:aI K H [w,w'] vs):∃ v v',vs=[v,v']/\aA K H w v/\aA K H w' v':=by
 cases r with
 | cons r1 r2 =>
  cases r2 with
  | cons r3 r4=>cases r4;exact⟨_,_,rfl,r1,r3⟩
theorem sS(hg:Gl X "range")(hm:X.mg "range" = none)(ha:PAd X [a] ta)(hs:starEach [a] X.env=[(false,eval a X.env)]:=by rfl):PId X tg (.Call (.Name "range" p) [a] [] pos) (lZ ta):=
 aaM (vd hg hm ha hs) λ σ H R ⟨τ,M,Rd,A,h,k⟩=>⟨τ,M,_,A,h,λ vs H1 ws M1 kp r m hq46=>by obtain⟨j,e,h1,h2,q⟩:=hq46;subst e;obtain⟨v,e1,r1⟩:=eB r;simp only[aA,ay] at r1;subst r1;exact⟨j,e1,h1,h2,k _ H1 _ M1 kp m (vF 0 j.toNat) q⟩⟩
theorem sO(hg:Gl X "range")(hm:X.mg "range" = none)(ha:PAd X [a,b] ta)(hs:starEach [a,b] X.env=[(false,eval a X.env),(false,eval b X.env)]:=by rfl)(hs2:starEach [b] X.env=[(false,eval b X.env)]:=by rfl) :
  PId X tg (.Call (.Name "range" p) [a,b] [] pos) (ux ta):=
 aaM (vM hg hm ha hs hs2) λ σ H R ⟨τ,M,Rd,A,h,k⟩=>⟨τ,M,_,A,h,λ vs H1 ws M1 kp r m hq47=>by obtain⟨i,j,e,h1,q⟩:=hq47;subst e;obtain⟨v,v',e1,r1,r2⟩:=zI r;simp only[aA,ay] at r1 r2;subst r1;subst r2;exact⟨i,j,e1,h1,k _ H1 _ M1 kp m (vF i _) q⟩⟩
def ip(di:TId)(g:TGd)(tb:TSd)(D:Ed)(τ:DS)(M:MH):Prop:=di τ M λ ws M1=>∃ P:Nat->DS->MH->Prop,P 0 τ M1 /\
 (∀ i w τ M,ws[i]? =some w->P i τ M->g w τ M λ τ2 M2=>tb {D with nx:=P (i+1),ct:=P (i+1),bk:=D.nx} τ2 M2)/\∀ τ M,P ws.length τ M->D.nx τ M
theorem abV(hp:PassesOwn (model X.prog X.w) X.A X.env X.xe)(hc:X.calm=true)(hi:PId X tg iter di)(hg:PGd X tg g)(hb:o8 X body tb)
  (hs:∀ x,foldedSetIterable iter X.env x=pure x:=by intro _;rfl):PSd X (.For tg iter body [] pos) (ip di g tb):=rY (ae7 hp hc hi hg hb hs) λ D σ H hq48=>by
 obtain⟨τ,M,Dd,A,h,k1,k2,k3,k4⟩:=hq48;refine⟨τ,M,_,A,h,λ J H1 ws M1 kp m1 it hq49=>?_⟩;obtain⟨P,p0,pt,pe⟩:=hq49;refine⟨λ i n σ H'=>n=ws.length-i/\i<=ws.length/\Kp H1 H'/\∃ τ M,Abs X.K H' σ τ M/\P i τ M,⟨ws.length,by simp,Nat.zero_le _,Kp.refl _,τ,M1,A.go kp m1,p0⟩,?_⟩;rintro i n σ2 H2 ⟨rfl,hi,kp2,τ2,M2,A2,p2⟩;obtain⟨go,stop,yld⟩:=it H2 kp2 i
 by_cases hlt:i<ws.length
 ·refine .inr ⟨go hlt,λ σ3 H3=>Kp H2 H3/\∃ τ M,Abs X.K H3 σ3 τ M/\P (i+1) τ M,λ σ3 H3 ⟨kp3,τ3,M3,A3,p3⟩=>⟨ws.length-(i+1),by omega,rfl,hlt,kp2.trans kp3,τ3,M3,A3,p3⟩,λ x H3 y=>?_⟩;obtain⟨kp3,mk,w,ew,rw⟩:=yld x H3 hlt y;refine⟨w,τ2,M2,_,rw,A2.go kp3 (mk _ A2.mem),pt i w τ2 M2 ew p2,λ σ4 H4 τ4 M4 kp4 A4 q4=>?_⟩;have kq:=kp3.trans kp4;have kr:=(kp.trans kp2).trans kq;exact⟨τ4,M4,_,A4,q4,λ σ5 H5 τ5 M5 kp5 A5 q5=>⟨kq.trans kp5,τ5,M5,A5,q5⟩,λ v H5 w M5 kp5=>k2 v H5 w M5 (kr.trans kp5),λ σ5 H5 τ5 M5 kp5=>k1 σ5 H5 τ5 M5 (kr.trans kp5),λ σ5 H5 τ5 M5 kp5 A5 q5=>⟨kq.trans kp5,τ5,M5,A5,q5⟩⟩
 ·have hl:i=ws.length:=by omega
  subst hl;exact .inl ⟨stop (Nat.le_refl _),k1 σ2 H2 τ2 M2 (kp.trans kp2) A2 (pe τ2 M2 p2)⟩
def yP(k:Nat)(fr:List Nat)(τ:DS):DS:=List.replicate k none++fr.map λ j=>(τ[j]?).getD none
theorem nF(A:Abs K H σ τ M)(k:Nat)(fr:List Nat):Abs K H (lcS k fr σ) (yP k fr τ) M:=by
 refine⟨by simp[lcS,yP],λ i w e=>?_,A.mem⟩;unfold yP at e
 by_cases hi:i<k
 ·rw[List.getElem?_append_left (by simpa using hi),List.getElem?_replicate] at e
  split at e<;>cases e
 ·rw[List.getElem?_append_right (by simpa using hi),List.getElem?_map,List.length_replicate] at e;cases q:fr[i-k]? with
  | none=>rw[q] at e;cases e
  | some j =>
   rw[q] at e;have e':(τ[j]?).getD none=some w:=Option.some.inj e;have e2:τ[j]? =some (some w):=by
    cases z:τ[j]? with
    | none=>rw[z] at e';cases e'
    | some o=>rw[z] at e';exact congrArg some e'
   obtain⟨v,q1,r⟩:=A.val j w e2;refine⟨v,?_,r⟩;unfold lcS;rw[List.getElem?_append_right (by simpa using hi),List.getElem?_map,List.length_replicate,q];simp[q1]
def dLC(di:TId)(g:TGd)(tt:TTd)(te:TD)(k:Nat)(fr:List Nat)(τ:DS)(M:MH)(Q:QD):Prop:=di τ M λ ws M1=>∃ P:Nat->List PyData->DS->MH->Prop,P 0 [] (yP k fr τ) M1 /\
 (∀ i w acc τ M,ws[i]? =some w->P i acc τ M->acc.length<sizeLine/\g w τ M λ τ2 M2=>tt τ2 M2 λ b M3=>if b=true then te τ2 M3 λ y M4=>∃ d,y=.d d/\P (i+1) (acc++[d]) τ2 M4 else P (i+1) acc τ2 M3) /\
 ∀ acc τ M,P ws.length acc τ M->Q (.d (.list acc)) M
theorem acE(h:up K (dLC di g tt te k fr) σ H Q) :
  agV (tLC (upI K di) (upG K g) (upT K tt) (up K te) k fr) σ H Q:=by
 obtain⟨τ,M,Qd,A,h,kk⟩:=h;refine⟨τ,M,_,A,h,λ J H1 ws M1 kp m1 it hq50=>?_⟩;obtain⟨P,p0,pt,pe⟩:=hq50;refine⟨λ i n ys σ' H'=>n=ws.length-i/\i<=ws.length/\Kp H1 H'/\∃ acc τ M,aQ K H' acc ys/\Abs K H' σ' τ M/\P i acc τ M,⟨ws.length,by simp,Nat.zero_le _,Kp.refl _,[],_,M1,by simp[aQ],nF (A.go kp m1) k fr,p0⟩,?_⟩;rintro i n ys σ2 H2 ⟨rfl,hi,kp2,acc,τ2,M2,ra,A2,p2⟩;obtain⟨go,stop,yld⟩:=it H2 kp2 i
 by_cases hlt:i<ws.length
 ·have hlen:=ra.length;refine .inr ⟨go hlt,?_,λ x H3 y=>?_⟩
  ·obtain⟨w,hw⟩:∃ w,ws[i]? =some w:=⟨ws[i],by simp[hlt]⟩;have:=(pt i w acc τ2 M2 hw p2).1;omega
  obtain⟨kp3,mk,w,ew,rw⟩:=yld x H3 hlt y;refine⟨w,τ2,M2,_,rw,A2.go kp3 (mk _ A2.mem),(pt i w acc τ2 M2 ew p2).2,λ σ4 H4 τ4 M4 kp4 A4 q4=>⟨τ4,M4,_,A4,q4,λ b H5 M5 kp5 m5 q5=>?_⟩⟩;have kq:=(kp3.trans kp4).trans kp5;cases b with
  | false =>
   rw[if_neg Bool.false_ne_true] at q5;show(if false=true then _ else _);rw[if_neg Bool.false_ne_true];exact⟨ws.length-(i+1),by omega,rfl,hlt,kp2.trans kq,acc,τ4,M5,ra.keep kq,A4.go kp5 m5,q5⟩
  | true =>
   rw[if_pos rfl] at q5;show(if true=true then _ else _);rw[if_pos rfl];refine⟨τ4,M5,_,A4.go kp5 m5,q5,λ v H6 wv M6 kp6 r6 m6 hq51=>?_⟩;obtain⟨d,e6,q6⟩:=hq51;subst e6;refine⟨ws.length-(i+1),by omega,rfl,hlt,kp2.trans (kq.trans kp6),acc++[d],τ4,M6,aQ.append (ra.keep (kq.trans kp6)) ?_,A4.go (kp5.trans kp6) m6,q6⟩;simp only[aQ];exact⟨v,[],rfl,r6,rfl⟩
 ·have hl:i=ws.length:=by omega
  subst hl;exact .inl ⟨stop (Nat.le_refl _),λ p hp=>my hp ra A2.mem (pe acc τ2 M2 p2) (kgo kk (kp.trans kp2))⟩
section
variable {sc:Scope}{own:List Str}{fr:List Nat}{elt iter:Expr}{ifs:List Expr}{pos:Pos}{di:TId}{g:TGd}{tt:TTd}{te:TD}
abbrev sx(X:Cx)(ifs:List Expr)(t:TTd):Prop:=PTs X ifs (upT X.K t)
def o5(_:DS)(M:MH)(Q:Bool->MH->Prop):Prop:=Q true M
theorem xg(h:PTd X c t):sx X [c] t:=aaL h
theorem afQ(hc:X.calm=true)(L:lI X sc own fr)(hi:PId X tg iter di)
  (hg:∀ cl C s H ex pl,PGd (blk X sc (lcN X own fr) cl C s H ex pl) tg g)(ht:∀ cl C s H ex pl,sx (blk X sc (lcN X own fr) cl C s H ex pl) ifs tt)(he:∀ cl C s H ex pl,PD (blk X sc (lcN X own fr) cl C s H ex pl) elt te)
  (hs:∀ x,foldedSetIterable iter X.env x=pure x:=by intro _;rfl):PD X (.ListComp elt [⟨tg,iter,ifs,0⟩] sc pos) (dLC di g tt te own.length fr):=
 fE (rM (aeV hc L hi hg ht he hs)) λ σ H Q h=>acE h
end
end
section
variable {X:Cx}{K:FG}
def acO(ws:List W)(M:MH)(Q:QD):Prop:=∃ i:Int,ws=[.d (.int i)]/\Q (.d (.int (if i<0 then -i else i))) M
theorem acy:fK K (λ xs H Q=>∃ i,xs=[.int i]/\Q (.int (if i<0 then -i else i)) H) acO:=by intro vs H ws M Qd Q r m ⟨i,e,q⟩ k;subst e;obtain⟨v,e1,r1⟩:=eB r;simp only[aA,ay] at r1;subst r1;exact⟨i,e1,k _ H (.d (.int _)) M (Kp.refl H) (by simp[aA,ay]) m q⟩
def yX(M:MH):W->Option Nat
 | .d (.list ds)=>some ds.length
 | .d (.tuple ds)=>some ds.length
 | .d (.str z)=>some z.length
 | .m a=>match M a with
  | some (.lst ws)=>some ws.length
  | _=>none
 | _=>none
def iV(ws:List W)(M:MH)(Q:QD):Prop:=∃ w n,ws=[w]/\yX M w=some n/\acw w=true/\Q (.d (.int (n:Nat))) M
theorem jJ:fK K (λ xs H Q=>∃ x n,xs=[x]/\agP K x H n/\Q (.int n) H) iV:=by
 intro vs H ws M Qd Q r m ⟨w,n,e,hn,hf,q⟩ k;subst e;obtain⟨v,e1,r1⟩:=eB r;refine⟨v,n,e1,?_,k _ H (.d (.int _)) M (Kp.refl H) (by simp[aA,ay]) m q⟩;cases w with
 | t _=>simp[yX] at hn
 | m a =>
  simp only[aA] at r1;subst r1;simp only[yX] at hn;cases hm:M a with
  | none=>rw[hm] at hn;cases hn
  | some mo =>
   rw[hm] at hn;cases mo with
   | lst l=>cases hn;obtain⟨us,e2,rw1⟩:=m a _ hm;exact .inl ⟨us,SqL.of e2,rw1.length⟩
   | dic _=>cases hn
   | dct _=>cases hn
   | fdic _=>cases hn
   | fdct _=>cases hn
   | ins _ _=>cases hn
   | tup _=>cases hn
   | flst _=>cases hn
   | exc _ _=>cases hn
   | code _ _=>cases hn
 | d d =>
  cases d with
  | list ds=>simp only[yX] at hn;cases hn;simp only[aA,ay] at r1;obtain⟨a,us,e2,hs,ra⟩:=r1;subst e2;exact .inl ⟨us,hs.sq,ra.length.symm⟩
  | tuple ds=>simp only[yX] at hn;cases hn;simp only[aA,ay] at r1;obtain⟨a,us,e2,hs,ra⟩:=r1;subst e2;exact .inr ⟨us,hs,ra.length.symm⟩
  | str z=>simp only[yX] at hn;cases hn;simp only[aA,ay] at r1;subst r1;exact⟨of_decide_eq_true hf,rfl⟩
  | _=>simp[yX] at hn
def wq:List (TD×TD)->DS->MH->(List (W×W)->MH->Prop)->Prop
 | [],_,M,Q=>Q [] M
 | (tk,tv)::r,τ,M,Q=>tk τ M λ x M1=>tv τ M1 λ y M2=>wq r τ M2 λ ps M3=>Q ((x,y)::ps) M3
theorem ny:∀ {trs:List (TD×TD)} {σ:St} {H:Hp} {τ:DS} {M:MH} {Qd:List (W×W)->MH->Prop} {Q:List (V×V)->Hp->Prop},Abs K H σ τ M->wq trs τ M Qd ->
  (∀ ps H' ws M',Kp H H'->Paired (λ(p:W×W) (q:V×V)=>aA K H' p.1 q.1/\aA K H' p.2 q.2) ws ps->cB K H' M'->Qd ws M'->Q ps H')->qt (trs.map λ p=>(up K p.1,up K p.2)) σ H Q
 | [],σ,H,τ,M,Qd,Q,A,h,k=>k [] H [] M (Kp.refl H) .nil A.mem h
 | (tk,tv)::r,σ,H,τ,M,Qd,Q,A,h,k=>by show(up K tk) σ H _;refine⟨τ,M,_,A,h,λ x H1 w M1 kp1 r1 m1 q1=>⟨τ,M1,_,A.go kp1 m1,q1,λ y H2 w' M2 kp2 r2 m2 q2=>?_⟩⟩;refine ny (A.go (kp1.trans kp2) m2) q2 λ ps H3 ws M3 kp3 r3 m3 q3=>?_;exact k _ H3 _ M3 ((kp1.trans kp2).trans kp3) (.cons ⟨r1.keep (kp2.trans kp3),r2.keep kp3⟩ r3) m3 q3
theorem lq:∀ {more kvs:List (Key×V)},((kvs++more).map (·.1)).Nodup->gP kvs more=kvs++more
 | [],kvs,_=>by simp[gP]
 | p::r,kvs,h=>by
  have hn:mW kvs p.1=none:=by
   cases e:mW kvs p.1 with
   | none=>rfl
   | some v =>
    have q:(kvs.any λ kv=>decide (kv.1=p.1))=true:=by rw[jc,e];rfl
    obtain⟨z,hz,ez⟩:=List.any_eq_true.mp q;rw[List.map_append,List.nodup_append] at h;exact absurd (of_decide_eq_true ez) (h.2.2 _ (List.mem_map_of_mem hz) _ (by simp))
  show gP (putK kvs p.1 p.2) r=_;rw[xx _ hn,lq (by simpa using h)];simp
theorem ud(r:ay K H (mX key) v):v=kV key:=by
 cases key<;>(simp only[mX,ay] at r;exact r)
end
structure Fn(K:FG)(mg:Str->Option Value)(x:Str)(st:Stmt)(ps:List Str)(f:Addr)(fd:FuncData):Prop where
 fn:Fun K x x st f fd
 mg:mg x=some (.ref f)
 bd:Binds K fd ps []
section
variable {K:FG}{mg:Str->Option Value}{h:Heap}
theorem xv{st:Stmt}{ps:List Str}{oc:Value}{od an:Option Addr}{osl:Array (Option Value)}{kV doc pm cdv ct:Value}(X:K.In h)(G:h.Ns mainGlobals mg)(a:W.nsIn K mainGlobals x=some (some (.ref f)))
  (l:K.lookup f=some ⟨oc,od,.func (W.fnOf x x (bo st) (aS st) (au st) .none kV doc pm an cdv ct),osl⟩)(c:W.codeIn K cdv x=true)(k:W.keepIn K (.ref f)=true)
  (b:∀ (kV doc pm:Value) (an:Option Addr) (cdv ct:Value) (us:List Value),us.length=ps.length->bindArgs (W.fnOf x x (bo st) (aS st) (au st) .none kV doc pm an cdv ct) ⟨us,[]⟩=pure (ps.zip us)) :
  Fn K mg x st ps f (W.fnOf x x (bo st) (aS st) (au st) .none kV doc pm an cdv ct):=
 have F:=tN (st:=st) l c k
 ⟨F,W.mg_of X G a,F.binds b⟩
end
def acT(sc scX:Scope)(N:List Str)(fr:List Nat):Bool:=
 (sc.kind==.function)&&sc.names.all (λ y=>!(y.2==.cell))&&sc.names.all (λ y=>!(y.2==.free) || scX.names.lookup y.1==some .cell || scX.names.lookup y.1==some .free) &&
  sc.names.all (λ y=>!(y.2==.local) || sc.names.lookup y.1==some .local)&&aez N sc fr
theorem tD(h:acT sc X.env.scope X.N fr=true):lI X sc own fr:=by
 simp only[acT,Bool.and_eq_true] at h;obtain⟨⟨⟨⟨h1,h2⟩,h3⟩,h4⟩,h5⟩:=h;refine⟨eq_of_beq h1,λ y hy e=>?_,λ y hy e=>?_,λ y hy e=>?_,h5⟩
 ·have:=List.all_eq_true.mp h2 y hy;simp[e] at this
 ·have:=List.all_eq_true.mp h3 y hy;simp only[e,beq_self_eq_true,Bool.not_true,Bool.false_or,Bool.or_eq_true] at this;rcases this with z | z
  ·exact .inl (eq_of_beq z)
  ·exact .inr (eq_of_beq z)
 ·have:=List.all_eq_true.mp h4 y hy;simp only[e,beq_self_eq_true,Bool.not_true,Bool.false_or] at this;exact eq_of_beq this
theorem aeA:bootBuiltins "int" = some (.type "int"):=by decide +kernel
theorem adb:bootBuiltins "str" = some (.type "str"):=by decide +kernel
theorem jD:bootBuiltins "list" = some (.type "list"):=by decide +kernel
theorem mK:bootBuiltins "tuple" = some (.type "tuple"):=by decide +kernel
theorem vk:bootBuiltins "dict" = some (.type "dict"):=by decide +kernel
theorem iM:bootBuiltins "len" = some (.builtin "len"):=by decide +kernel
theorem ad2:bootBuiltins "abs" = some (.builtin "abs"):=by decide +kernel
theorem we:bootBuiltins "repr" = some (.builtin "repr"):=by decide +kernel
theorem cm:bootBuiltins "isinstance" = some (.builtin "isinstance"):=by decide +kernel
def gH:Expr->Bool
 | .Starred ..=>true
 | _=>false
theorem eW(e:Expr)(es:List Expr)(env:PySem.Env)(h:gH e=false):starEach (e::es) env=(false,eval e env)::starEach es env:=by
 cases e<;>first | rfl | (exact absurd h (by simp[gH]))
theorem e9(pos:Pos)(env:PySem.Env):∀ es:List Expr,(es.all λ e=>!gH e)=true->(backTo pos (starEach es env)).any (·.1)=false
 | [],_=>rfl
 | e::es,h=>by rw[List.all_cons,Bool.and_eq_true,Bool.not_eq_true'] at h;rw[eW e es env h.1];show(false || (backTo pos (starEach es env)).any (·.1))=false;rw[e9 pos env es h.2];rfl
section
variable {X:Cx}{pos p:Pos}{e:Expr}{es:List Expr}{te:TD}{t:TAd}{x:Str}{id T:String}{r:List V->Hp->VK->Prop}{rd:List W->MH->QD->Prop}{k:Nat}{f:Addr}{fd:FuncData}{ps:List Str}{sp:SpD}
theorem pac(ha:PD X e te)(hr:PAd X es t)(h:gH e=false:=by rfl):PAd X (e::es) (af te t):=xI ha hr (eW e es X.env h)
theorem pcB(hc:fc X (.builtin id) r)(hd:fK X.K r rd)(hg:Gl X x)(hm:X.mg x=none)(hv:bootBuiltins x=some (.builtin id))(ha:PAd X (e::es) t)(hn:x ≠ "__name__":= by decide)(hdb:ND x:=by decide)
  (h1:gH e=false:=by rfl)(h2:(es.all λ e=>!gH e)=true:=by rfl):PD X (.Call (.Name x p) (e::es) [] pos) (dCB rd t):=yD hc hd hg hm hv ha hn hdb (eW e es X.env h1) (e9 pos X.env es h2)
theorem pcF(F:cX X.prog X.w X.K X.mg X.base CX0 k f fd ps (dR X.K sp))(hr:cW k X.A)(hg:Gl X x)(hm:X.mg x=some (.ref f))(hk:W.keepIn X.K (.ref f)=true)(hb:Binds X.K fd ps [])
  (ha:PAd X (e::es) t)(hdb:ND x:=by decide)(h1:gH e=false:=by rfl)(h2:(es.all λ e=>!gH e)=true:=by rfl) :
  PD X (.Call (.Name x p) (e::es) [] pos) (bR sp t):=abt F hr hg hm hk hb ha hdb (eW e es X.env h1) (e9 pos X.env es h2)
end
structure Jd(p:Prop):Prop where
 h:p
abbrev pm(K:FG)(p:TD×TD):TE×TE:=(up K p.1,up K p.2)
section
variable {X:Cx}{pos:Pos}{a b c e:Expr}{ta tb tc te:TD}{K:FG}
theorem dvQ(i:Nat)(hN:X.N[i]? =some x:=by rfl)(hv:Vis X.env.scope x:=by first | exact Or.inl rfl | exact Or.inr (Or.inl rfl) | exact Or.inr (Or.inr rfl))(hd:ND x:=by decide)(hcd:(x==("__classdict__" : Str))=false:=by decide):Jd (PD X (.Name x pos) (ak i)):=⟨adG (ae1 hN hv hd hcd)⟩
theorem ai{i j pos}:Jd (PD X (.Constant (.int i) j pos) (dC (.d (.int i)))):=⟨adK ael λ H=>by simp[aA,ay]⟩
theorem fZ{b j pos}:Jd (PD X (.Constant (.bool b) j pos) (dC (.d (.bool b)))):=⟨adK af8 λ H=>by simp[aA,ay]⟩
theorem abj{j pos}:Jd (PD X (.Constant .none j pos) (dC (.d .none))):=⟨adK adh λ H=>by simp[aA,ay]⟩
theorem ff{x j pos}:Jd (PD X (.Constant (.str x) j pos) (dC (.d (.str x)))):=⟨adK ae4 λ H=>by simp[aA,ay]⟩
theorem fO(hg:Gl X x)(hm:X.mg x=none)(hv:bootBuiltins x=some (.type n))(hn:x ≠ "__name__":= by decide)(hd:ND x:=by decide):Jd (PD X (.Name x pos) (dC (.t n))):=⟨
 adK (aan (v:=.ty n) hg hm hv rfl hn hd) λ H=>by simp[aA]⟩
theorem bC(ho:OpR X (binaryOp op) r)(hd:OpD X.K r rd)(ha:Jd (PD X a ta))(hb:Jd (PD X b tb)):Jd (PD X (.BinOp a op b pos) (dOp rd ta tb)):=⟨D.afU (ho:=ho) (hd:=hd) (ha:=ha.h) (hb:=hb.h)⟩
theorem fB(ho:OpR X (compareOp op) r)(hd:OpD X.K r rd)(ha:Jd (PD X a ta))(hb:Jd (PD X b tb))(hm:behindInMarks op b=false:=by first | exact i7 _ (by decide) (by decide) | rfl):Jd (PD X (.Compare a [op] [b] pos) (dOp rd ta tb)):=⟨D.acI (ho:=ho) (hd:=hd) (ha:=ha.h) (hb:=hb.h) (hm:=hm)⟩
theorem bb(hr:IxR X r)(hd:OpD X.K r rd)(ha:Jd (PD X a ta))(hb:Jd (PD X b tb))(hs:pj b:=by intro _ _;rfl):Jd (PD X (.Subscript a b pos) (dOp rd ta tb)):=⟨D.af6 (hr:=hr) (hd:=hd) (ha:=ha.h) (hb:=hb.h) (hs:=hs)⟩
theorem bH(ho:OpR X (compareOp op) r)(hd:OpD X.K r rd)(ha:Jd (PD X a ta))(hb:Jd (PD X b tb))(hm:behindInMarks op b=false:=by first | exact i7 _ (by decide) (by decide) | rfl):Jd (PTd X (.Compare a [op] [b] pos) (bI (dOp rd ta tb))):=⟨D.zY (ho:=ho) (hd:=hd) (ha:=ha.h) (hb:=hb.h) (hm:=hm)⟩
theorem cE(h:Jd (PD X e te))(he:∀ whole,isTrue e X.env whole=(do let v <- whole;standAt e.pos;holding [v] (truthy v)):=by intro _;rfl):Jd (PTd X e (bI te)):=⟨D.abp (h:=h.h) (he:=he)⟩
variable {tA tB:TTd}{rest:List Expr}
theorem ml(ha:Jd (PTd X a tA)):Jd (PWd X (.BoolOp .Or [a] pos) tA):=⟨D.ab3 (ha:=ha.h)⟩
theorem mD(ha:Jd (PTd X a tA))(hb:Jd (PWd X (.BoolOp .Or (b::rest) pos) tB)):Jd (PWd X (.BoolOp .Or (a::b::rest) pos) (dOr tA tB)):=⟨D.aea (ha:=ha.h) (hb:=hb.h)⟩
theorem vV(h:Jd (PWd X e tA)):Jd (PTd X e tA):=⟨D.afl (h:=h.h)⟩
theorem qA(ha:Jd (PTd X a tA)):Jd (PTd X (.UnaryOp .Not a pos) (ac8 tA)):=⟨D.abl (ha:=ha.h)⟩
theorem pJ{op}(h:Jd (PD X a ta)):Jd (PD X (.BoolOp op [a] pos) ta):=⟨D.adV (h:=h.h)⟩
theorem wH(ha:Jd (PD X a ta))(hb:Jd (PD X (.BoolOp .And (b::rest) pos) tb)):Jd (PD X (.BoolOp .And (a::b::rest) pos) (ym ta tb)):=⟨D.ac9 (ha:=ha.h) (hb:=hb.h)⟩
theorem adF(ha:Jd (PD X a ta))(hb:Jd (PD X (.BoolOp .Or (b::rest) pos) tb)):Jd (PD X (.BoolOp .Or (a::b::rest) pos) (aga ta tb)):=⟨D.afX (ha:=ha.h) (hb:=hb.h)⟩
theorem aa4(ha:Jd (PD X a ta)):Jd (PD X (.UnaryOp .Not a pos) (aa5 ta)):=⟨D.aeb (ha:=ha.h)⟩
variable {es:List Expr}{t:TAd}
theorem ae  : Jd (PAd X [] aG):=⟨D.u1 ⟩
theorem lH(h:Jd (PAd X es t)):Jd (PD X (.List es pos) (yv t)):=⟨D.ae2 (h:=h.h)⟩
theorem bX(h:Jd (PAd X es t)):Jd (PD X (.List es pos) (fD t)):=⟨D.abM (h:=h.h)⟩
theorem pB{x1}(h:Jd (PAd X es t)):Jd (PD X (.Tuple es x1 pos) (ach t)):=⟨D.acM (h:=h.h)⟩
variable {x:Str}{p:Pos}{id T:String}{r:List V->Hp->VK->Prop}{rd:List W->MH->QD->Prop}
end
section
variable {X:Cx}{pos:Pos}{st:Stmt}{sts:List Stmt}{t u:TSd}{e:Expr}{te:TD}{K:FG}
theorem aK  : Jd (o8 X [] cN):=⟨adn aaG λ D σ H ⟨τ,M,Dd,A,h,k1,_⟩=>k1 σ H τ M (Kp.refl H) A h⟩
theorem ag(h1:Jd (PSd X st t))(h2:Jd (o8 X sts u)):Jd (o8 X (st::sts) (bS t u)):=⟨D.tS (h1:=h1.h) (h2:=h2.h)⟩
theorem aj(h1:Jd (PSd X st t)):Jd (o8 X [st] t):=⟨D.xT (h1:=h1.h)⟩
theorem aP(he:Jd (PD X e te))(hs:swapsWith e none pos.line X.env=pure false:=by rfl):Jd (PSd X (.Expr e pos) (cM te)):=⟨D.yE (he:=he.h) (hs:=hs)⟩
theorem aX(he:Jd (PD X e te)):Jd (PSd X (.Return (some e) pos) (gO te)):=⟨D.aa2 (he:=he.h)⟩
theorem bG(hc:Jd (PTd X c tc))(ha:Jd (o8 X a t))(hb:Jd (o8 X b u)):Jd (PSd X (.If c a b pos) (dIf tc t u)):=⟨D.aeK (hc:=hc.h) (ha:=ha.h) (hb:=hb.h)⟩
theorem aw(hN:X.N.Nodup)(hi:X.N[i]? =some x)(hx:Loc X.env.scope x)(hf:X.fn x=true\/X.env.scope.names.lookup x=some .local:=by first | exact .inl rfl | exact .inr rfl | assumption):Jd (PGd X (.Name x pos) (gN i)):=⟨
 agC (uk hN hi hx hf) λ v σ H Q ⟨w,τ,M,Qd,r,A,h,k⟩=>k _ H _ M (Kp.refl H) (A.set i r) h⟩
theorem ja(he:Jd (PD X e te))(hg:Jd (PGd X tg g))(hs:swapsWithSole [tg] e pos.line X.env=pure false:=by rfl)(hw:swappedStores [tg] e X.env=pure none:=by rfl)(h1:(assignEach [tg] X.env).map (·.2)=[assign tg X.env]:=by rfl):Jd (PSd X (.Assign [tg] e pos) (dW te g)):=⟨D.abk (he:=he.h) (hg:=hg.h) (hs:=hs) (hw:=hw) (h1:=h1)⟩
theorem bj(hN:X.N.Nodup)(hi:X.N[i]? =some x)(hx:Loc X.env.scope x)(he:Jd (PD X e te))(hs:swapsWith e (some (.Name x pos')) pos.line X.env=pure false:=by rfl)(hf:X.fn x=true\/X.env.scope.names.lookup x=some .local:=by first | exact .inl rfl | exact .inr rfl | assumption):Jd (PSd X (.Assign [.Name x pos'] e pos) (dW te (gN i))):=⟨D.abN (hN:=hN) (hi:=hi) (hx:=hx) (he:=he.h) (hs:=hs) (hf:=hf)⟩
end
theorem oh  : Jd (POd X none p6):=⟨aha aax λ σ H Q ⟨τ,M,Qd,A,q,k⟩=>k none H M (Kp.refl H) A.mem q⟩
theorem ow(h:Jd (PD X e te)):Jd (POd X (some e) (xc te)):=⟨D.xo (h:=h.h)⟩
theorem nH{te:TD}{lo hi:Option Expr}{tl th:TOd}{pos p2:Pos}(he:Jd (PD X e te))(hl:Jd (POd X lo tl))(hu:Jd (POd X hi th)):Jd (PD X (.Subscript e (.Slice lo hi none p2) pos) (dSl te tl th)):=⟨D.yA (he:=he.h) (hl:=hl.h) (hu:=hu.h)⟩
theorem mr(ho:Jd (PD X o to))(hi:Jd (PD X i ti))(ha:∀ v,assign (.Subscript o i pos) X.env v=(do
   let ov <- holding [v] (eval o X.env)
   let iv <- holding [v,ov] (eval i X.env)
   standAt pos
   holding [v,ov,iv] (setItem ov iv v)
   release [v,ov,iv] []):=by intro _;rfl):Jd (PGd X (.Subscript o i pos) (xE to ti)):=⟨D.aai (ho:=ho.h) (hi:=hi.h) (ha:=ha)⟩
theorem tG(ho:Jd (PD X o to))(hi:Jd (PD X i ti))(he:Jd (PD X e te))(hp:PIp X op (ipI f))(ha:∀ ov iv new,augStore i ov iv new=(do holding [new,ov,iv] (setItem ov iv new);release [new,ov,iv] [];pure .next):=by intros;rfl):Jd (PSd X (.AugAssign (.Subscript o i tpos) op e pos) (xj to ti te f)):=⟨D.xw (ho:=ho.h) (hi:=hi.h) (he:=he.h) (hp:=hp) (ha:=ha)⟩
theorem fN(h:Jd (PD X l te)):Jd (PId X tg l (iA te)):=⟨D.ue (h:=h.h)⟩
theorem fk(hg:Gl X "range")(hm:X.mg "range" = none)(ha:Jd (PAd X [a] ta))(hs:starEach [a] X.env=[(false,eval a X.env)]:=by rfl):Jd (PId X tg (.Call (.Name "range" p) [a] [] pos) (lZ ta)):=⟨D.sS (hg:=hg) (hm:=hm) (ha:=ha.h) (hs:=hs)⟩
theorem jA(hg:Gl X "range")(hm:X.mg "range" = none)(ha:Jd (PAd X [a,b] ta))(hs:starEach [a,b] X.env=[(false,eval a X.env),(false,eval b X.env)]:=by rfl)(hs2:starEach [b] X.env=[(false,eval b X.env)]:=by rfl):Jd (PId X tg (.Call (.Name "range" p) [a,b] [] pos) (ux ta)):=⟨D.sO (hg:=hg) (hm:=hm) (ha:=ha.h) (hs:=hs) (hs2:=hs2)⟩
theorem bN(hp:PassesOwn (model X.prog X.w) X.A X.env X.xe)(hc:X.calm=true)(hi:Jd (PId X tg iter di))(hg:Jd (PGd X tg g))(hb:Jd (o8 X body tb))(hs:∀ x,foldedSetIterable iter X.env x=pure x:=by intro _;rfl):Jd (PSd X (.For tg iter body [] pos) (ip di g tb)):=⟨D.abV (hp:=hp) (hc:=hc) (hi:=hi.h) (hg:=hg.h) (hb:=hb.h) (hs:=hs)⟩
theorem cL  : Jd (sx X [] o5):=⟨λ pins s σ H Q I ⟨τ,M,Qd,A,q,k⟩=>abT pins s σ H Q I (k true H M (Kp.refl H) A.mem q)⟩
theorem jE(h:Jd (PTd X c t)):Jd (sx X [c] t):=⟨D.xg (h:=h.h)⟩
theorem tU(hc:X.calm=true)(L:lI X sc own fr)(hi:Jd (PId X tg iter di))(hg:∀ cl C s H ex pl,Jd (PGd (blk X sc (lcN X own fr) cl C s H ex pl) tg g))(ht:∀ cl C s H ex pl,Jd (sx (blk X sc (lcN X own fr) cl C s H ex pl) ifs tt))(he:∀ cl C s H ex pl,Jd (PD (blk X sc (lcN X own fr) cl C s H ex pl) elt te))(hs:∀ x,foldedSetIterable iter X.env x=pure x:=by intro _;rfl):Jd (PD X (.ListComp elt [⟨tg,iter,ifs,0⟩] sc pos) (dLC di g tt te own.length fr)):=⟨D.afQ (hc:=hc) (L:=L) (hi:=hi.h) (hg:=λ cl C s H ex pl=>(hg cl C s H ex pl).h) (ht:=λ cl C s H ex pl=>(ht cl C s H ex pl).h) (he:=λ cl C s H ex pl=>(he cl C s H ex pl).h) (hs:=hs)⟩
section
variable {X:Cx}{pos p:Pos}{e:Expr}{es:List Expr}{te:TD}{t:TAd}{x:Str}{id T:String}{r:List V->Hp->VK->Prop}{rd:List W->MH->QD->Prop}{k:Nat}{f:Addr}{fd:FuncData}{ps:List Str}{sp:SpD}
theorem aD(ha:Jd (PD X e te))(hr:Jd (PAd X es t))(h:gH e=false:=by rfl):Jd (PAd X (e::es) (af te t)):=⟨D.pac (ha:=ha.h) (hr:=hr.h) (h:=h)⟩
theorem nM(hc:fc X (.builtin id) r)(hd:fK X.K r rd)(hg:Gl X x)(hm:X.mg x=none)(hv:bootBuiltins x=some (.builtin id))(ha:Jd (PAd X (e::es) t))(hn:x ≠ "__name__":= by decide)(hdb:ND x:=by decide)(h1:gH e=false:=by rfl)(h2:(es.all λ e=>!gH e)=true:=by rfl):Jd (PD X (.Call (.Name x p) (e::es) [] pos) (dCB rd t)):=⟨D.pcB (hc:=hc) (hd:=hd) (hg:=hg) (hm:=hm) (hv:=hv) (ha:=ha.h) (hn:=hn) (hdb:=hdb) (h1:=h1) (h2:=h2)⟩
theorem iW(F:cX X.prog X.w X.K X.mg X.base CX0 k f fd ps (dR X.K sp))(hr:cW k X.A)(hg:Gl X x)(hm:X.mg x=some (.ref f))(hk:W.keepIn X.K (.ref f)=true)(hb:Binds X.K fd ps [])(ha:Jd (PAd X (e::es) t))(hdb:ND x:=by decide)(h1:gH e=false:=by rfl)(h2:(es.all λ e=>!gH e)=true:=by rfl):Jd (PD X (.Call (.Name x p) (e::es) [] pos) (bR sp t)):=⟨D.pcF (F:=F) (hr:=hr) (hg:=hg) (hm:=hm) (hk:=hk) (hb:=hb) (ha:=ha.h) (hdb:=hdb) (h1:=h1) (h2:=h2)⟩
end
theorem yy:Jd (PPs X pos [] [] (([]:List (TD×TD)).map (pm X.K))):=⟨L2.ab4⟩
theorem vj(hk:Jd (PD X k tk))(hv:Jd (PD X v tv))(hr:Jd (PPs X pos ks vs (trs.map (pm X.K)))):Jd (PPs X pos (some k::ks) (v::vs) (((tk,tv)::trs).map (pm X.K))):=⟨L2.xY hk.h hv.h hr.h⟩
section
variable {κ α:Type}[DecidableEq κ]
def dg(t:List (κ×α))(k:κ):Option α:=(t.find? λ p=>decide (p.1=k)).map (·.2)
def fX(t:List (κ×α))(k:κ)(v:α):List (κ×α):=if (t.any λ p=>decide (p.1=k))=true then t.map (λ p=>if p.1=k then (p.1,v) else p) else t++[(k,v)]
def OR(R:β->γ->Prop):Option β->Option γ->Prop
 | some a,some b=>R a b
 | none,none=>True
 | _,_=>False
theorem OR.some_of(h:OR R (some a) o):∃ b,o=some b/\R a b:=by
 cases o with
 | none=>exact h.elim
 | some b=>exact⟨b,rfl,h⟩
theorem OR.none_of(h:OR R none o):o=none:=by
 cases o with
 | none=>rfl
 | some b=>exact h.elim
theorem iN(k:κ):∀ {t:List (κ×α)} {l:List (κ×V)},Paired (λ p q=>p.1=q.1/\R p.2 q.2) t l->OR R (dg t k) (mW l k)
 | _,_,.nil=>True.intro
 | _,_,.cons (a:=p) (b:=q) (l₁:=t1) h t=>by
  obtain⟨h1,h2⟩:=h
  by_cases e:p.1=k
  ·rw[je (h1.symm.trans e),show dg (p::t1) k=some p.2 by simp[dg,List.find?_cons,e]];exact h2
  ·rw[iX (λ z=>e (h1.trans z)),show dg (p::t1) k=dg t1 k by simp[dg,List.find?_cons,e]];exact iN k t
theorem ze{R:α->V->Prop}(k:κ):∀ {t:List (κ×α)} {l:List (κ×V)},Paired (λ p q=>p.1=q.1/\R p.2 q.2) t l->(t.any λ p=>decide (p.1=k))=(l.any λ p=>decide (p.1=k))
 | _,_,.nil=>rfl
 | _,_,.cons (a:=p) (b:=q) h t=>by simp only[List.any_cons];rw[ze k t,h.1]
theorem zJ{R:α->V->Prop}(k:κ){v:V}(r:R a v):∀ {t:List (κ×α)} {l:List (κ×V)},Paired (λ p q=>p.1=q.1/\R p.2 q.2) t l ->
  Paired (λ p q=>p.1=q.1/\R p.2 q.2) (t.map λ p=>if p.1=k then (p.1,a) else p) (l.map λ p=>if p.1=k then (p.1,v) else p)
 | _,_,.nil=>.nil
 | _,_,.cons (a:=p) (b:=q) h t=>by
  simp only[List.map_cons];refine .cons ?_ (zJ k r t)
  by_cases e:p.1=k
  ·rw[if_pos e,if_pos (h.1.symm.trans e)];exact⟨h.1,r⟩
  ·rw[if_neg e,if_neg (λ z=>e (h.1.trans z))];exact h
theorem tL(r:P p q):∀ {t:List (κ×α)} {l:List (κ×V)},Paired P t l->Paired P (t++[p]) (l++[q])
 | _,_,.nil=>.cons r .nil
 | _,_,.cons h t=>.cons h (tL r t)
theorem qH{R:α->V->Prop}(k:κ){v:V}(r:R a v){t:List (κ×α)}{l:List (κ×V)}(h:Paired (λ p q=>p.1=q.1/\R p.2 q.2) t l) :
  Paired (λ p q=>p.1=q.1/\R p.2 q.2) (fX t k a) (putK l k v):=by
 unfold fX putK;rw[ze k h]
 split
 ·exact zJ k r h
 ·exact tL ⟨rfl,r⟩ h
theorem oO:∀ {t:List (κ×α)} {l:List (κ×V)},Paired P t l->t.length=l.length
 | _,_,.nil=>rfl
 | _,_,.cons _ t=>by simp[oO t]
theorem xS:dg ([]:List (κ×α)) k=none:=rfl
theorem bZ{t:List (κ×α)}{k:κ}:dg (p::t) k=if p.1=k then some p.2 else dg t k:=by
 by_cases e:p.1=k<;>simp[dg,List.find?_cons,e]
theorem ft(k:κ):∀ t:List (κ×α),(t.any λ p=>decide (p.1=k))=(dg t k).isSome
 | []=>rfl
 | p::t=>by
  rw[List.any_cons,ft k t,bZ]
  by_cases e:p.1=k<;>simp[e]
theorem og(k j:κ)(y:α):∀ t:List (κ×α),dg t k=none->dg (t++[(k,y)]) j=if j=k then some y else dg t j
 | [],_=>by
  rw[List.nil_append,bZ,xS]
  by_cases e:j=k
  ·subst e;simp
  ·simp[e,Ne.symm e]
 | p::t,h=>by
  rw[bZ] at h
  by_cases e:p.1=k
  ·simp[e] at h
  ·rw[if_neg e] at h;rw[List.cons_append,bZ,bZ,og k j y t h]
   by_cases f:p.1=j
   ·rw[if_pos f,if_pos f]
    by_cases g:j=k
    ·exact absurd (f.trans g) e
    ·rw[if_neg g]
   ·rw[if_neg f,if_neg f]
theorem qZ(k j:κ)(y:α):∀ t:List (κ×α),dg (t.map λ p=>if p.1=k then (p.1,y) else p) j=(dg t j).map λ x=>if j=k then y else x
 | []=>rfl
 | p::t=>by
  rw[List.map_cons,bZ,bZ,qZ k j y t]
  by_cases e:p.1=k
  ·rw[if_pos e]
   by_cases f:p.1=j
   ·have g:j=k:=f.symm.trans e;rw[if_pos f,if_pos f,Option.map_some,if_pos g]
   ·rw[if_neg f,if_neg f]
  ·rw[if_neg e]
   by_cases f:p.1=j
   ·have g:¬ j=k:=λ z=>e (f.trans z);simp[f,g]
   ·simp[f]
theorem qI(t:List (κ×α))(k j:κ)(y:α):dg (fX t k y) j=if j=k then some y else dg t j:=by
 unfold fX;have h:=ft k t;cases q:dg t k with
 | none =>
  rw[q] at h;rw[h,if_neg (by simp)];exact og k j y t q
 | some z =>
  rw[q] at h;rw[h,if_pos (by rfl),qZ]
  by_cases e:j=k
  ·subst e;rw[q];simp
  ·rw[if_neg e];cases dg t j<;>simp[e]
end
def kW(k:Key):W:=.d (mX k)
theorem iw{K:FG}{H:Hp}{k:Key}{v:V}(r:aA K H (kW k) v):v=kV k:=ud r
def tkW(ks:List Key):W:=.d (.tuple (ks.map mX))
theorem xr{K:FG}{H:Hp}:∀ {ks:List Key} {vs:List V},aQ K H (ks.map mX) vs->vs=ks.map kV
 | [],vs,h=>by simpa [aQ] using h
 | k::ks,vs,h=>by simp only[List.map_cons,aQ] at h;obtain⟨v,r,e,h1,h2⟩:=h;rw[e,ud h1,xr h2];rfl
theorem aeX{K:FG}{H:Hp}{ks:List Key}{vs:List V}(h:aI K H (ks.map kW) vs):vs=ks.map kV:=by
 refine xr (K:=K) (H:=H) ?_;have e:ks.map kW=(ks.map mX).map W.d:=by simp[kW]
 rw[e] at h;exact h.data
def Rd2(H:Hp)(a:Addr)(u:HO):Prop:=Rd H a u\/∃ o,H a=some (.frz o (.frz o u))
theorem zO(ok:HOk P w H h)(e:Rd2 H a (.dK kvs)):kvs.length<=sizeLine/\(a==sysModules)=false/\∃ vs,KV kvs vs/\h.DictOf (aV P w) a vs:=by
 rcases e with e | ⟨o,e⟩
 ·exact rZ ok e
 ·exact(ok a _ e).2.2
def abm(K:FG)(H:Hp)(a:Addr)(y:V)(r:Option V):Prop:=
 (∃ kvs k,Rd2 H a (.dK kvs)/\y=kV k/\r=mW kvs k)\/∃ kvs k b,Rd H a (.dT kvs)/\y=.ref b/\SqT K H b (k.map kV)/\r=mW kvs k
theorem zf(I:Inv X pins σ H s)(h:SqT X.K H b (ks.map kV)):(tupleKind (aV X.prog X.w)).is s.heap ks b:=by obtain⟨its,r,⟨o,h1,h2,n,h3⟩,_⟩:=I.tuple h;exact⟨o,its.toArray,n,h1,h2,h3,by simpa using jI r⟩
theorem aaU(hu:A.units+1<cLine)(I:Inv X pins σ H s)(g:abm X.K H a y o)(ry:RelV y u)(rd:RelV d r)(h:∀ w' s',Inv X pins σ H s'->RelV (o.getD d) w'->Q w' s') :
  wpAny (model X.prog X.w) A (call (.builtin "dict.get") [.ref a,u,r]) Q E s:=by
 rcases g with ⟨kvs,k,e,ey,l⟩ | ⟨kvs,k,b,e,ey,eb,l⟩
 ·subst ey;obtain⟨z,hd,vs,rel,dd⟩:=zO I.hok e;refine call_meetsIn PySem.F.slot_dict_get dd.typeIs PySem.F.entry_dict_get (PySem.F.args_dict_get_3 _ _ _) (meets_dict_get_default (aV X.prog X.w) a (sH ry) hd r) ⟨_,dd.mapOf,h _ _ (I.tok _) ?_⟩;rw[l];exact(rel.val k).getD rd
 ·subst ey;cases (show u=Value.ref b from ry);obtain⟨z,hd,xs,rel,dd⟩:=w6 I.hok e;refine call_meetsIn PySem.F.slot_dict_get dd.typeIs PySem.F.entry_dict_get (PySem.F.args_dict_get_3 _ _ _) (meetsH_dict_get_default (tupleKind (aV X.prog X.w)) a b hd r) ⟨tupleKind_room_in1 hu,k,xs,zf I eb,dd,h _ _ (I.tok _) ?_⟩;rw[l];exact(rel.val k).getD rd
theorem tu(hu:A.units+1<cLine)(I:Inv X pins σ H s)(e:Rd2 H a (.dK kvs))(l:mW kvs k=some v)(ry:RelV (kV k) u)(h:∀ w' s',Inv X pins σ H s'->RelV v w'->Q w' s') :
  s.TypeIs (.ref a) "dict" /\ wpAny (model X.prog X.w) A (getItem (.ref a) u) Q E s:=by
 obtain⟨z,hd,vs,rel,dd⟩:=zO I.hok e;obtain⟨w',hw,rw'⟩:=mY.some_of (v:=v) (o:=valueAt vs k) (by rw[<- l];exact rel.val k);exact⟨dd.typeIs,wpAny_getItem_of (sH ry) dd.mapOf hw (h w' _ (I.tok _) rw')⟩
inductive pX(M:MH):W->W->Option W->Prop
 | k {a:Addr} {kvs:List (Key×W)} {k:Key} (h:M a=some (.dic kvs)):pX M (.m a) (kW k) (dg kvs k)
 | t {a:Addr} {kvs:List (List Key×W)} {ks:List Key} (h:M a=some (.dct kvs)):pX M (.m a) (tkW ks) (dg kvs ks)
 | f {a:Addr} {kvs:List (Key×W)} {k:Key} (h:M a=some (.fdic kvs)):pX M (.m a) (kW k) (dg kvs k)
 | d {kvs:List (Key×PyData)} {k:Key}:pX M (.d (.dict (kvs.map λ p=>(mX p.1,p.2)))) (kW k) ((dg kvs k).map W.d)
inductive DIs(M:MH):W->Prop
 | k {a:Addr} {kvs:List (Key×W)} (h:M a=some (.dic kvs)):DIs M (.m a)
 | t {a:Addr} {kvs:List (List Key×W)} (h:M a=some (.dct kvs)):DIs M (.m a)
 | d {kvs:List (PyData×PyData)}:DIs M (.d (.dict kvs))
theorem xl(h:mX a=mX b):a=b:=by
 cases a<;>cases b<;>simp[mX] at h<;>rw[h]
theorem jj{K:FG}{H:Hp}:∀ {kvs:List (Key×PyData)} {l:List (Key×V)},fY K H (kvs.map λ p=>(mX p.1,p.2)) l->Paired (λ(p:Key×PyData) (q:Key×V)=>p.1=q.1/\ay K H p.2 q.2) kvs l
 | [],l,h=>by simp only[List.map_nil,fY] at h;subst h;exact .nil
 | p::kvs,l,h=>by simp only[List.map_cons,fY] at h;obtain⟨key,v,r,e,ek,h1,h2⟩:=h;subst e;exact .cons ⟨xl ek,h1⟩ (jj h2)
theorem DIs.sound{K:FG}{H:Hp}{M:MH}{w:W}{x:V}(g:DIs M w)(r:aA K H w x)(m:cB K H M):∃ a,x=.ref a/\IsD H a:=by
 cases g with
 | k h =>
  obtain⟨l,e,_⟩:=m _ _ h;exact⟨_,r,.inl ⟨l,.inl e⟩⟩
 | t h =>
  obtain⟨l,e,_⟩:=m _ _ h;exact⟨_,r,.inr ⟨l,.inl e⟩⟩
 | d =>
  simp only[aA,ay] at r;obtain⟨a,o,l,e,h,_⟩:=r;exact⟨a,e,.inl ⟨l,.inr ⟨o,h⟩⟩⟩
theorem pX.sound{K:FG}{H:Hp}{M:MH}{w y:W}{o:Option W}{x v:V}(g:pX M w y o)(r:aA K H w x)(ry:aA K H y v)(m:cB K H M) :
  ∃ a p,x=.ref a/\abm K H a v p/\OR (aA K H) o p:=by
 cases g with
 | @k a kvs k h =>
  obtain⟨l,e,pr⟩:=m _ _ h;exact⟨_,_,r,.inl ⟨l,k,.inl (.inl e),iw ry,rfl⟩,iN k pr⟩
 | @f a kvs k h =>
  obtain⟨ob,l,e,pr⟩:=m _ _ h;exact⟨_,_,r,.inl ⟨l,k,.inr ⟨ob,e⟩,iw ry,rfl⟩,iN k pr⟩
 | @t a kvs ks h =>
  obtain⟨l,e,pr⟩:=m _ _ h;simp only[tkW,aA,ay] at ry;obtain⟨b,vs,eb,hs,ra⟩:=ry;rw[xr ra] at hs;exact⟨_,_,r,.inr ⟨l,ks,b,.inl e,eb,hs,rfl⟩,iN ks pr⟩
 | @d kvs k =>
  simp only[aA,ay] at r;obtain⟨a,ob,l,e,h,rk⟩:=r;refine⟨a,_,e,.inl ⟨l,k,.inl (.inr ⟨ob,h⟩),iw ry,rfl⟩,?_⟩;have g:=iN (R:=λ d q=>ay K H d q) k (jj rk);cases q:dg kvs k with
  | none=>rw[q] at g;rw[OR.none_of g];exact True.intro
  | some z =>
   rw[q] at g;obtain⟨b,eb,rb⟩:=OR.some_of g;rw[eb];exact rb
def aag(K:FG)(td ty tx:TE):TE:=λ σ H Q=>td σ H λ x H1=>∃ a,x=.ref a/\IsD H1 a/\ty σ H1 λ y H2=>tx σ H2 λ z H3=>∃ o,abm K H3 a y o/\Q (o.getD z) H3
theorem nC(hu:X.A.units+1<cLine)(ho:PE X o td)(he:PE X e ty)(hf:PE X f tx)(m:M2 X o "get" apos e f cpos):PE X (.Call (.Attribute o "get" apos) [e,f] [] cpos) (aag X.K td ty tx):=by
 intro pins s σ H Q I h;refine wpAny_Call_method m.base m.few m.line PySem.F.plainAttrs_dict PySem.F.slot_dict_get PySem.F.type_dict_get (thn (ho pins s σ H _ I h) λ u s1 hq52=>?_);obtain⟨x,H1,I1,rx,a,ex,d,q1⟩:=hq52;subst ex;obtain rfl:u=Value.ref a:=rx;obtain⟨t1,t2,_⟩:=acF I1 d;refine⟨t1,t2,?_⟩;rw[m.trees];refine Calls.callWith_builtin rfl (Calls.evalArgs_plain (Calls.spliced_cons (thn (he pins s1 σ H1 _ I1 q1) λ iv s2 ⟨y,H2,I2,ry,q2⟩ =>
  Calls.spliced_cons (thn (hf pins s2 σ H2 _ I2 q2) λ fv s3 ⟨z,H3,I3,rz,ov,g,q3⟩=>Calls.spliced_nil ?_))))
 exact aaU hu I3 g ry rz λ w' s4 I4 rw'=>⟨_,H3,I4,rw',q3⟩
def ady(td ty:TE):TE:=λ σ H Q=>td σ H λ x H1=>ty σ H1 λ y H2=>∃ a kvs k v,x=.ref a/\Rd2 H2 a (.dK kvs)/\y=kV k/\mW kvs k=some v/\Q v H2
theorem xH(hu:X.A.units+1<cLine)(ho:PE X o td)(hi:PE X i ty)(hs:aco i):PE X (.Subscript o i pos) (ady td ty):=by intro pins s σ H Q I h;refine vW PySem.F.slot_dict_getitem.lookup hs (thn (ho pins s σ H _ I h) λ u s1 ⟨x,H1,I1,rx,q1⟩=>thn (hi pins s1 σ H1 _ I1 q1) λ iv s2 hq53=>?_);obtain⟨y,H2,I2,ry,a,kvs,k,v,ex,g,ey,l,q2⟩:=hq53;subst ex ey;obtain rfl:u=Value.ref a:=rx;exact tu hu I2 g l ry λ w' s3 I3 rw'=>⟨v,H2,I3,rw',q2⟩
section
variable {X:Cx}{o i e f value:Expr}{es:List Expr}{pos pos' apos cpos:Pos}{td ti tx tv:TD}{t:TAd}
def o9(_:DS)(M:MH)(Q:QD):Prop:=∀ p,M p=none->Q (.m p) (ax M p (.dic []))
def vq(_:DS)(M:MH)(Q:QD):Prop:=∀ p,M p=none->Q (.m p) (ax M p (.dct []))
inductive adR(M2:MH) (w y:W) (Q:QD):Prop
 | mk (a:Addr) (kvs:List (Key×W)) (k:Key) (v:W) (z0:w=.m a) (z1:M2 a=some (.dic kvs)\/M2 a=some (.fdic kvs)) (z2:y=kW k) (z3:dg kvs k=some v) (q:Q v M2):adR M2 w y Q
def mF(td ti:TD)(τ:DS)(M:MH)(Q:QD):Prop:=td τ M λ w M1=>ti τ M1 λ y M2=>adR M2 w y Q
theorem abe(hu:X.A.units+1<cLine)(ho:PD X o td)(hi:PD X i ti)(hs:aco i:=by exact λ _ _=>rfl):PD X (.Subscript o i pos) (mF td ti):=fE (xH hu ho hi hs) λ σ H Q h=>by
 obtain⟨τ,M,Qd,A,h,k⟩:=h;refine⟨τ,M,_,A,h,λ x H1 w M1 kp1 r1 m1 q1=>⟨τ,M1,_,A.go kp1 m1,q1,λ y H2 wy M2 kp2 r2 m2 hq54=>?_⟩⟩;obtain⟨a,kvs,key,v,ew,hm,ey,hv,q2⟩:=hq54;subst ew ey;obtain⟨l,e,pr⟩:∃ l,Rd2 H2 a (.dK l)/\Paired (λ(p:Key×W) (q:Key×V)=>p.1=q.1/\aA X.K H2 p.2 q.2) kvs l:=by
  rcases hm with hm | hm
  ·obtain⟨l,e,pr⟩:=m2 _ _ hm;exact⟨l,.inl (.inl e),pr⟩
  ·obtain⟨ob,l,e,pr⟩:=m2 _ _ hm;exact⟨l,.inr ⟨ob,e⟩,pr⟩
 have g:=iN key pr;rw[hv] at g;obtain⟨b,eb,rb⟩:=OR.some_of g;refine⟨a,l,key,b,r1,e,iw r2,eb,?_⟩;exact k _ H2 v M2 (kp1.trans kp2) rb m2 q2
def si(td ti tx:TD)(τ:DS)(M:MH)(Q:QD):Prop:=td τ M λ w M1=>DIs M1 w/\ti τ M1 λ y M2=>tx τ M2 λ z M3=>∃ o,pX M3 w y o/\Q (o.getD z) M3
theorem OR.getD{K:FG}{H:Hp}{o:Option W}{p:Option V}{z:W}{v:V}(h:OR (aA K H) o p)(r:aA K H z v):aA K H (o.getD z) (p.getD v):=by
 cases o with
 | none=>rw[OR.none_of h];exact r
 | some a=>obtain⟨b,e,q⟩:=OR.some_of h;rw[e];exact q
theorem aaA(hu:X.A.units+1<cLine)(ho:PD X o td)(he:PD X e ti)(hf:PD X f tx)(m:M2 X o "get" apos e f cpos:=by exact⟨rfl,rfl,rfl,rfl⟩):PD X (.Call (.Attribute o "get" apos) [e,f] [] cpos) (si td ti tx):=fE (nC hu ho he hf m) λ σ H Q h=>by obtain⟨τ,M,Qd,A,h,k⟩:=h;refine⟨τ,M,_,A,h,λ x H1 w M1 kp1 r1 m1 hq55=>?_⟩;obtain⟨di,q1⟩:=hq55;obtain⟨a,ea,isd⟩:=di.sound r1 m1;refine⟨a,ea,isd,τ,M1,_,A.go kp1 m1,q1,λ y H2 wy M2 kp2 r2 m2 q2=>⟨τ,M2,_,A.go (kp1.trans kp2) m2,q2,λ z H3 wz M3 kp3 r3 m3 hq56=>?_⟩⟩;obtain⟨o,g,q3⟩:=hq56;obtain⟨a',p,e',g',ro⟩:=g.sound (r1.keep (kp2.trans kp3)) (r2.keep kp3) m3;rw[ea] at e';cases e';exact⟨p,g',k _ H3 _ M3 ((kp1.trans kp2).trans kp3) (ro.getD r3) m3 q3⟩
def jN(td ti tv:TD)(D:Ed)(τ:DS)(M:MH):Prop:=tv τ M λ v M1=>td τ M1 λ w M2=>ti τ M2 λ y M3=>∃ a kvs k,w=.m a/\M3 a=some (.dic kvs)/\y=kW k/\kvs.length<sizeLine/\D.nx τ (ax M3 a (.dic (fX kvs k v)))
theorem yp(hu:X.A.units+1<cLine)(ho:PD X o td)(hi:PD X i ti)(hv:PD X value tv)(hs:swapsWith value (some (.Subscript o i pos')) pos.line X.env=pure false:=by rfl) :
  PSd X (.Assign [.Subscript o i pos'] value pos) (jN td ti tv):=rY (uY hu ho hi hv hs) λ D σ H h=>by
 obtain⟨τ,M,Dd,A,h,k1,_⟩:=h;refine⟨τ,M,_,A,h,λ v H1 wv M1 kp1 r1 m1 q1=>⟨τ,M1,_,A.go kp1 m1,q1,λ x H2 w M2 kp2 r2 m2 q2=>⟨τ,M2,_,A.go (kp1.trans kp2) m2,q2,λ y H3 wy M3 kp3 r3 m3 hq57=>?_⟩⟩⟩;obtain⟨a,kvs,key,ew,hm,ey,hl,q3⟩:=hq57;subst ew ey;obtain⟨l,e,pr⟩:=m3 _ _ hm;have kp4:Kp H3 (upd H3 a (.dK (putK l key v))):=Kp.set e (λ _ z=>nomatch z) (λ _ _ z=>nomatch z);refine⟨a,_,r2,.inl ⟨l,key,e,iw r3,by rw[<- oO pr];exact hl,rfl⟩,?_⟩;have rv:aA X.K H3 wv v:=(r1.keep kp2).keep kp3;refine k1 _ _ _ _ (((kp1.trans kp2).trans kp3).trans kp4) (A.go (((kp1.trans kp2).trans kp3).trans kp4) (m3.put (mo:=.dic (fX kvs key wv)) kp4 ⟨_,ao,?_⟩)) q3;exact Paired.fC (qH key rv pr) λ p q z=>⟨z.1,z.2.keep kp4⟩
end
def vP(f:Str)(v:W):List (Str×W)->List (Str×W)
 | []=>[(f,v)]
 | (g,x)::r=>if g=f then (g,v)::r else (g,x)::vP f v r
abbrev yn(K:FG)(H:Hp):List (Str×W)->List (Str×V)->Prop:=Paired (λ(p:Str×W) (q:Str×V)=>p.1=q.1/\aA K H p.2 q.2)
theorem gQ{K:FG}{H:Hp}(f:Str):∀ {fs:List (Str×W)} {l:List (Str×V)},yn K H fs l->OR (aA K H) (fs.lookup f) (l.lookup f)
 | _,_,.nil=>True.intro
 | _,_,.cons (a:=p) (b:=q) (l₁:=t1) (l₂:=t2) h t=>by
  obtain⟨pk,pv⟩:=p;obtain⟨qk,qv⟩:=q;obtain⟨h1,h2⟩:=h;have h1':pk=qk:=h1;subst h1';rw[List.lookup_cons,List.lookup_cons];cases e:(f==pk) with
  | true=>exact h2
  | false=>exact gQ f t
theorem yQ{K:FG}{H:Hp}(f:Str){w:W}{v:V}(r:aA K H w v):∀ {fs:List (Str×W)} {l:List (Str×V)},yn K H fs l->yn K H (vP f w fs) (mq f v l)
 | _,_,.nil=>.cons ⟨rfl,r⟩ .nil
 | _,_,.cons (a:=p) (b:=q) (l₁:=t1) (l₂:=t2) h t=>by
  obtain⟨pk,pv⟩:=p;obtain⟨qk,qv⟩:=q;obtain⟨h1,h2⟩:=h;have h1':pk=qk:=h1;subst h1';show yn K H (if pk=f then (pk,w)::t1 else (pk,pv)::vP f w t1) (if pk=f then (pk,v)::t2 else (pk,qv)::mq f v t2)
  by_cases e:pk=f
  ·rw[if_pos e,if_pos e];exact .cons ⟨rfl,r⟩ t
  ·rw[if_neg e,if_neg e];exact .cons ⟨rfl,h2⟩ (yQ f r t)
theorem zv{K:FG}{H:Hp}:∀ {fs:List (Str×W)} {l:List (Str×V)},yn K H fs l->fs.length=l.length
 | _,_,.nil=>rfl
 | _,_,.cons _ t=>by simp[zv t]
theorem yn.keep{K:FG}{H H':Hp}(kp:Kp H H'){fs:List (Str×W)}{l:List (Str×V)}(h:yn K H fs l):yn K H' fs l:=Paired.fC h λ p q z=>⟨z.1,z.2.keep kp⟩
section
variable {X:Cx}{C f:Addr}{o e value:Expr}{es:List Expr}{fn m x:Str}{pos pos' apos p:Pos}{td tv te:TD}{t:TAd}{k:Nat}{fd:FuncData}{ps:List Str}{sp:SpD}
inductive agY(C:Addr) (fn:Str) (M1:MH) (w:W) (Q:QD):Prop
 | mk (a:Addr) (fs:List (Str×W)) (v:W) (z0:w=.m a) (z1:M1 a=some (.ins C fs)) (z2:fs.lookup fn=some v) (q:Q v M1):agY C fn M1 w Q
def pU(C:Addr)(td:TD)(fn:Str)(τ:DS)(M:MH)(Q:QD):Prop:=td τ M λ w M1=>agY C fn M1 w Q
theorem adl(c:Cls X.K C)(n:dN X.K C fn)(he:PD X e td)(hb:attributeBase e fn X.env (eval e X.env)=eval e X.env:=by rfl):PD X (.Attribute e fn pos) (pU C td fn):=fE (adf he hb) λ σ H Q h=>by obtain⟨τ,M,Qd,A,h,k⟩:=h;refine⟨τ,M,_,A,h,λ x H1 w M1 kp1 r1 m1 hq58=>?_⟩;obtain⟨a,fs,v,ew,hm,hl,q⟩:=hq58;subst ew;obtain⟨dx,l,e,pr⟩:=m1 _ _ hm;have g:=gQ fn pr;rw[hl] at g;obtain⟨b,eb,rb⟩:=OR.some_of g;exact⟨a,C,dx,l,b,r1,e,c,n,eb,k _ H1 v M1 kp1 rb m1 q⟩
def fH(C:Addr)(td tv:TD)(fn:Str)(D:Ed)(τ:DS)(M:MH):Prop:=tv τ M λ v M1=>td τ M1 λ w M2=>∃ a fs,w=.m a/\M2 a=some (.ins C fs)/\fs.length<1000/\D.nx τ (ax M2 a (.ins C (vP fn v fs)))
theorem abi(c:Cls X.K C)(n:dN X.K C fn)(ha:PD X o td)(hv:PD X value tv)(hs:swapsWith value (some (.Attribute o fn pos')) pos.line X.env=pure false:=by rfl):PSd X (.Assign [.Attribute o fn pos'] value pos) (fH C td tv fn):=rY (acG ha hv hs) λ D σ H h=>by obtain⟨τ,M,Dd,A,h,k1,_⟩:=h;refine⟨τ,M,_,A,h,λ v H1 wv M1 kp1 r1 m1 q1=>⟨τ,M1,_,A.go kp1 m1,q1,λ x H2 w M2 kp2 r2 m2 hq59=>?_⟩⟩;obtain⟨a,fs,ew,hm,hl,q2⟩:=hq59;subst ew;obtain⟨dx,l,e,pr⟩:=m2 _ _ hm;have kp4:Kp H2 (upd H2 a (.ins C dx (mq fn v l))):=Kp.set e (λ _ z=>nomatch z) (λ _ _ z=>nomatch z);refine⟨a,C,dx,l,r2,e,c,n,by rw[<- zv pr];exact hl,?_⟩;refine k1 _ _ _ _ ((kp1.trans kp2).trans kp4) (A.go ((kp1.trans kp2).trans kp4) (m2.put (mo:=.ins C (vP fn wv fs)) kp4 ⟨dx,_,ao,?_⟩)) q2;exact yn.keep kp4 (yQ fn (r1.keep kp2) pr)
inductive ada(C:Addr) (m:Str) (M1:MH) (w:W) (q:Prop):Prop
 | mk (a:Addr) (fs:List (Str×W)) (z0:w=.m a) (z1:M1 a=some (.ins C fs)) (z2:fs.lookup m=none) (z3:q):ada C m M1 w q
def eU(C:Addr)(m:Str)(sp:SpD)(td:TD)(t:TAd)(τ:DS)(M:MH)(Q:QD):Prop:=td τ M λ w M1=>ada C m M1 w (t τ M1 λ ws M2=>sp (w::ws) M2 Q)
theorem xB{σ:St}{H:Hp}{Q:VK}(h:up X.K (eU C m sp td t) σ H Q):aca C m (dR X.K sp) [] E0 (up X.K td) (upA X.K t) σ H Q:=by obtain⟨τ,M,Qd,A,h,k⟩:=h;refine⟨τ,M,_,A,h,λ x H1 w M1 kp1 r1 m1 hq60=>?_⟩;obtain⟨a,fs,ew,hm,hl,q1⟩:=hq60;subst ew;obtain⟨dx,l,e,pr⟩:=m1 _ _ hm;have g:=gQ m pr;rw[hl] at g;refine⟨a,dx,l,r1,e,OR.none_of g,τ,M1,_,A.go kp1 m1,q1,λ vs H2 ws M2 kp2 r2 m2 q2=>?_⟩;exact⟨.m a::ws,M2,Qd,by rw[List.append_nil];exact .cons r1 r2,m2,q2,kgo (kgo k kp1) kp2⟩
theorem aaT(he:PD X o td)(c:Cls X.K C)(hm:Meth X.K C m f)(F:cX X.prog X.w X.K X.mg X.base CX0 k f fd ps (dR X.K sp))(hr:cW k X.A)(hb:Binds X.K fd ps [])(ha:PAd X (e::es) t)
  (ht:eval (.Call (.Attribute o m apos) (e::es) [] pos) X.env=(do
   let ov <- eval o X.env
   standAt apos.atName
   let (f,first) <- holding [ov] (getMethod ov m pl)
   callWith pos f first (backTo pos (starEach (e::es) X.env)) (backToKw pos (keywordEach [] X.env))):=by rfl)
  (h1:gH e=false:=by rfl)(h2:(es.all λ e=>!gH e)=true:=by rfl):PD X (.Call (.Attribute o m apos) (e::es) [] pos) (eU C m sp td t):=
 fE (abU (E:=E0) (dvs:=[]) he c hm F hr hb .nil yI ha (eW e es X.env h1) (e9 pos X.env es h2) ht) λ σ H Q h=>xB h
theorem xk{pl:Sem Bool}(he:PD X o td)(c:Cls X.K C)(hm:Meth X.K C m f)(F:cX X.prog X.w X.K X.mg X.base CX0 k f fd ps (dR X.K sp))(hr:cW k X.A)(hb:Binds X.K fd ps [])
  (ht:eval (.Call (.Attribute o m apos) [] [] pos) X.env=(do
   let ov <- eval o X.env
   standAt apos.atName
   let (f,first) <- holding [ov] (getMethod ov m pl)
   callWith pos f first (backTo pos (starEach [] X.env)) (backToKw pos (keywordEach [] X.env))):=by rfl):PD X (.Call (.Attribute o m apos) [] [] pos) (eU C m sp td aG):=
 fE (yJ (E:=E0) (dvs:=[]) he c hm F hr hb .nil yI ht) λ σ H Q h=>by obtain⟨τ,M,Qd,A,h,k⟩:=h;refine⟨τ,M,_,A,h,λ x H1 w M1 kp1 r1 m1 hq61=>?_⟩;obtain⟨a,fs,ew,hm,hl,q1⟩:=hq61;subst ew;obtain⟨dx,l,e,pr⟩:=m1 _ _ hm;have g:=gQ m pr;rw[hl] at g;exact⟨a,dx,l,r1,e,OR.none_of g,.m a::[],M1,Qd,.cons r1 .nil,m1,q1,kgo k kp1⟩
def xy(C:Addr)(sp:SpD)(t:TAd)(τ:DS)(M:MH)(Q:QD):Prop:=t τ M λ ws M1=>∀ a,M1 a=none->sp (.m a::ws) (ax M1 a (.ins C [])) (λ v M2=>v=.d .none/\Q (.m a) M2)
theorem xD{H1:Hp}{M1:MH}{a dx:Addr}(m1:cB X.K H1 M1)(ha:H1 a=none)(hd:H1 dx=none)(hn:dx≠a):Kp H1 (upd (upd H1 dx (.own a)) a (.ins C dx []))/\cB X.K (upd (upd H1 dx (.own a)) a (.ins C dx [])) (ax M1 a (.ins C [])):=by
 have k1:Kp H1 (upd H1 dx (.own a)):=Kp.new hd;have ha2:(upd H1 dx (.own a)) a=none:=by rw[ah (Ne.symm hn)];exact ha
 have k2:Kp (upd H1 dx (.own a)) (upd (upd H1 dx (.own a)) a (.ins C dx [])):=Kp.new ha2;exact⟨k1.trans k2,(m1.new hd).put (mo:=.ins C []) k2 ⟨dx,[],ao,.nil⟩⟩
theorem abS(Mk':Mk X.K C f)(F:cX X.prog X.w X.K X.mg X.base CX0 k f fd ps (dR X.K sp))(hr:cW (k+1) X.A)(hg:Gl X x)(hm:X.mg x=some (.ref C))(hb:Binds X.K fd ps [])(ha:PAd X (e::es) t)(hdb:ND x:=by decide)
  (h1:gH e=false:=by rfl)(h2:(es.all λ e=>!gH e)=true:=by rfl):PD X (.Call (.Name x p) (e::es) [] pos) (xy C sp t):=
 fE (aas (E:=E0) (dvs:=[]) Mk' F hr hg hm hb .nil yI ha hdb (eW e es X.env h1) (e9 pos X.env es h2)) λ σ H Q h=>by
  obtain⟨τ,M,Qd,A,h,k⟩:=h;refine⟨τ,M,_,A,h,λ vs H1 ws M1 kp1 r1 m1 q1 a dx ha hd hn=>?_⟩;obtain⟨kp2,m2⟩:=xD (X:=X) (C:=C) m1 ha hd hn;exact⟨.m a::ws,_,_,by rw[List.append_nil];exact .cons rfl (r1.keep kp2),m2,q1 a (m1.free ha),λ v H' w M' kp3 r3 m3 hq62=>by obtain⟨e3,q3⟩:=hq62;subst e3;simp only[aA,ay] at r3;exact⟨r3,k _ H' (.m a) M' ((kp1.trans kp2).trans kp3) rfl m3 q3⟩⟩
end
def aaa(M:MH)(a:Addr):MH:=λ b=>if b=a then none else M b
theorem abv(h:b≠a):aaa M a b=M b:=if_neg h
theorem cB.del{K:FG}{H:Hp}{M:MH}{a:Addr}{o:HO}(m:cB K H M)(kp:Kp H (upd H a o)):cB K (upd H a o) (aaa M a):=λ b mo hm=>by
 by_cases e:b=a
 ·subst e;simp[aaa] at hm
 ·rw[abv e] at hm;exact(m b mo hm).keep kp λ u z=>by rw[ah e];exact z
def ag2(R:W->MH->Prop)(ws:List W)(M:MH):Prop:=match ws with
 | [y]=>R y M
 | _=>False
theorem zU(h:ag2 R ws M):∃ y,ws=[y]/\R y M:=by
 match ws,h with
 | [y],h=>exact⟨y,rfl,h⟩
def ab5(td:TD)(τ:DS)(M:MH)(Q:QD):Prop:=td τ M λ w M1=>∃ a ds,w=.m a/\M1 a=some (.lst (ds.map W.d))/\Q (.d (.list ds)) (aaa M1 a)
theorem aad(h:PD X e td):PD X e (ab5 td):=fE (rM h) λ σ H Q h=>by obtain⟨τ,M,Qd,A,h,k⟩:=h;refine⟨τ,M,_,A,h,λ x H1 w M1 kp1 r1 m1 hq63=>?_⟩;obtain⟨a,ds,ew,hm,q⟩:=hq63;subst ew;obtain⟨vs,e,ra⟩:=m1 _ _ hm;refine⟨a,_,r1,e,trivial,λ ob=>?_⟩;have kp2:Kp H1 (upd H1 a (.frz ob (.lst vs))):=Kp.set e (λ _ z=>nomatch z) (λ _ _ z=>nomatch z);refine k _ _ (.d (.list ds)) (aaa M1 a) (kp1.trans kp2) ?_ (m1.del kp2) q;simp only[aA,ay];exact⟨a,vs,r1,.inl ⟨ob,ao⟩,ra.data.keep kp2⟩
def d9(td te:TD)(τ:DS)(M:MH)(Q:QD):Prop:=td τ M λ w M1=>∃ a ws,w=.m a/\M1 a=some (.lst ws)/\te τ M1 λ y M2=>∃ ws',M2 a=some (.lst ws')/\ws'.length<sizeLine/\Q (.d .none) (ax M2 a (.lst (ws'++[y])))
theorem uc(ho:PD X o td)(he:PD X e te)
  (hbase:attributeBase o "append" X.env (eval o X.env)=eval o X.env:=by rfl)
  (hfew:((backTo cpos (starEach [e] X.env)).all (λ x=>!x.1)&&(backToKw cpos (keywordEach [] X.env)).all (λ x=>x.1.isSome)
   && decide (([e]:List Expr).length+([]:List Keyword).length+(if ([]:List Keyword).isEmpty then 0 else 1)<30))=true:=by rfl)
  (hline:(apos.endLine==cpos.line)=true:=by rfl)(hs:gH e=false:=by rfl):PD X (.Call (.Attribute o "append" apos) [e] [] cpos) (d9 td te):=
 fE (afE PySem.F.plainAttrs_list PySem.F.slot_list_append PySem.F.type_list_append um ho (pac he u1 hs) hbase hfew hline (eW e [] X.env hs) rfl) λ σ H Q h=>by obtain⟨τ,M,Qd,A,h,k⟩:=h;refine⟨τ,M,_,A,h,λ x H1 w M1 kp1 r1 m1 hq64=>?_⟩;obtain⟨a,ws,ew,hm,q1⟩:=hq64;subst ew;obtain⟨vs,ea,ra⟩:=m1 _ _ hm;have r1':x=.ref a:=r1;subst r1';refine⟨.inl ⟨rfl,vs,.inl (.inl ea)⟩,τ,M1,ag2 (λ y M2=>∃ ws',M2 a=some (.lst ws')/\ws'.length<sizeLine/\Qd (.d .none) (ax M2 a (.lst (ws'++[y])))),A.go kp1 m1,q1,λ ys H2 wys M2 kp2 r2 m2 q2=>?_⟩;obtain⟨y,ey,ws',hm2,hl,q4⟩:=zU q2;subst ey;obtain⟨v,ev,rv⟩:=eB r2;subst ev;obtain⟨vs2,ea2,ra2⟩:=m2 _ _ hm2;have kp4:Kp H2 (upd H2 a (.lst (vs2++[v]))):=Kp.set ea2 (λ _ z=>nomatch z) (λ _ _ z=>nomatch z);refine⟨a,vs2,v,rfl,rfl,ea2,by rw[<- ra2.length];exact hl,?_⟩;exact k _ _ (.d .none) _ ((kp1.trans kp2).trans kp4) (by simp[aA,ay]) (m2.put (mo:=.lst (ws'++[y])) kp4 ⟨_,ao,(aI.append ra2 (.cons rv .nil)).keep kp4⟩) q4
def pP(K:FG)(H:Hp)(d:PyData)(x:V):Prop:=ay K H d x\/∃ a vs ds,d=.list ds/\x=.ref a/\H a=some (.lst vs)/\aQ K H ds vs
inductive wg(M:MH):W->PyData->Prop
 | d {x:PyData}:wg M (.d x) x
 | l {a:Addr} {ds:List PyData} (h:M a=some (.lst (ds.map W.d))):wg M (.m a) (.list ds)
theorem wg.sound{K:FG}{H:Hp}{M:MH}{w:W}{d:PyData}{x:V}(g:wg M w d)(r:aA K H w x)(m:cB K H M):pP K H d x:=by
 cases g with
 | d=>exact .inl r
 | l h =>
  obtain⟨vs,e,ra⟩:=m _ _ h;exact .inr ⟨_,vs,_,rfl,r,e,ra.data⟩
theorem ahe(I:Inv X pins σ H s)(h:pP X.K H d x):∃ H',Inv X pins σ H' s/\ay X.K H' d x:=by
 rcases h with h | ⟨a,vs,ds,rfl,rfl,e,ra⟩
 ·exact⟨H,I,h⟩
 ·obtain⟨o,I2⟩:=I.freeze e trivial;have kp:Kp H (upd H a (.frz o (.lst vs))):=Kp.set e (λ _ z=>nomatch z) (λ _ _ z=>nomatch z);refine⟨_,I2,?_⟩;simp only[ay];exact⟨a,vs,rfl,.inl ⟨o,ao⟩,ra.keep kp⟩
theorem eD(I:Inv X pins σ H s)(d:PyData)(h:pP X.K H d x)(r:RelV x u)(hd:d.hasDict=false):∃ as,Reads s.heap u d as:=by obtain⟨H',I',h'⟩:=ahe I h;exact dQ I' d h' r hd
theorem k8(hr:kF k X.A):OpR X (compareOp .Eq) (λ x y H Q=>∃ d d',pP X.K H d x/\pP X.K H d' y/\fT d d'=true/\Q (.bl (PyData.eqv d d')) H):=by
 intro pins s σ H x y v u Q I rx ry h;obtain⟨d,d',h1,h2,o,q⟩:=h;rcases fh o with ⟨a,b,e1,e2⟩ | ⟨o1,o2⟩
 ·subst e1;subst e2;rcases h1 with h1 | ⟨_,_,_,z,_⟩
  ·rcases h2 with h2 | ⟨_,_,_,z,_⟩
   ·exact zB hr pins s σ H x y v u Q I rx ry ⟨_,_,h1,h2,o,q⟩
   ·cases z
  ·cases z
 simp only[oY,Bool.and_eq_true,Bool.not_eq_true'] at o1 o2;obtain⟨as,r1⟩:=eD I d h1 rx o1.2;obtain⟨bs,r2⟩:=eD I d' h2 ry o2.2;exact eq_dataH r1 r2 o1.1 o2.1 hr.units ⟨.bl _,H,I,rfl,q⟩
theorem zK(hr:kF k X.A):OpR X (compareOp .NotEq) (λ x y H Q=>∃ d d',pP X.K H d x/\pP X.K H d' y/\fT d d'=true/\Q (.bl (!PyData.eqv d d')) H):=by
 intro pins s σ H x y v u Q I rx ry h;obtain⟨d,d',h1,h2,o,q⟩:=h;rcases fh o with ⟨a,b,e1,e2⟩ | ⟨o1,o2⟩
 ·subst e1;subst e2;rcases h1 with h1 | ⟨_,_,_,z,_⟩
  ·rcases h2 with h2 | ⟨_,_,_,z,_⟩
   ·exact ad5 hr pins s σ H x y v u Q I rx ry ⟨_,_,h1,h2,o,q⟩
   ·cases z
  ·cases z
 simp only[oY,Bool.and_eq_true,Bool.not_eq_true'] at o1 o2;obtain⟨as,r1⟩:=eD I d h1 rx o1.2;obtain⟨bs,r2⟩:=eD I d' h2 ry o2.2;exact ne_dataH r1 r2 o1.1 o2.1 hr.units ⟨.bl _,H,I,rfl,q⟩
section
variable {X:Cx}{K:FG}
def nj(w w':W)(M:MH)(Q:QD):Prop:=∃ d d',wg M w d/\wg M w' d'/\fT d d'=true/\Q (.d (.bool (PyData.eqv d d'))) M
def vf(w w':W)(M:MH)(Q:QD):Prop:=∃ d d',wg M w d/\wg M w' d'/\fT d d'=true/\Q (.d (.bool (!PyData.eqv d d'))) M
theorem il:OpD K (λ x y H Q=>∃ d d',pP K H d x/\pP K H d' y/\fT d d'=true/\Q (.bl (PyData.eqv d d')) H) nj:=by intro x y H w w' M Qd Q r1 r2 m ⟨d,d',g1,g2,o1,q⟩ k;exact⟨d,d',g1.sound r1 m,g2.sound r2 m,o1,k _ H (.d (.bool _)) M (Kp.refl H) (by simp[aA,ay]) m q⟩
theorem t8:OpD K (λ x y H Q=>∃ d d',pP K H d x/\pP K H d' y/\fT d d'=true/\Q (.bl (!PyData.eqv d d')) H) vf:=by intro x y H w w' M Qd Q r1 r2 m ⟨d,d',g1,g2,o1,q⟩ k;exact⟨d,d',g1.sound r1 m,g2.sound r2 m,o1,k _ H (.d (.bool _)) M (Kp.refl H) (by simp[aA,ay]) m q⟩
inductive aaB(M:MH):W->List W->Prop
 | l {ds:List PyData}:aaB M (.d (.list ds)) (ds.map W.d)
 | t {ds:List PyData}:aaB M (.d (.tuple ds)) (ds.map W.d)
 | m {a:Addr} {ws:List W} (h:M a=some (.lst ws)):aaB M (.m a) ws
theorem aaB.sound(g:aaB M w ws)(r:aA K H w x)(m:cB K H M):∃ p ys,x=.ref p/\(SqL K H p ys\/SqT K H p ys)/\aI K H ws ys:=by
 cases g with
 | l =>
  simp only[aA,ay] at r;obtain⟨a,vs,e,hs,ra⟩:=r;exact⟨a,vs,e,.inl hs.sq,ra.ws⟩
 | t =>
  simp only[aA,ay] at r;obtain⟨a,vs,e,hs,ra⟩:=r;exact⟨a,vs,e,.inr hs,ra.ws⟩
 | m h =>
  obtain⟨vs,e,ra⟩:=m _ _ h;exact⟨_,vs,r,.inl (.inl (.inl e)),ra⟩
def md(ws:List W)(M:MH)(Q:QD):Prop:=∃ w xs,ws=[w]/\aaB M w xs/\∀ p,M p=none->Q (.m p) (ax M p (.lst xs))
theorem oy:fK K (λ xs H Q=>∃ p ys,xs=[.ref p]/\(SqL K H p ys\/SqT K H p ys)/\∀ l,H l=none->Q (.ref l) (upd H l (.lst ys))) md:=by intro vs H ws M Qd Q r m ⟨w,xs,e,g,q⟩ k;subst e;obtain⟨v,e1,r1⟩:=eB r;obtain⟨p,ys,ev,hs,rs⟩:=g.sound r1 m;subst ev;refine⟨p,ys,e1,hs,λ l hl=>?_⟩;have kp:Kp H (upd H l (.lst ys)):=Kp.new hl;exact k _ _ (.m l) _ kp rfl (m.put (mo:=.lst xs) kp ⟨ys,ao,rs.keep kp⟩) (q l (m.free hl))
def mE(zs:List Str):List W:=zs.map λ z=>.d (.str z)
theorem qK:∀ {zs:List Str} {vs:List V},aI K H (mE zs) vs->vs=zs.map V.str
 | [],_,h=>by cases h;rfl
 | z::zs,_,h=>by
  cases h with
  | cons r t =>
   simp only[aA,ay] at r;rw[r,qK t];rfl
theorem uv(z:Str):∀ zs:List Str,inV (.str z) (zs.map V.str)=decide (z∈zs)
 | []=>rfl
 | y::zs=>by
  have h:inV (.str z) ((y::zs).map V.str)=((y==z) || inV (.str z) (zs.map V.str)):=rfl;rw[h,uv z zs]
  by_cases e:z=y
  ·subst e;simp
  ·have e':(y==z)=false:=by
    cases q:(y==z) with
    | false=>rfl
    | true=>exact absurd (eq_of_beq q).symm e
   rw[e'];simp[e]
theorem wI:∀ zs:List Str,(zs.map V.str).all ko=true
 | []=>rfl
 | _::zs=>by simp[ko]
def abE(neg:Bool)(w w':W)(M:MH)(Q:QD):Prop:=∃ z zs,w=.d (.str z)/\aaB M w' (mE zs)/\Q (.d (.bool (if neg then !decide (z∈zs) else decide (z∈zs)))) M
theorem rN(neg:Bool):OpD K (rIn K neg) (abE neg):=by intro x y H w w' M Qd Q r1 r2 m ⟨z,zs,ew,g,q⟩ k;subst ew;simp only[aA,ay] at r1;subst r1;obtain⟨p,ys,ey,hs,rs⟩:=g.sound r2 m;have e:=qK rs;subst e;refine⟨p,_,ey,hs,rfl,wI zs,?_⟩;rw[uv];exact k _ H (.d (.bool _)) M (Kp.refl H) (by simp[aA,ay]) m q
def aay(ws:List W)(M:MH)(Q:QD):Prop:=(∃ i,ws=[.d (.int i)]/\Q (.d (.int i)) M)\/∃ b,ws=[.d (.bool b)]/\Q (.d (.int (if b then 1 else 0))) M
theorem aeQ:fK K (λ xs H Q=>(∃ i,xs=[.int i]/\Q (.int i) H)\/∃ k,xs=[.bl k]/\Q (.int (if k then 1 else 0)) H) aay:=by
 intro vs H ws M Qd Q r m h k;rcases h with ⟨i,e,q⟩ | ⟨b,e,q⟩
 ·subst e;obtain⟨v,e1,r1⟩:=eB r;simp only[aA,ay] at r1;subst r1;exact .inl ⟨i,e1,k _ H (.d (.int i)) M (Kp.refl H) (by simp[aA,ay]) m q⟩
 ·subst e;obtain⟨v,e1,r1⟩:=eB r;simp only[aA,ay] at r1;subst r1;exact .inr ⟨b,e1,k _ H (.d (.int _)) M (Kp.refl H) (by simp[aA,ay]) m q⟩
end
section
variable {X:Cx}{K:FG}
def afp(K:FG):R2:=λ x y H Q=>∃ l b xs zs,x=.ref l/\y=.ref b/\SqL K H l xs/\SqL K H b zs/\xs.length+zs.length<=sizeLine/\∀ p,H p=none->Q (.ref p) (upd H p (.lst (xs++zs)))
theorem aaK:OpR X (binaryOp .Add) (afp X.K):=by
 intro pins s σ H x y v u Q I rx ry h;obtain⟨l,b,xs,zs,rfl,rfl,h1,h2,hz,q⟩:=h;cases rx;cases ry;obtain⟨its,r1,p1,_⟩:=I.list h1;obtain⟨its2,r2,p2,_⟩:=I.list h2;have t1:=p1.isList.typeIs (s:=s);have t2:=p2.isList.typeIs (s:=s);obtain⟨⟨oc,od,odt,osl⟩,n,e1,c1,d1,g1⟩:=p1;obtain⟨⟨oc2,od2,odt2,osl2⟩,n2,e2,c2,d2,g2⟩:=p2;dsimp only at c1 d1 g1 c2 d2 g2;subst c1 d1 g1 c2 d2 g2;have hl1:=r1.length;have hl2:=r2.length;refine wpAny_binaryOp_concat (T:= "list") t1 t2 noFill_list_add seq_list_add ?_;refine call_meets PySem.F.slot_list_add t1 PySem.F.entry_list_add (PySem.F.args_list_add_2 _ _) (list_addW l b its.toArray its2.toArray n n2 none none osl osl2 (by simp only[List.size_toArray];omega)) ⟨e1,e2,?_⟩;have ea:its.toArray++its2.toArray=(its++its2).toArray:=by simp
 rw[ea];exact⟨.ref _,_,I.ahE (t':=s.toks) (r1.append r2) (by rw[List.length_append];omega),rfl,q _ I.fresh⟩
inductive acq(M:MH):W->List PyData->Prop
 | d {ds:List PyData}:acq M (.d (.list ds)) ds
 | m {a:Addr} {ds:List PyData} (h:M a=some (.lst (ds.map W.d))):acq M (.m a) ds
theorem acq.sound(g:acq M w ds)(r:aA K H w x)(m:cB K H M):∃ p ys,x=.ref p/\SqL K H p ys/\aQ K H ds ys:=by
 cases g with
 | d =>
  simp only[aA,ay] at r;obtain⟨a,vs,e,hs,ra⟩:=r;exact⟨a,vs,e,hs.sq,ra⟩
 | m h =>
  obtain⟨vs,e,ra⟩:=m _ _ h;exact⟨_,vs,r,.inl (.inl e),ra.data⟩
def ae9(ta tb:TD)(τ:DS)(M:MH)(Q:QD):Prop:=ta τ M λ w M1=>tb τ M1 λ w' M2=>∃ xs ys,acq M2 w xs/\acq M2 w' ys/\xs.length+ys.length<=sizeLine/\Q (.d (.list (xs++ys))) M2
theorem aeH(ha:PD X a ta)(hb:PD X b tb):PD X (.BinOp a .Add b pos) (ae9 ta tb):=fE (rM (aeu aaK ha hb)) λ σ H Q h=>by obtain⟨τ,M,Qd,A,h,k⟩:=h;refine⟨τ,M,_,A,h,λ x H1 w M1 kp1 r1 m1 q1=>⟨τ,M1,_,A.go kp1 m1,q1,λ y H2 w' M2 kp2 r2 m2 hq65=>?_⟩⟩;obtain⟨xs,ys,g1,g2,hz,q⟩:=hq65;obtain⟨p,vs,e1,s1,ra1⟩:=g1.sound (r1.keep kp2) m2;obtain⟨p',vs',e2,s2,ra2⟩:=g2.sound r2 m2;refine⟨p,p',vs,vs',e1,e2,s1,s2,by rw[ra1.length,ra2.length];exact hz,λ c hc=>?_⟩;exact my hc (ra1.append ra2) m2 q (kgo (kgo k kp1) kp2)
end
abbrev yi:=List W->DS->MH->(DS->MH->Prop)->Prop
def agK(K:FG)(g:yi):TGs:=λ vs σ H Q=>∃ ws τ M Qd,aI K H ws vs/\Abs K H σ τ M/\g ws τ M Qd/\∀ σ' H' τ' M',Kp H H'->Abs K H' σ' τ' M'->Qd τ' M'->Q σ' H'
abbrev xZ(X:Cx)(es:List Expr)(g:yi):Prop:=PGs X es (agK X.K g)
theorem aeY(h:PGs X es g)(k:∀ v σ H Q,g' v σ H Q->g v σ H Q):PGs X es g':=λ pins s σ H v u Q I r q=>h pins s σ H v u Q I r (k v σ H Q q)
def m8(ws:List W)(τ:DS)(M:MH)(Q:DS->MH->Prop):Prop:=ws=[]/\Q τ M
def cD(g:TGd)(gs:yi)(ws:List W)(τ:DS)(M:MH)(Q:DS->MH->Prop):Prop:=∃ w r,ws=w::r/\g w τ M λ τ' M'=>gs r τ' M' Q
theorem vN(h1:PGd X e g)(h2:xZ X es gs)(hs:(assignEach (e::es) X.env).map (·.2)=assign e X.env::(assignEach es X.env).map (·.2):=by rfl):xZ X (e::es) (cD g gs):=
 aeY (xP h1 h2 hs) λ vs σ H Q hq67=>by
  obtain⟨ws,τ,M,Qd,r,A,⟨w,wr,ew,q⟩,k⟩:=hq67;subst ew;cases r with
  | cons r1 r2 =>
   refine⟨_,_,rfl,w,τ,M,_,r1,A,q,λ σ1 H1 τ1 M1 kp1 A1 q1=>?_⟩;exact⟨wr,τ1,M1,Qd,aI.keep kp1 r2,A1,q1,λ σ2 H2 τ2 M2 kp2 A2 q2=>k σ2 H2 τ2 M2 (kp1.trans kp2) A2 q2⟩
def uM(trs:List (TD×TD))(τ:DS)(M:MH)(Q:QD):Prop:=∀ p,M p=none->wq trs τ (ax M p (.dic [])) λ ps M2=>M2 p=some (.dic [])/\∃ kvs:List (Key×W),ps=kvs.map (λ q=>(kW q.1,q.2))/\kvs.length<=15/\(kvs.map (·.1)).Nodup /\
 Q (.m p) (ax M2 p (.dic kvs))
theorem kR{K:FG}{H:Hp}:∀ {kvs:List (Key×W)} {ps:List (V×V)},Paired (λ(p:W×W) (q:V×V)=>aA K H p.1 q.1/\aA K H p.2 q.2) (kvs.map λ q=>(kW q.1,q.2)) ps ->
  ∃ l:List (Key×V),ps=l.map (λ kv=>(kV kv.1,kv.2))/\l.map (·.1)=kvs.map (·.1)/\Paired (λ(p:Key×W) (q:Key×V)=>p.1=q.1/\aA K H p.2 q.2) kvs l
 | [],ps,h=>by cases h;exact⟨[],rfl,rfl,.nil⟩
 | (k,d)::kvs,ps,h=>by
  cases h with
  | cons r t =>
   rename_i q qs
   obtain⟨x,y⟩:=q;obtain⟨l,e1,e2,e3⟩:=kR t;refine⟨(k,y)::l,?_,by simp[e2],.cons ⟨rfl,r.2⟩ e3⟩;rw[List.map_cons,<- e1,<- iw r.1]
theorem yw(h:PPs X pos keys values (trs.map λ p=>(up X.K p.1,up X.K p.2)))(hall:keys.all (·.isSome)=true:=by rfl)(hl:keys.length=values.length:=by rfl)(h0:keys≠[]:=by simp)
  (h15:keys.length<=15:=by decide):PD X (.Dict keys values pos) (uM trs):=fE (ab8 h hall hl h0 h15) λ σ H Q ⟨τ,M,Qd,A,q,k⟩=>λ p hp=>by
 have kp0:Kp H (upd H p (.dK [])):=Kp.new hp;have m0:cB X.K (upd H p (.dK [])) (ax M p (.dic [])):=A.mem.put (mo:=.dic []) kp0 ⟨[],ao,.nil⟩;have hM:=A.mem.free hp;refine ny (A.go kp0 m0) (q p hM) λ ps H2 ws M2 kp2 r2 m2 hq68=>?_;obtain⟨eM,kvs,ews,hlen,hnd,qq⟩:=hq68;subst ews;obtain⟨l0,e0,pr0⟩:=m2 p _ eM;have el0:l0=[]:=by cases pr0;rfl
 subst el0;obtain⟨l,e1,e2,e3⟩:=kR r2;have elen:l.length=kvs.length:=by
  have:=congrArg List.length e2
  simpa using this
 refine⟨e0,l,e1,by omega,?_⟩;have em:gP [] l=l:=by rw[lq (by simpa [e2] using hnd)];rfl
 rw[em];have kp3:Kp H2 (upd H2 p (.dK l)):=Kp.set e0 (λ xs z=>nomatch z) λ _ _ z=>nomatch z;exact k _ _ (.m p) _ ((kp0.trans kp2).trans kp3) rfl (m2.put (mo:=.dic kvs) kp3 ⟨l,ao,Paired.fC e3 λ p q z=>⟨z.1,z.2.keep kp3⟩⟩) qq
structure Mf(K:FG)(C:Addr)(x qual:Str)(st:Stmt)(ps:List Str)(f:Addr)(fd:FuncData):Prop where
 fn:Fun K x qual st f fd
 me:Meth K C x f
 bd:Binds K fd ps []
structure Mi(K:FG)(C:Addr)(qual:Str)(st:Stmt)(ps:List Str)(f:Addr)(fd:FuncData):Prop where
 fn:Fun K "__init__" qual st f fd
 mi:Mk K C f
 bd:Binds K fd ps []
section
variable {K:FG}{C:Addr}
theorem adE{x qual:Str}{st:Stmt}{ps:List Str}{oc:Value}{od an:Option Addr}{osl:Array (Option Value)}{kV doc pm cdv ct:Value}(a:W.findIn K (.ref C) x=some (some (.ref f)))(i:W.isFn K (.ref f)=true)
  (l:K.lookup f=some ⟨oc,od,.func (W.fnOf x qual (bo st) (aS st) (au st) .none kV doc pm an cdv ct),osl⟩)(c:W.codeIn K cdv qual=true)(k:W.keepIn K (.ref f)=true)
  (b:∀ (kV doc pm:Value) (an:Option Addr) (cdv ct:Value) (us:List Value),us.length=ps.length->bindArgs (W.fnOf x qual (bo st) (aS st) (au st) .none kV doc pm an cdv ct) ⟨us,[]⟩=pure (ps.zip us)) :
  Mf K C x qual st ps f (W.fnOf x qual (bo st) (aS st) (au st) .none kV doc pm an cdv ct):=
 have F:=tN (st:=st) l c k
 ⟨F,⟨a,i,k⟩,F.binds b⟩
theorem age{qual:Str}{st:Stmt}{ps:List Str}{oc:Value}{od an:Option Addr}{osl:Array (Option Value)}{kV doc pm cdv ct:Value}(a:W.findIn K (.ref C) "__init__" = some (some (.ref f)))(i:W.isFn K (.ref f)=true)
  (l:K.lookup f=some ⟨oc,od,.func (W.fnOf "__init__" qual (bo st) (aS st) (au st) .none kV doc pm an cdv ct),osl⟩)(c:W.codeIn K cdv qual=true)(k:W.keepIn K (.ref f)=true)
  (mk:W.makesIn K C=true)(kc:W.keepIn K (.ref C)=true)
  (b:∀ (kV doc pm:Value) (an:Option Addr) (cdv ct:Value) (us:List Value),us.length=ps.length->bindArgs (W.fnOf "__init__" qual (bo st) (aS st) (au st) .none kV doc pm an cdv ct) ⟨us,[]⟩=pure (ps.zip us)) :
  Mi K C qual st ps f (W.fnOf "__init__" qual (bo st) (aS st) (au st) .none kV doc pm an cdv ct):=
 have F:=tN (st:=st) l c k
 ⟨F,⟨mk,a,i,kc⟩,F.binds b⟩
end
theorem pcT(hc:fc X (.type T) r)(hd:fK X.K r rd)(hg:Gl X x)(hm:X.mg x=none)(hv:bootBuiltins x=some (.type T))(ha:PAd X (e::es) t)(hn:x ≠ "__name__":= by decide)(hdb:ND x:=by decide)
  (h1:gH e=false:=by rfl)(h2:(es.all λ e=>!gH e)=true:=by rfl):PD X (.Call (.Name x p) (e::es) [] pos) (dCB rd t):=vX hc hd hg hm hv ha hn hdb (eW e es X.env h1) (e9 pos X.env es h2)
theorem k9  : Jd (PD X (.Dict [] [] pos) o9):=⟨fE xn λ σ H Q ⟨τ,M,Qd,A,h,k⟩ p hp =>
 k (.ref p) _ (.m p) (ax M p (.dic [])) (Kp.new hp) rfl (A.mem.put (mo:=.dic []) (Kp.new hp) ⟨[],ao,.nil⟩) (h p (A.mem.free hp))⟩
theorem sY  : Jd (PD X (.Dict [] [] pos) vq):=⟨fE yN λ σ H Q ⟨τ,M,Qd,A,h,k⟩ p hp =>
 k (.ref p) _ (.m p) (ax M p (.dct [])) (Kp.new hp) rfl (A.mem.put (mo:=.dct []) (Kp.new hp) ⟨[],ao,.nil⟩) (h p (A.mem.free hp))⟩
theorem fu(hu:X.A.units+1<cLine)(ho:Jd (PD X o td))(hi:Jd (PD X i ti))(hs:aco i:=by exact λ _ _=>rfl):Jd (PD X (.Subscript o i pos) (mF td ti)):=⟨D.abe (hu:=hu) (ho:=ho.h) (hi:=hi.h) (hs:=hs)⟩
theorem qN(hu:X.A.units+1<cLine)(ho:Jd (PD X o td))(he:Jd (PD X e ti))(hf:Jd (PD X f tx))(m:M2 X o "get" apos e f cpos:=by exact⟨rfl,rfl,rfl,rfl⟩):Jd (PD X (.Call (.Attribute o "get" apos) [e,f] [] cpos) (si td ti tx)):=⟨D.aaA (hu:=hu) (ho:=ho.h) (he:=he.h) (hf:=hf.h) (m:=m)⟩
theorem dv(hu:X.A.units+1<cLine)(ho:Jd (PD X o td))(hi:Jd (PD X i ti))(hv:Jd (PD X value tv))(hs:swapsWith value (some (.Subscript o i pos')) pos.line X.env=pure false:=by rfl):Jd (PSd X (.Assign [.Subscript o i pos'] value pos) (jN td ti tv)):=⟨D.yp (hu:=hu) (ho:=ho.h) (hi:=hi.h) (hv:=hv.h) (hs:=hs)⟩
theorem cQ(c:Cls X.K C)(n:dN X.K C fn)(he:Jd (PD X e td))(hb:attributeBase e fn X.env (eval e X.env)=eval e X.env:=by rfl):Jd (PD X (.Attribute e fn pos) (pU C td fn)):=⟨D.adl (c:=c) (n:=n) (he:=he.h) (hb:=hb)⟩
theorem gJ(c:Cls X.K C)(n:dN X.K C fn)(ha:Jd (PD X o td))(hv:Jd (PD X value tv))(hs:swapsWith value (some (.Attribute o fn pos')) pos.line X.env=pure false:=by rfl):Jd (PSd X (.Assign [.Attribute o fn pos'] value pos) (fH C td tv fn)):=⟨D.abi (c:=c) (n:=n) (ha:=ha.h) (hv:=hv.h) (hs:=hs)⟩
theorem cT(he:Jd (PD X o td))(c:Cls X.K C)(hm:Meth X.K C m f)(F:cX X.prog X.w X.K X.mg X.base CX0 k f fd ps (dR X.K sp))(hr:cW k X.A)(hb:Binds X.K fd ps [])(ha:Jd (PAd X (e::es) t))(ht:eval (.Call (.Attribute o m apos) (e::es) [] pos) X.env=(do
   let ov <- eval o X.env
   standAt apos.atName
   let (f,first) <- holding [ov] (getMethod ov m pl)
   callWith pos f first (backTo pos (starEach (e::es) X.env)) (backToKw pos (keywordEach [] X.env))):=by rfl)(h1:gH e=false:=by rfl)(h2:(es.all λ e=>!gH e)=true:=by rfl):Jd (PD X (.Call (.Attribute o m apos) (e::es) [] pos) (eU C m sp td t)):=⟨D.aaT (he:=he.h) (c:=c) (hm:=hm) (F:=F) (hr:=hr) (hb:=hb) (ha:=ha.h) (ht:=ht) (h1:=h1) (h2:=h2)⟩
theorem vb(he:Jd (PD X o td))(c:Cls X.K C)(hm:Meth X.K C m f)(F:cX X.prog X.w X.K X.mg X.base CX0 k f fd ps (dR X.K sp))(hr:cW k X.A)(hb:Binds X.K fd ps [])(ht:eval (.Call (.Attribute o m apos) [] [] pos) X.env=(do
   let ov <- eval o X.env
   standAt apos.atName
   let (f,first) <- holding [ov] (getMethod ov m pl)
   callWith pos f first (backTo pos (starEach [] X.env)) (backToKw pos (keywordEach [] X.env))):=by rfl):Jd (PD X (.Call (.Attribute o m apos) [] [] pos) (eU C m sp td aG)):=⟨D.xk (he:=he.h) (c:=c) (hm:=hm) (F:=F) (hr:=hr) (hb:=hb) (ht:=ht)⟩
theorem rD(Mk':Mk X.K C f)(F:cX X.prog X.w X.K X.mg X.base CX0 k f fd ps (dR X.K sp))(hr:cW (k+1) X.A)(hg:Gl X x)(hm:X.mg x=some (.ref C))(hb:Binds X.K fd ps [])(ha:Jd (PAd X (e::es) t))(hdb:ND x:=by decide)(h1:gH e=false:=by rfl)(h2:(es.all λ e=>!gH e)=true:=by rfl):Jd (PD X (.Call (.Name x p) (e::es) [] pos) (xy C sp t)):=⟨D.abS (Mk':=Mk') (F:=F) (hr:=hr) (hg:=hg) (hm:=hm) (hb:=hb) (ha:=ha.h) (hdb:=hdb) (h1:=h1) (h2:=h2)⟩
theorem xK(h:Jd (PD X e td)):Jd (PD X e (ab5 td)):=⟨D.aad (h:=h.h)⟩
theorem dq(ho:Jd (PD X o td))(he:Jd (PD X e te))(hbase:attributeBase o "append" X.env (eval o X.env)=eval o X.env:=by rfl)(hfew:((backTo cpos (starEach [e] X.env)).all (λ x=>!x.1)&&(backToKw cpos (keywordEach [] X.env)).all (λ x=>x.1.isSome)
   && decide (([e]:List Expr).length+([]:List Keyword).length+(if ([]:List Keyword).isEmpty then 0 else 1)<30))=true:=by rfl)(hline:(apos.endLine==cpos.line)=true:=by rfl)(hs:gH e=false:=by rfl):Jd (PD X (.Call (.Attribute o "append" apos) [e] [] cpos) (d9 td te)):=⟨D.uc (ho:=ho.h) (he:=he.h) (hbase:=hbase) (hfew:=hfew) (hline:=hline) (hs:=hs)⟩
theorem aaq(ha:Jd (PD X a ta))(hb:Jd (PD X b tb)):Jd (PD X (.BinOp a .Add b pos) (ae9 ta tb)):=⟨D.aeH (ha:=ha.h) (hb:=hb.h)⟩
theorem eK  : Jd (xZ X [] m8):=⟨aeY aar λ vs σ H Q hq66=>by obtain⟨ws,τ,M,Qd,r,A,⟨e,q⟩,k⟩:=hq66;subst e;cases r;exact⟨rfl,k σ H τ M (Kp.refl H) A q⟩⟩
theorem aJ(h1:Jd (PGd X e g))(h2:Jd (xZ X es gs))(hs:(assignEach (e::es) X.env).map (·.2)=assign e X.env::(assignEach es X.env).map (·.2):=by rfl):Jd (xZ X (e::es) (cD g gs)):=⟨D.vN (h1:=h1.h) (h2:=h2.h) (hs:=hs)⟩
theorem uo(h:Jd (PPs X pos keys values (trs.map (pm X.K))))(hall:keys.all (·.isSome)=true:=by rfl)(hl:keys.length=values.length:=by rfl)(h0:keys≠[]:=by simp)(h15:keys.length<=15:=by decide):Jd (PD X (.Dict keys values pos) (uM trs)):=⟨D.yw (h:=h.h) (hall:=hall) (hl:=hl) (h0:=h0) (h15:=h15)⟩
theorem acg(hc:fc X (.type T) r)(hd:fK X.K r rd)(hg:Gl X x)(hm:X.mg x=none)(hv:bootBuiltins x=some (.type T))(ha:Jd (PAd X (e::es) t))(hn:x ≠ "__name__":= by decide)(hdb:ND x:=by decide)(h1:gH e=false:=by rfl)(h2:(es.all λ e=>!gH e)=true:=by rfl):Jd (PD X (.Call (.Name x p) (e::es) [] pos) (dCB rd t)):=⟨D.pcT (hc:=hc) (hd:=hd) (hg:=hg) (hm:=hm) (hv:=hv) (ha:=ha.h) (hn:=hn) (hdb:=hdb) (h1:=h1) (h2:=h2)⟩
@[simp] theorem aec (i j:Int):fT (.int i) (.int j)=true:=rfl
@[simp] theorem ac6 (x y:Str):fT (.str x) (.str y)=true:=rfl
@[simp] theorem acs (x y:Bool):fT (.bool x) (.bool y)=true:=rfl
@[simp] theorem vI (i j:Int):PyData.eqv (.int i) (.int j)=(i==j):=by rw[PyData.eqv]
@[simp] theorem afW (i j:Str):PyData.eqv (.str i) (.str j)=(i==j):=by rw[PyData.eqv]
@[simp] theorem ag7 (a:Addr):acw (.m a)=true:=rfl
@[simp] theorem acU (ds:List PyData):acw (.d (.list ds))=true:=rfl
@[simp] theorem acv (ds:List PyData):acw (.d (.tuple ds))=true:=rfl
@[simp] theorem afb (n:Nat):ixN (n+1) 0=some 0:=by unfold ixN;simp
theorem zd{α:Type}{xs:List α}{i:Int}(h0:0<=i)(h1:i<xs.length):atI xs i=some (xs[i.toNat]'(by omega)):=by
 unfold atI ixN;rw[if_pos h0,if_pos h1];simp
inductive Bag(M:MH) (p:Addr):Prop
 | mk (a b c:Int) (ns:List Int) (e:M p=some (.lst [.d (.int a),.d (.int b),.d (.int c),.d (.list (ns.map PyData.int))])) (z:0<=a/\0<=b/\b<2147483647/\0<=c/\(∀ n∈ns,0<=n)):Bag M p
def dP:SpD:=λ ws M Q=>∃ ns:List Int,ws=[.d (.list (ns.map PyData.int))]/\ns.length<=1000/\∀ p M',M p=none->(∀ q,q≠p->M' q=M q)->Bag M' p->Q (.m p) M'
inductive oQ(ws:List W) (M:MH) (Q:QD):Prop
 | mk (p:Addr) (n:Int) (z0:ws=[.m p,.d (.int n)]) (z1:Bag M p) (z2:0<n) (z3:n<1073741824) (z4:∀ (r:Int) M',0<=r->r<n->Bag M' p->(∀ q,q≠p->M' q=M q)->Q (.d (.int r)) M'):oQ ws M Q
def aC:SpD:=oQ
theorem tT:∀ ws M Q,dP ws M Q->ws.length=1:=by rintro ws M Q ⟨ns,rfl,_⟩;rfl
theorem sL:∀ ws M Q,aC ws M Q->ws.length=2:=by rintro ws M Q ⟨p,n,rfl,_⟩;rfl
theorem abF(hm:M p=some (.lst ws))(h:atI ws i=some x):ixW M (.m p) i=some x:=by simp only[ixW,hm];exact h
theorem fe{c:Bool}{A B:Prop}(h1:c=true->A)(h2:c=false->B):if c=true then A else B:=by
 cases c with
 | true=>rw[if_pos rfl];exact h1 rfl
 | false=>rw[if_neg Bool.false_ne_true];exact h2 rfl
abbrev t9:List Str:=["_law_script"]
def vz:TSd:=
  gO (fD (af (dC (.d (.int 0))) (af (dC (.d (.int 1234567891))) (af (dC (.d (.int 0))) (af (dLC (iA (dSl (ak 0) (p6) (xc (dC (.d (.int 63)))))) (gN 0) (o5) (dCB acO (af (ak 0) (aG))) 1 []) (aG))))))
abbrev qF:List Str:=["_law_bag_here", "_law_many", "_law_cell", "_law_value", "_law_first", "_law_second"]
def qy:TSd:=
  bS (dIf (bI (dOp agF (dOp cU (ak 0) (dC (.d (.int 0)))) (dC (.d (.int 0)))))
   (bS (dW (dC (.d (.int 0))) (gN 2)) <|
   bS (dIf (bI (dOp afh (dOp cU (ak 0) (dC (.d (.int 2)))) (dCB iV (af (dOp cU (ak 0) (dC (.d (.int 3)))) (aG)))))
    (dW (dOp cU (dOp cU (ak 0) (dC (.d (.int 3)))) (dOp cU (ak 0) (dC (.d (.int 2))))) (gN 2))
    (cN)) <|
   bS (xj (ak 0) (dC (.d (.int 2))) (dC (.d (.int 1))) (λ i j=>i+j)) <|
   bS (dIf (bI (dOp agr (ak 2) (dC (.d (.int 1000000000000000000)))))
    (dW (ak 2) (xE (ak 0) (dC (.d (.int 0)))))
    (cN)) <|
   dW (dOp eV (dOp dG (dOp dG (dOp gf (dOp cU (ak 0) (dC (.d (.int 1)))) (dC (.d (.int 48271)))) (dOp eV (ak 2) (dC (.d (.int 2147483647))))) (dOp gf (dC (.d (.int 7919))) (dOp cU (ak 0) (dC (.d (.int 2)))))) (dC (.d (.int 2147483647)))) (xE (ak 0) (dC (.d (.int 1)))))
   (cN)) <|
  bS (dIf (bI (dOp tO (dOp cU (ak 0) (dC (.d (.int 0)))) (dC (.d (.int 0)))))
   (bS (dW (dOp eV (dOp cU (ak 0) (dC (.d (.int 0)))) (ak 1)) (gN 3)) <|
   bS (dW (dOp tX (dOp cU (ak 0) (dC (.d (.int 0)))) (ak 1)) (xE (ak 0) (dC (.d (.int 0))))) <|
   gO (ak 3))
   (cN)) <|
  bS (dW (dOp eV (dOp gf (dOp dG (dOp cU (ak 0) (dC (.d (.int 1)))) (dC (.d (.int 1)))) (dC (.d (.int 39373)))) (dC (.d (.int 1000000007)))) (gN 4)) <|
  bS (dW (dOp eV (dOp gf (dOp eV (dOp gf (ak 4) (ak 4)) (dC (.d (.int 998244353)))) (dC (.d (.int 30011)))) (dC (.d (.int 998244353)))) (gN 5)) <|
  bS (dIf (bI (dOp tO (ak 1) (dC (.d (.int 1000000)))))
   (gO (dOp eV (dOp dG (dOp gf (ak 5) (dC (.d (.int 1000000007)))) (ak 4)) (ak 1)))
   (cN)) <|
  gO (dOp eV (dOp tX (ak 5) (dC (.d (.int 7)))) (ak 1))
abbrev xU(a b c:Int)(ns:List Int):List W:=[.d (.int a),.d (.int b),.d (.int c),.d (.list (ns.map PyData.int))]
theorem hJ(hm:M p=some (.lst (xU a b c ns)))(ha:0<=a)(hb:0<=b)(hb2:b<2147483647)(hc:0<=c)(hns:∀ n∈ns,0<=n)(hn:0<n)(hn2:n<1073741824)
  (k:∀ (r:Int) M',0<=r->r<n->Bag M' p->(∀ q,q≠p->M' q=M q)->Q (.d (.int r)) M')(hD:D.rt=Q) :
  (bS (dIf (bI (dOp tO (dOp cU (ak 0) (dC (.d (.int 0)))) (dC (.d (.int 0)))))
   (bS (dW (dOp eV (dOp cU (ak 0) (dC (.d (.int 0)))) (ak 1)) (gN 3)) <|
   bS (dW (dOp tX (dOp cU (ak 0) (dC (.d (.int 0)))) (ak 1)) (xE (ak 0) (dC (.d (.int 0))))) <|
   gO (ak 3))
   (cN)) <|
  bS (dW (dOp eV (dOp gf (dOp dG (dOp cU (ak 0) (dC (.d (.int 1)))) (dC (.d (.int 1)))) (dC (.d (.int 39373)))) (dC (.d (.int 1000000007)))) (gN 4)) <|
  bS (dW (dOp eV (dOp gf (dOp eV (dOp gf (ak 4) (ak 4)) (dC (.d (.int 998244353)))) (dC (.d (.int 30011)))) (dC (.d (.int 998244353)))) (gN 5)) <|
  bS (dIf (bI (dOp tO (ak 1) (dC (.d (.int 1000000)))))
   (gO (dOp eV (dOp dG (dOp gf (ak 5) (dC (.d (.int 1000000007)))) (ak 4)) (ak 1)))
   (cN)) <|
  gO (dOp eV (dOp tX (ak 5) (dC (.d (.int 7)))) (ak 1))) D [some (.m p),some (.d (.int n)),x,none,none,none] M:=by
 subst hD;have i0:ixW M (.m p) 0=some (.d (.int a)):=abF hm rfl;have i1:ixW M (.m p) 1=some (.d (.int b)):=abF hm rfl;have same:Bag M p:=⟨a,b,c,ns,hm,ha,hb,hb2,hc,hns⟩;refine⟨_,rfl,_,_,rfl,i0,rfl,_,_,rfl,rfl,_,rfl,?_⟩;refine fe (λ h=>?_) (λ h=>?_)
 ·have h0:0<a:=of_decide_eq_true h;refine⟨_,rfl,_,_,rfl,i0,rfl,_,rfl,_,_,rfl,rfl,hn,?_⟩;refine⟨_,rfl,_,_,rfl,i0,rfl,_,rfl,_,_,rfl,rfl,⟨hn,hn2⟩,?_⟩;refine⟨_,rfl,_,_,_,_,rfl,rfl,hm,rfl,?_⟩;refine⟨_,rfl,?_⟩;refine k _ _ (Int.emod_nonneg _ (by omega)) (Int.emod_lt_of_pos _ hn) ⟨a / n,b,c,ns,aa,Int.ediv_nonneg ha (by omega),hb,hb2,hc,hns⟩ λ q hq=>ab hq
 ·refine⟨_,rfl,_,_,rfl,i1,rfl,.inl ?_⟩;refine⟨_,_,rfl,rfl,_,_,rfl,rfl,.inl ⟨by omega,by omega⟩,_,_,rfl,rfl,(by decide:(0:Int)<1000000007),?_⟩;have f0:0<=(b+1) * 39373 % 1000000007:=Int.emod_nonneg _ (by decide);have f1:(b+1) * 39373 % 1000000007<1000000007:=Int.emod_lt_of_pos _ (by decide);refine⟨_,rfl,_,rfl,_,_,rfl,rfl,.inl ⟨by omega,by omega⟩,_,_,rfl,rfl,(by decide:(0:Int)<998244353),?_⟩;have g0:0<=(b+1) * 39373 % 1000000007 * ((b+1) * 39373 % 1000000007) % 998244353:=Int.emod_nonneg _ (by decide);have g1:(b+1) * 39373 % 1000000007 * ((b+1) * 39373 % 1000000007) % 998244353<998244353:=Int.emod_lt_of_pos _ (by decide);refine⟨_,_,rfl,rfl,.inl ⟨by omega,by omega⟩,_,_,rfl,rfl,(by decide:(0:Int)<998244353),?_⟩;have e0:0<=(b+1) * 39373 % 1000000007 * ((b+1) * 39373 % 1000000007) % 998244353 * 30011 % 998244353:=Int.emod_nonneg _ (by decide);have e1:(b+1) * 39373 % 1000000007 * ((b+1) * 39373 % 1000000007) % 998244353 * 30011 % 998244353<998244353:=Int.emod_lt_of_pos _ (by decide);refine⟨_,rfl,_,_,rfl,rfl,_,rfl,?_⟩;refine fe (λ h=>?_) (λ h=>?_)
  ·refine⟨_,rfl,_,_,rfl,rfl,.inl ⟨by omega,by omega⟩,_,rfl,.inl ⟨_,_,rfl,rfl,_,rfl,_,_,rfl,rfl,hn,?_⟩⟩;exact k _ _ (Int.emod_nonneg _ (by omega)) (Int.emod_lt_of_pos _ hn) same λ q _=>rfl
  ·refine⟨_,rfl,_,_,rfl,rfl,⟨by decide,by decide⟩,_,rfl,_,_,rfl,rfl,hn,?_⟩;exact k _ _ (Int.emod_nonneg _ (by omega)) (Int.emod_lt_of_pos _ hn) same λ q _=>rfl
theorem lA(hm:M p=some (.lst (xU a b c ns)))(ha:0<=a)(hb:0<=b)(hb2:b<2147483647)(hc:0<=c)(hcell:0<=cell)
  (k:∀ a' b' c' M',0<=a'->0<=b'->b'<2147483647->0<=c'->M' p=some (.lst (xU a' b' c' ns))->(∀ q,q≠p->M' q=M q)->D.nx [some (.m p),some (.d (.int n)),some (.d (.int cell)),none,none,none] M') :
  (bS (xj (ak 0) (dC (.d (.int 2))) (dC (.d (.int 1))) (λ i j=>i+j)) <|
   bS (dIf (bI (dOp agr (ak 2) (dC (.d (.int 1000000000000000000)))))
    (dW (ak 2) (xE (ak 0) (dC (.d (.int 0)))))
    (cN)) <|
   dW (dOp eV (dOp dG (dOp dG (dOp gf (dOp cU (ak 0) (dC (.d (.int 1)))) (dC (.d (.int 48271)))) (dOp eV (ak 2) (dC (.d (.int 2147483647))))) (dOp gf (dC (.d (.int 7919))) (dOp cU (ak 0) (dC (.d (.int 2)))))) (dC (.d (.int 2147483647)))) (xE (ak 0) (dC (.d (.int 1)))))
   D [some (.m p),some (.d (.int n)),some (.d (.int cell)),none,none,none] M:=by
 refine⟨_,rfl,_,_,_,_,_,rfl,rfl,hm,rfl,rfl,_,rfl,rfl,?_⟩;have m1:ax M p (.lst (xU a b (c+1) ns)) p=some (.lst (xU a b (c+1) ns)):=aa;have f1:∀ q,q≠p->ax M p (.lst (xU a b (c+1) ns)) q=M q:=λ q hq=>ab hq;show(bS _ _) D _ (ax M p (.lst (xU a b (c+1) ns)));generalize ax M p (.lst (xU a b (c+1) ns))=M1 at m1 f1;have fin:∀ (a':Int) (M2:MH),0<=a'->M2 p=some (.lst (xU a' b (c+1) ns))->(∀ q,q≠p->M2 q=M q) ->
   dW (dOp eV (dOp dG (dOp dG (dOp gf (dOp cU (ak 0) (dC (.d (.int 1)))) (dC (.d (.int 48271)))) (dOp eV (ak 2) (dC (.d (.int 2147483647))))) (dOp gf (dC (.d (.int 7919))) (dOp cU (ak 0) (dC (.d (.int 2)))))) (dC (.d (.int 2147483647)))) (xE (ak 0) (dC (.d (.int 1)))) D [some (.m p),some (.d (.int n)),some (.d (.int cell)),none,none,none] M2:=by
  intro a' M2 ha' m2 f2;have i1:ixW M2 (.m p) 1=some (.d (.int b)):=abF m2 rfl;have i2:ixW M2 (.m p) 2=some (.d (.int (c+1))):=abF m2 rfl;refine⟨_,rfl,_,_,rfl,i1,rfl,_,_,rfl,rfl,.inl ⟨by omega,by omega⟩,_,rfl,_,_,rfl,rfl,(by decide:(0:Int)<2147483647),.inl ?_⟩;refine⟨_,_,rfl,rfl,_,rfl,_,_,rfl,i2,rfl,_,_,rfl,rfl,.inl ⟨by decide,by decide⟩,.inl ?_⟩;refine⟨_,_,rfl,rfl,_,_,rfl,rfl,(by decide:(0:Int)<2147483647),_,rfl,_,_,_,_,rfl,rfl,m2,rfl,?_⟩;exact k a' _ (c+1) _ ha' (Int.emod_nonneg _ (by decide)) (Int.emod_lt_of_pos _ (by decide)) (by omega) aa λ q hq=>(ab hq).trans (f2 q hq)
 refine⟨_,rfl,_,_,rfl,rfl,_,rfl,?_⟩;refine fe (λ h=>?_) (λ h=>?_)
 ·refine⟨_,rfl,_,rfl,_,_,_,_,rfl,rfl,m1,rfl,?_⟩;exact fin cell _ hcell aa λ q hq=>(ab hq).trans (f1 q hq)
 ·exact fin a M1 ha m1 f1
theorem pN:∀ ws M Q,aC ws M Q->qy {nx:=λ _ M'=>Q (.d .none) M',rt:=Q} (bO qF ws) M:=by
 rintro ws M Q ⟨p,n,rfl,⟨a,b,c,ns,hm,ha,hb,hb2,hc,hns⟩,hn,hn2,k⟩;have i0:ixW M (.m p) 0=some (.d (.int a)):=abF hm rfl;have i2:ixW M (.m p) 2=some (.d (.int c)):=abF hm rfl;have i3:ixW M (.m p) 3=some (.d (.list (ns.map PyData.int))):=abF hm rfl;refine⟨_,rfl,_,_,rfl,i0,rfl,_,_,rfl,rfl,rfl,_,rfl,?_⟩;refine fe (λ h=>?_) (λ h=>?_)
 ·refine⟨_,rfl,_,_,rfl,i2,rfl,_,rfl,_,_,rfl,i3,rfl,_,_,rfl,rfl,rfl,_,_,rfl,rfl,_,rfl,?_⟩;refine fe (λ h=>?_) (λ h=>?_)
  ·have hlt:c<((ns.map PyData.int).length:Nat):=of_decide_eq_true h;have hlt':c.toNat<ns.length:=by rw[List.length_map] at hlt;omega
   have ic:ixW M (.d (.list (ns.map PyData.int))) c=some (.d (.int (ns[c.toNat]'hlt'))):=by simp only[ixW];rw[zd hc hlt];simp
   refine⟨_,rfl,_,_,rfl,i3,rfl,_,rfl,_,_,rfl,i2,rfl,_,_,rfl,ic,rfl,?_⟩;refine lA (cell:=ns[c.toNat]'hlt') hm ha hb hb2 hc (hns _ (List.getElem_mem _)) λ a' b' c' M' h1 h2 h3 h4 h5 h6=>?_;exact hJ (x:=some (.d (.int (ns[c.toNat]'hlt')))) h5 h1 h2 h3 h4 hns hn hn2 (λ r M'' r0 r1 bg fr=>k r M'' r0 r1 bg λ q hq=>(fr q hq).trans (h6 q hq)) rfl
  ·refine lA (cell:=0) hm ha hb hb2 hc (Int.le_refl 0) λ a' b' c' M' h1 h2 h3 h4 h5 h6=>?_;exact hJ (x:=some (.d (.int 0))) h5 h1 h2 h3 h4 hns hn hn2 (λ r M'' r0 r1 bg fr=>k r M'' r0 r1 bg λ q hq=>(fr q hq).trans (h6 q hq)) rfl
 ·exact hJ (x:=none) hm ha hb hb2 hc hns hn hn2 k rfl
theorem tV{ws:List W}{i:Nat}(h:ws[i]? =some w):(ws.take (i+1)).filterMap f=(ws.take i).filterMap f++(f w).toList:=by rw[List.take_add_one,h,List.filterMap_append];cases e:f w<;>simp[e]
theorem tK{tt:TTd}{te:TD}{fr:List Nat}{τ:DS}{M:MH}{Q:List PyData->MH->Prop}{ws:List W}(f:W->Option PyData)(hl:ws.length<=sizeLine)
  (step:∀ w∈ws,∀ P':Option PyData->Prop,P' (f w)->tt (some w::fr.map λ j=>(τ[j]?).getD none) M λ b M3=>if b=true then te (some w::fr.map λ j=>(τ[j]?).getD none) M3 λ y M4=>∃ d,y=.d d/\M4=M/\P' (some d) else M3=M/\P' none)
  (q:Q (ws.filterMap f) M):∃ P:Nat->List PyData->DS->MH->Prop,P 0 [] (yP 1 fr τ) M /\
   (∀ i w acc τ M,ws[i]? =some w->P i acc τ M->acc.length<sizeLine/\gN 0 w τ M λ τ2 M2=>tt τ2 M2 λ b M3=>if b=true then te τ2 M3 λ y M4=>∃ d,y=.d d/\P (i+1) (acc++[d]) τ2 M4 else P (i+1) acc τ2 M3) /\
   ∀ acc τ M,P ws.length acc τ M->Q acc M:=by
 let Pk:Nat->List PyData->DS->Prop:=λ i acc τ'=>i<=ws.length/\acc=(ws.take i).filterMap f/\∃ x,τ'=x::fr.map λ j=>(τ[j]?).getD none
 refine⟨λ i acc τ' M'=>M'=M/\Pk i acc τ',⟨rfl,Nat.zero_le _,rfl,none,rfl⟩,λ i w acc τ' M' hw hp=>?_,λ acc τ' M' hp=>?_⟩
 ·obtain⟨rfl,hi,rfl,x,rfl⟩:=hp;have hlt:i<ws.length:=(List.getElem?_eq_some_iff.mp hw).1;refine⟨?_,step w (List.mem_of_getElem? hw) (λ o=>match o with
   | some d=>Pk (i+1) ((ws.take i).filterMap f++[d]) (some w::fr.map λ j=>(τ[j]?).getD none)
   | none=>Pk (i+1) ((ws.take i).filterMap f) (some w::fr.map λ j=>(τ[j]?).getD none)) ?_⟩
  ·have h1:=List.length_filterMap_le f (ws.take i);rw[List.length_take] at h1;omega
  ·cases e:f w with
   | some d=>exact⟨hlt,by rw[tV hw,e];rfl,_,rfl⟩
   | none=>exact⟨hlt,by rw[tV hw,e];simp,_,rfl⟩
 ·obtain⟨rfl,hi,rfl,x,rfl⟩:=hp;rw[List.take_of_length_le (Nat.le_refl _)];exact q
theorem adx{α:Type}(g:α->W)(f:W->Option PyData)(h:α->PyData)(e:∀ a,f (g a)=some (h a))(l:List α):(l.map g).filterMap f=l.map h:=by
 induction l with
 | nil=>rfl
 | cons a l ih=>rw[List.map_cons,List.filterMap_cons,e,ih];rfl
theorem tq:∀ ws M Q,dP ws M Q->vz {nx:=λ _ M'=>Q (.d .none) M',rt:=Q} (bO t9 ws) M:=by
 rintro ws M Q ⟨ns,rfl,hl,k⟩;refine⟨_,rfl,_,rfl,_,rfl,rfl,_,rfl,?_⟩;have ec:cutD (ns.map PyData.int) none (some 63)=(cutD ns none (some 63)).map PyData.int:=by simp only[cutD,List.length_map,List.map_take,List.map_drop]
 have hlen:(cutD ns none (some 63)).length<=ns.length:=by simp only[cutD,List.length_take,List.length_drop];omega
 have h1000:(1000:Nat)<=sizeLine:=by rw[sizeLine_eq];decide
 dsimp only;refine tK (λ w=>match w with
  | .d (.int n)=>some (.int (if n<0 then -n else n))
  | _=>none) ?hl (λ w hw P' hp=>?_) ?_
 case hl=>rw[List.length_map,ec,List.length_map];omega
 ·rw[ec,List.map_map] at hw;obtain⟨n,_,rfl⟩:=List.mem_map.mp hw;exact⟨_,rfl,_,rfl,_,rfl,rfl,hp⟩
 ·have e2:(List.map W.d (cutD (ns.map PyData.int) none (some 63))).filterMap (λ w=>match w with
    | .d (.int n)=>some (PyData.int (if n<0 then -n else n))
    | _=>none)=((cutD ns none (some 63)).map λ n=>if n<0 then -n else n).map PyData.int:=by
   rw[ec,List.map_map,adx (W.d ∘ PyData.int) _ (λ n=>PyData.int (if n<0 then -n else n)) (λ n=>rfl),List.map_map];rfl
  rw[e2];refine⟨by simp[sizeLine_eq],λ p hp=>k p _ hp (λ q hq=>ab hq) ⟨0,1234567891,0,_,aa,Int.le_refl 0,by decide,by decide,Int.le_refl 0,λ n hn=>?_⟩⟩;obtain⟨m,_,rfl⟩:=List.mem_map.mp hn
  split<;>omega
def wM(z:Str):Bool:=z.cps.all (·<128)
theorem s16:(1000000:Nat)<=sizeLine:=by rw[sizeLine_eq];decide
def Asc(z:Str):Prop:=∀ c∈z.cps.toList,c<128
theorem acd(h:z.cps.all (·<128)=true):Asc z:=by
 intro c hc;have:=Array.all_eq_true_iff_forall_mem.mp h c (by simpa using hc)
 simpa using this
theorem Inv.swap(I:Inv X pins σ H s)(h:H a=some u)(n1:∀ xs,u ≠ .tup xs)(n2:∀ x,u ≠ .own x)(b1:∀ xs,X.H₀ a≠some (.tup xs))(b2:∀ o v,X.H₀ a≠some (.frz o v))(b3:∀ ps,X.H₀ a≠some (.tbl ps))
  (new:cF X.prog X.w (upd H a u') s.heap a u'):Inv X pins σ (upd H a u') s:=by
 have nn:∀ b,H b=none->b≠a:=λ b e z=>by rw[z,h] at e;cases e
 refine⟨I.ok,I.os,I.bare,⟨I.base.keep,I.base.slot,λ b ob q n x=>?_,I.base.there,λ b xs q=>?_,λ b ob v q=>?_,λ b ps q=>?_⟩,I.loc,I.cell,?_,λ x c q=>?_,λ p hp=>?_,λ b v q=>?_,I.len⟩
 ·have:=I.base.free b ob q n x;rw[ah (nn b this)];exact this
 ·rw[ah (λ z:b=a=>b1 xs (by rw[<- z];exact q))];exact I.base.tups b xs q
 ·rw[ah (λ z:b=a=>b2 ob v (by rw[<- z];exact q))];exact I.base.frzs b ob v q
 ·rw[ah (λ z:b=a=>b3 ps (by rw[<- z];exact q))];exact I.base.tbls b ps q
 ·rw[ah (nn _ I.free)];exact I.free
 ·have:=I.freeC x c q;rw[ah (nn c this)];exact this
 ·obtain⟨p1,p2,p3⟩:=I.pin p hp;exact⟨p1,by rw[ah (nn _ p2)];exact p2,p3⟩
 ·by_cases hb:b=a
  ·subst hb;rw[ao] at q;cases q;exact new
  ·rw[ah hb] at q;refine(I.hok b v q).tE (λ _ _ _ q=>q) (λ c r=>?_) λ c xs r=>?_
   ·rw[ah (λ z=>by rw[z,h] at r;exact n2 _ (Option.some.inj r))];exact r
   ·rw[ah (λ z=>by rw[z,h] at r;exact n1 _ (Option.some.inj r))];exact r
theorem gZ(I:Inv X pins σ H s)(h:H a=some (.dK l)):(∀ xs,X.H₀ a≠some (.tup xs))/\(∀ o v,X.H₀ a≠some (.frz o v))/\∀ ps,X.H₀ a≠some (.tbl ps):=by
 refine⟨λ xs e=>?_,λ o v e=>?_,λ ps e=>?_⟩
 ·have:=I.base.tups a xs e;rw[h] at this;cases this
 ·have:=I.base.frzs a o v e;rw[h] at this;cases this
 ·obtain⟨m,this⟩:=I.base.tbls a ps e;rw[h] at this;cases this
theorem Inv.agw(I:Inv X pins σ H s)(h:H a=some (.dK l)):∃ o,Inv X pins σ (upd H a (.frz o (.frz o (.dK l)))) s:=by have f:Fz (.dK l):=trivial;obtain⟨o,ho⟩:=(I.hok a _ h).obj f;obtain⟨b1,b2,b3⟩:=gZ I h;exact⟨o,Inv.swap I h (λ _ z=>nomatch z) (λ _ z=>nomatch z) b1 b2 b3 ⟨ho,ho,(I.hok a _ h).adk f⟩⟩
theorem Inv.again(I0:Inv X pins σ0 H0 s0)(h0:H0 a=some (.dK l))(I:Inv X pins σ H s)(h:H a=some (.frz o (.frz o (.dK l)))):Inv X pins σ (upd H a (.dK l)) s:=by have f:Fz (.dK l):=trivial;obtain⟨b1,b2,b3⟩:=gZ I0 h0;exact Inv.swap I h (λ _ z=>nomatch z) (λ _ z=>nomatch z) b1 b2 b3 ((I.hok a _ h).2.2.adk f)
def aep(t:TE):TE:=λ σ H Q=>∃ a l,H a=some (.dK l)/\∀ o,t σ (upd H a (.frz o (.frz o (.dK l)))) λ v H'=>H' a=some (.frz o (.frz o (.dK l)))/\Q v (upd H' a (.dK l))
theorem xX(h:PE X e t):PE X e (aep t):=by intro pins s σ H Q I ⟨a,l,ha,q⟩;obtain⟨o,I1⟩:=Inv.agw I ha;exact thn (h pins s σ _ _ I1 (q o)) λ v s1 ⟨x,H',I2,r,e,q2⟩=>⟨x,_,Inv.again I ha I2 e,r,q2⟩
section
variable {K:FG}{H:Hp}{a:Addr}{o:Obj}{l:List (Key×V)}
theorem Kp.back(h:H a=some (.frz o (.frz o (.dK l)))):(∀ b xs,H b=some (.tup xs)->upd H a (.dK l) b=some (.tup xs))/\(∀ b ob ys,H b=some (.frz ob (.lst ys))->upd H a (.dK l) b=some (.frz ob (.lst ys)))/\∀ b ob ys,H b=some (.frz ob (.dK ys))->upd H a (.dK l) b=some (.frz ob (.dK ys)):=by
 refine⟨λ b xs e=>?_,λ b ob ys e=>?_,λ b ob ys e=>?_⟩<;>
 ·rw[ah (λ z=>by rw[z,h] at e;cases e)];exact e
theorem SqT.back(h:H a=some (.frz o (.frz o (.dK l))))(r:SqT K H b vs):SqT K (upd H a (.dK l)) b vs:=by
 rcases r with (r | ⟨ob,r⟩) | r
 ·exact .inl (.inl ((Kp.back h).1 _ _ r))
 ·refine .inl (.inr ⟨ob,?_⟩);rw[ah (λ z=>by rw[z,h] at r;cases r)];exact r
 ·exact .inr r
theorem SqF.back(h:H a=some (.frz o (.frz o (.dK l))))(r:SqF K H b vs):SqF K (upd H a (.dK l)) b vs:=by
 rcases r with ⟨ob,r⟩ | r
 ·exact .inl ⟨ob,(Kp.back h).2.1 _ _ _ r⟩
 ·exact .inr r
mutual
theorem ay.back(h:H a=some (.frz o (.frz o (.dK l)))):∀ {d:PyData} {v:V},ay K H d v->ay K (upd H a (.dK l)) d v
 | .none,v,r=>by simp only[ay] at r ⊢;exact r
 | .bool b,v,r=>by simp only[ay] at r ⊢;exact r
 | .int i,v,r=>by simp only[ay] at r ⊢;exact r
 | .str x,v,r=>by simp only[ay] at r ⊢;exact r
 | .list ds,v,r=>by simp only[ay] at r ⊢;obtain⟨b,vs,e,q,r⟩:=r;exact⟨b,vs,e,SqF.back h q,aQ.back h r⟩
 | .tuple ds,v,r=>by simp only[ay] at r ⊢;obtain⟨b,vs,e,q,r⟩:=r;exact⟨b,vs,e,SqT.back h q,aQ.back h r⟩
 | .dict kvs,v,r=>by simp only[ay] at r ⊢;obtain⟨b,ob,m,e,q,r⟩:=r;exact⟨b,ob,m,e,(Kp.back h).2.2 _ _ _ q,fY.back h r⟩
theorem aQ.back(h:H a=some (.frz o (.frz o (.dK l)))):∀ {ds:List PyData} {vs:List V},aQ K H ds vs->aQ K (upd H a (.dK l)) ds vs
 | [],vs,r=>by simp only[aQ] at r ⊢;exact r
 | d::ds,vs,r=>by simp only[aQ] at r ⊢;obtain⟨v,q,e,h1,h2⟩:=r;exact⟨v,q,e,ay.back h h1,aQ.back h h2⟩
theorem fY.back(h:H a=some (.frz o (.frz o (.dK l)))):∀ {ds:List (PyData×PyData)} {m:List (Key×V)},fY K H ds m->fY K (upd H a (.dK l)) ds m
 | [],m,r=>by simp only[fY] at r ⊢;exact r
 | (key,d)::ds,m,r=>by simp only[fY] at r ⊢;obtain⟨k',v,q,e,ek,h1,h2⟩:=r;exact⟨k',v,q,e,ek,ay.back h h1,fY.back h h2⟩
end
theorem aA.back(h:H a=some (.frz o (.frz o (.dK l)))):∀ {w:W} {v:V},aA K H w v->aA K (upd H a (.dK l)) w v
 | .d _,_,r=>ay.back h r
 | .m _,_,r=>r
 | .t _,_,r=>r
theorem cB.back(h:H a=some (.frz o (.frz o (.dK l))))(m:cB K H M)(e:M a=some (.fdic kvs)):cB K (upd H a (.dK l)) (ax M a (.dic kvs)):=λ b mo q=>by
 by_cases hb:b=a
 ·subst hb;rw[aa] at q;cases q;obtain⟨o',l',e',pr⟩:=m _ _ e;rw[h] at e';cases e';exact⟨l,ao,Paired.fC pr λ p q z=>⟨z.1,aA.back h z.2⟩⟩
 ·rw[ab hb] at q;have r:=m b mo q;cases mo with
  | lst ws=>obtain⟨vs,e,r⟩:=r;exact⟨vs,by rw[ah hb];exact e,Paired.fC r λ _ _ z=>aA.back h z⟩
  | dic kvs=>obtain⟨l,e,r⟩:=r;exact⟨l,by rw[ah hb];exact e,Paired.fC r λ p q z=>⟨z.1,aA.back h z.2⟩⟩
  | dct kvs=>obtain⟨l,e,r⟩:=r;exact⟨l,by rw[ah hb];exact e,Paired.fC r λ p q z=>⟨z.1,aA.back h z.2⟩⟩
  | fdic kvs=>obtain⟨o,l,e,r⟩:=r;exact⟨o,l,by rw[ah hb];exact e,Paired.fC r λ p q z=>⟨z.1,aA.back h z.2⟩⟩
  | fdct kvs=>obtain⟨o,l,e,r⟩:=r;exact⟨o,l,by rw[ah hb];exact e,Paired.fC r λ p q z=>⟨z.1,aA.back h z.2⟩⟩
  | ins C fs=>obtain⟨dx,l,e,r⟩:=r;exact⟨dx,l,by rw[ah hb];exact e,Paired.fC r λ p q z=>⟨z.1,aA.back h z.2⟩⟩
  | tup ws=>obtain⟨vs,e,r⟩:=r;exact⟨vs,by rw[ah hb];exact e,Paired.fC r λ _ _ z=>aA.back h z⟩
  | flst ws=>obtain⟨o,vs,e,r⟩:=r;exact⟨o,vs,by rw[ah hb];exact e,Paired.fC r λ _ _ z=>aA.back h z⟩
  | exc C fs =>
   obtain⟨φ,dct,e,p,r⟩:=r;refine⟨φ,dct,by rw[ah hb];exact e,p,?_⟩;rcases r with r | ⟨dx,o',l',e1,e2,r⟩
   ·exact .inl r
   ·exact .inr ⟨dx,o',l',e1,by rw[ah (λ z=>by rw[z,h] at e2;cases e2)];exact e2,Paired.fC r λ p q z=>⟨z.1,aA.back h z.2⟩⟩
  | code q pos =>
   obtain⟨ps,e,ht,hc⟩:=r;refine⟨ps,by rw[ah hb];exact e,ht,?_⟩;rcases hc with hc | ⟨c,o',vs,t,e1,e2,e3⟩
   ·exact .inl hc
   ·exact .inr ⟨c,o',vs,t,e1,by rw[ah (λ z=>by rw[z,h] at e2;cases e2)];exact e2,e3⟩
end
def uU(t:TD)(τ:DS)(M:MH)(Q:QD):Prop:=∃ a kvs,M a=some (.dic kvs)/\t τ (ax M a (.fdic kvs)) λ v M'=>M' a=some (.fdic kvs)/\Q v (ax M' a (.dic kvs))
theorem yt(h:PD X e t):PD X e (uU t):=fE (xX h) λ σ H Q hq69=>by
 obtain⟨τ,M,Qd,A,⟨a,kvs,hm,q⟩,k⟩:=hq69;obtain⟨l,e,pr⟩:=A.mem _ _ hm;refine⟨a,l,e,λ o=>?_⟩;have kp:Kp H (upd H a (.frz o (.frz o (.dK l)))):=Kp.set e (λ _ z=>nomatch z) (λ _ _ z=>nomatch z);have m1:cB X.K (upd H a (.frz o (.frz o (.dK l)))) (ax M a (.fdic kvs)):=A.mem.put (mo:=.fdic kvs) kp ⟨o,l,ao,Paired.fC pr λ p q z=>⟨z.1,z.2.keep kp⟩⟩;refine⟨τ,_,_,A.go kp m1,q,λ v H' w M' kp' r' m' hq70=>?_⟩;obtain⟨h1,q1⟩:=hq70;have e':=kp'.frz a o _ ao;refine⟨e',k _ _ w _ ⟨λ b xs z=>?_,λ b ob u z=>?_⟩ (aA.back e' r') (cB.back e' m' h1) q1⟩
 ·have hb:b≠a:=λ y=>by rw[y,e] at z;cases z
  rw[ah hb];exact kp'.tup b xs (by rw[ah hb];exact z)
 ·have hb:b≠a:=λ y=>by rw[y,e] at z;cases z
  rw[ah hb];exact kp'.frz b ob u (by rw[ah hb];exact z)
end D
namespace D
open L2
theorem Inv.acL{D:Addr}{ys:List V}{us:List Value}{n:Nat}(I:Inv X pins σ H s)(e:s.heap.get? D=some {cls:=.type "tuple",data:=.seq us.toArray n})(hn:H D=none)(hv:Vals ys us)(hz:ys.length<=sizeLine)
  (h0:D∈X.ex\/X.s₀.heap.objs.size<=D)(hL:D≠X.env.locals)(hc:∀ x c,X.env.cells.lookup x=some c->c≠D)(hp:∀ p∈X.pn++pins,p.1≠D):Inv X pins σ (upd H D (.tup ys)) s:=by
 have ne:∀ b u,H b=some u->b≠D:=λ b u q=>aF q hn;refine I.step (h':=s.heap) (g':=s.gens) (d':=s.drawn) (t':=s.toks) (ch:=[D]) (λ b hb=>?_) (λ b o _ _ _ q _=>q) (λ b o _ _ _ q _=>⟨o.slots,q⟩) (λ b o hb q n=>?_) (λ b o _ q=>⟨o,q⟩)
  (λ b xs q=>by rw[ah (ne b _ q)];exact q) (λ b o u q=>by rw[ah (ne b _ q)];exact q) (λ b ps q=>⟨#[],by rw[ah (ne b _ q),q];simp⟩) (λ m hm=>hm) (λ b u q=>?_) I.bare
 ·have e:b=D:=by simpa using hb
  subst e;exact⟨h0,hL,hc,hp⟩
 ·rw[ah (λ z=>hb (by simp[z]))];exact n
 ·by_cases hb:b=D
  ·subst hb;rw[ao] at q;cases q;exact⟨hz,us,hv,⟨_,e,rfl,rfl,n,rfl⟩⟩
  ·rw[ah hb] at q;exact(I.hok b u q).tE (λ _ _ _ q=>q) (λ c r=>by rw[ah (ne c _ r)];exact r) λ c xs r=>by rw[ah (ne c _ r)];exact r
abbrev rB(o:Obj)(l:List (Key×V)):HO:=.frz o (.frz o (.dK l))
theorem i6{P:Program}{w:World}{H:Hp}{h:Heap}{a:Addr}{o:Obj}{l:List (Key×V)}(ok:HOk P w H h)(e:H a=some (rB o l)):(a==sysModules)=false/\∃ vs es ep,KV l vs/\o.data=.dict es ep/\h.DictAt (aV P w) a vs ep:=by obtain⟨ho,_,z,hd,vs,rel,o',es,ep,h1,h2,h3,h4⟩:=ok a _ e;rw[ho] at h1;cases h1;exact⟨hd,vs,es,ep,rel,h3,o,es,ho,h2,h3,h4⟩
def Itd(a:Addr)(o:Obj)(l:List (Key×V)):It:=
 ⟨λ i H=>H a=some (rB o l)/\i<l.length,λ i H x H'=>∃ T kv,l[i]? =some kv/\H T=none/\x=.ref T/\H'=upd H T (.tup [kV kv.1,kv.2]),λ i H=>H a=some (rB o l)/\l.length<=i⟩
theorem af4{κ:Type}[DecidableEq κ]{l:List (κ×V)}{vs:List (κ×Value)}(r:KV l vs){i:Nat}(h:i<l.length):∃ kv k v,l[i]? =some kv/\vs[i]? =some (k,v)/\kv.1=k/\RelV kv.2 v:=by
 unfold KV at r
 induction r generalizing i with
 | nil=>simp at h
 | @cons p q ps qs hp t ih =>
  cases i with
  | zero=>exact⟨p,q.1,q.2,rfl,rfl,hp.1,hp.2⟩
  | succ i =>
   obtain⟨kv,k,v,e1,e2,e3,e4⟩:=ih (i:=i) (by simpa using h);exact⟨kv,k,v,by simpa using e1,by simpa using e2,e3,e4⟩
theorem acV{P:Program}{w:World}{k:Key}{u:Value}(h:(aV P w).is k u=true):RelV (kV k) u:=by
 cases k with
 | inl i =>
  have h':Value.isInt i u=true:=h;unfold Value.isInt at h'
  split at h'
  ·rename_i j t
   have:j=i:=by simpa using h'
   subst this;exact⟨t,rfl⟩
  ·cases h'
 | inr x =>
  have h':Value.isStrOf x u=true:=h;unfold Value.isStrOf at h'
  split at h'
  ·rename_i j t
   have:j=x:=by simpa using h'
   subst this;exact⟨t,rfl⟩
  ·cases h'
theorem qf{P:Program}{w:World}{K:FG}{elts:List Expr}{x1:Nat}{tpos:Pos}(a it:Addr)(o:Obj)(l:List (Key×V))(es:Array DictEntry)(ep:Nat)(ho:o.data=.dict es ep) :
  Turn P w K (.Tuple elts x1 tpos) (Itd a o l) [it] it (λ i h=>∃ ok ov,IsItemIter h it a i l.length ep ok ov) where
 mem:=by simp
 obj:=λ i h st b hb=>by
  have e:b=it:=by simpa using hb
  subst e;obtain⟨ok,ov,st⟩:=st;exact⟨_,st,λ v z=>by cases z⟩
 keep:=λ i h h' ⟨ok,ov,st⟩ k=>⟨ok,ov,k it (by simp) _ st⟩
 item:=by
  intro X hP hw hK hc i pins s σ H E I hf ⟨ok,ov,st⟩ ⟨hg,hi⟩;subst hP hw hK;obtain⟨f0,f1,f2,f3,f4,f5⟩:=hf it (by simp);obtain⟨hd,vs,es',ep',rel,ho',da⟩:=i6 I.hok hg;rw[ho] at ho';cases ho';obtain⟨kv,k,v,e1,e2,e3,e4⟩:=af4 rel hi;have hl:l.length=vs.length:=rel.length;rw[hl] at st;refine wpAny_pyNext_items_item st da e2 λ key h' hk st' ht hsz kp=>?_;refine⟨_,rfl,wpAny_letOwnedTupleGo_items st' λ h'' st'' sb=>?_⟩;have T:=I.pf (Nat.le_refl _) (I.hok.fresh (Nat.le_refl _));obtain⟨t0,t1,t2,t3,t4,t5⟩:=T;have hit:it<s.heap.objs.size:=Heap.lt_size st;have nT:s.heap.objs.size≠it:=Nat.ne_of_gt hit;have I1:Inv X pins σ H {s with heap:=h''}:=I.turned (t':=s.toks) (λ b ob hb e=>(sb.2 b hb).trans (kp b ob hb e)) f0 f1 f3 f4 f5;have eT:h''.get? s.heap.objs.size=some {cls:=.type "tuple",data:=.seq #[key,v]}:=(sb.2 _ nT).trans ht;have I2:=Inv.acL (us:=[key,v]) (ys:=[kV kv.1,kv.2]) I1 eT t0 (.cons (by rw[e3];exact acV hk) (.cons e4 .nil)) (by simp;have:=s16;omega) t3 t1 t4 t5;refine⟨.ref s.heap.objs.size,_,I2,rfl,⟨_,kv,e1,t0,rfl,rfl⟩,⟨_,_,by rw[hl];exact st''⟩,λ b hb=>?_⟩;have e:b=it:=by simpa using hb
  subst e;rw[ah nT.symm];exact f0
 done:=by intro X hP hw hK hc i pins s σ H E I hf ⟨ok,ov,st⟩ ⟨hg,hi⟩;subst hP hw hK;obtain⟨f0,f1,f2,f3,f4,f5⟩:=hf it (by simp);obtain⟨hd,vs,es',ep',rel,ho',da⟩:=i6 I.hok hg;rw[ho] at ho';cases ho';have hl:l.length=vs.length:=rel.length;rw[hl] at st hi;exact wpAny_pyNext_items_end (I.ok.hd hc) st da (List.getElem?_eq_none hi) λ h' eb=>⟨rfl,I.turned (t':=s.toks) (λ b o hb e=>eb b o hb e) f0 f1 f3 f4 f5⟩
 self:=λ _ _ _ _ _ ⟨ok,ov,st⟩ h=>W.kcp_self st h
def uS(td:TE):TI:=λ σ H R=>td σ H λ x H1=>∃ a o l,x=.ref a/\H1 a=some (rB o l)/\R (Itd a o l) H1
theorem uJ{elts:List Expr}{x1:Nat}{tpos:Pos}(ho:PE X o td)(hbase:attributeBase o "items" X.env (eval o X.env)=eval o X.env:=by rfl)(hline:(apos.endLine==cpos.line)=true:=by rfl) :
  PI X (.Tuple elts x1 tpos) (.Call (.Attribute o "items" apos) [] [] cpos) (uS td):=by
 intro pins s σ H R I h;refine wpAny_Call_method0_late hbase hline (thn (ho pins s σ H _ I h) λ v s1 hq71=>?_);obtain⟨x,H1,I1,r1,a,ob,l,ex,hg,q⟩:=hq71;subst ex;cases r1;obtain⟨hd,vs,es,ep,rel,hdat,da⟩:=i6 I1.hok hg;have dd:s1.heap.DictOf (aV X.prog X.w) a vs:=let ⟨o,es,h⟩:=da; ⟨o,es,ep,h⟩;have hnd:∀ b,Value.ref a=.ref b->∃ ob,s1.heap.get? b=some ob/\ob.dict=none:=λ b e=>by
  cases e;obtain⟨oo,es',h1,h2,_⟩:=da;exact⟨oo,h1,h2.2.1⟩
 refine⟨"dict", "dict.items",PySem.F.plainAttrs_dict,PySem.F.slot_dict_items,PySem.F.type_dict_items,dd.typeIs,hnd,Calls.callWith_builtin rfl (PySem.evalArgs_none ?_)⟩;refine call_meetsIn PySem.F.slot_dict_items dd.typeIs PySem.F.entry_dict_items (PySem.F.args_dict_items_1 _) (meets_dict_items (aV X.prog X.w) a hd) ⟨⟨vs,dd⟩,?_⟩;have I2:Inv X pins σ H1 {s1 with heap:=s1.heap.push {cls:=.type "dict_items",data:=.fields #[.ref a]}}:=I1.kept (t':=s1.toks) λ b o e=>Heap.get?_push_of_some _ e;obtain⟨_,vs2,es2,ep2,rel2,hdat2,da2⟩:=i6 I2.hok hg;rw[hdat] at hdat2;cases hdat2;refine wpAny_pyIter_items ⟨_,Heap.get?_push_size _ rfl,rfl,rfl⟩ da2 ?_;refine⟨_,[_],_,_,H1,rfl,I2.kept (t':=s1.toks) λ b o e=>Heap.get?_push_of_some _ e,qf a _ ob l es ep hdat,⟨.none,.none,?_⟩,λ b hb=>?_,q⟩
 ·have:=Heap.get?_push_size (s1.heap.push {cls:=.type "dict_items",data:=.fields #[.ref a]}) (o:={cls:=.type "dict_itemiterator",data:=.fields #[.none,.bool false,.ref a,.int 0 0,.int (vs2.length:Nat) 0,.int (ep:Nat) 0,.none,.none]}) rfl;rw[rel2.length];exact this
 ·rw[List.mem_singleton] at hb;rw[hb];exact I2.pf (Nat.le_refl _) (I2.hok.fresh (Nat.le_refl _))
section
variable {X:Cx}{K:FG}{tg o:Expr}{apos cpos:Pos}{td:TD}
end
theorem nZ:∀ {zs:List Str} {its:List Value},StrsAre its zs->Vals (zs.map V.str) its
 | _,_,.nil=>.nil
 | _,_,.cons y t h=>.cons ⟨t,rfl⟩ (nZ h)
theorem vT:bootBuiltins "sorted" = some (.builtin "sorted"):=by decide +kernel
section
variable {X:Cx}{K:FG}
theorem nV{H:Hp}:∀ (zs:List Str),aI K H (mE zs) (zs.map V.str)
 | []=>.nil
 | z::zs=>.cons (by simp[aA,ay]) (nV zs)
end
section
variable {X:Cx}{K:FG}
end
theorem rV{P:Program}{w:World}{K:FG}{mg:Str->Option Value}{base:Heap}{k:Nat}{f:Addr}{fd:FuncData}{ps:List Str}{sp:SpD}(h:∀ ws M Q,¬ sp ws M Q):cX P w K mg base CX0 k f fd ps (dR K sp):=
 ⟨λ vs H Q E ⟨ws,M,Qd,_,_,q,_⟩=>absurd q (h ws M Qd),λ A outer s H args us vs Q E _ _ _ _ ⟨ws,M,Qd,_,_,q,_⟩=>absurd q (h ws M Qd)⟩
theorem uR(h:Jd (PD X e t)):Jd (PD X e (uU t)):=⟨D.yt (h:=h.h)⟩
end D
namespace S
open PySem PySem.W PyProof.Rows
def go{α:Type}(lt:Nat->Nat->Bool):KasT α->α
 | .ret a=>a
 | .ask i j k=>go lt (k (lt i j))
theorem dE{α β:Type}(lt:Nat->Nat->Bool)(f:α->KasT β):∀ t:KasT α,go lt (t.bind f)=go lt (f (go lt t))
 | .ret _=>rfl
 | .ask i j k=>dE lt f (k (lt i j))
structure fU(lt:Nat->Nat->Bool):Prop where
 aaV:∀ a b,lt a b=true->lt b a=false
 tr:∀ a b c,lt b a=false->lt c b=false->lt c a=false
theorem fU.irr(h:fU lt)(a:Nat):lt a a=false:=by
 cases e:lt a a with
 | false=>rfl
 | true=>have:=h.aaV a a e;rw[e] at this;cases this
theorem fU.xp(h:fU lt){a b c:Nat}(h1:lt a b=true)(h2:lt c b=false):lt a c=true:=by
 cases e:lt a c with
 | true=>rfl
 | false =>
  have:=h.tr b c a h2 e;rw[h1] at this;cases this
theorem fU.ack(h:fU lt){a b c:Nat}(h1:lt b a=false)(h2:lt b c=true):lt a c=true:=by
 cases e:lt a c with
 | true=>rfl
 | false =>
  have:=h.tr c a b e h1;rw[h2] at this;cases this
def B(lt:Nat->Nat->Bool)(a b:Nat):Prop:=lt a b=true\/(lt a b=false/\lt b a=false/\a<b)
theorem B.of_le{a b:Nat}(h:lt b a=false)(h2:a<b):B lt a b:=by
 cases e:lt a b with
 | true=>exact .inl e
 | false=>exact .inr ⟨e,h,h2⟩
theorem B.le(h:fU lt){a b:Nat}(q:B lt a b):lt b a=false:=by
 rcases q with q | q
 ·exact h.aaV _ _ q
 ·exact q.2.1
theorem B.tr(h:fU lt){a b c:Nat}(q:B lt a b)(r:B lt b c):B lt a c:=by
 rcases q with q | ⟨q1,q2,q3⟩
 ·rcases r with r | ⟨r1,r2,r3⟩
  ·exact .inl (h.xp q (h.aaV _ _ r))
  ·exact .inl (h.xp q r2)
 ·rcases r with r | ⟨r1,r2,r3⟩
  ·exact .inl (h.ack q2 r)
  ·exact .inr ⟨h.tr _ _ _ r1 q1,h.tr _ _ _ q2 r2,by omega⟩
abbrev g(p:Array Nat)(i:Nat):Nat:=p.getD i 0
theorem sX(p:Array Nat)(i:Nat):g p i=(p[i]?).getD 0:=by simp[g]
theorem kg{p:Array Nat}{i j:Nat}(hj:j<=p.size)(k:Nat):g (kas_rev p i j) k=if i<=k/\k<j then g p (i+j-1-k) else g p k:=by
 rw[sX,sX,sX];unfold kas_rev;rw[getElem?_mirror_all hj k]
 split<;>rfl
theorem adm{p:Array Nat}{k d:Nat}(hk:k<p.size)(hd:d<=k)(i:Nat):g (bubble p k d) i=if i=k-d then g p k else if k-d<i/\i<=k then g p (i-1) else g p i:=by
 rw[sX,sX,sX,sX,getElem?_bubble hk d hd i]
 split
 ·rfl
 ·split<;>rfl
structure Un(p:Array Nat)(N n:Nat):Prop where
 size:p.size=N
 lo:∀ i,i<n->g p i<n
 hi:∀ i,n<=i->i<N->g p i=i
theorem Un.rev{p:Array Nat}{N n i j:Nat}(u:Un p N n)(hj:j<=n)(hn:n<=N):Un (kas_rev p i j) N n:=by
 have hs:=u.size;refine⟨(mirror_size _ _ _ _).trans u.size,λ k hk=>?_,λ k hk hk2=>?_⟩
 ·rw[kg (by omega)]
  split
  ·exact u.lo _ (by omega)
  ·exact u.lo _ hk
 ·rw[kg (by omega),if_neg (by omega)];exact u.hi k hk hk2
theorem Un.up{p:Array Nat}{N n m:Nat}(u:Un p N n)(h:n<=m)(hm:m<=N):Un p N m:=by
 refine⟨u.size,λ k hk=>?_,λ k hk hk2=>u.hi k (by omega) hk2⟩
 by_cases z:k<n
 ·have:=u.lo k z;omega
 ·have:=u.hi k (by omega) (by omega);omega
theorem i9{p:Array Nat}{i j:Nat}{l:List Nat}(h:p.toList.Perm l):(kas_rev p i j).toList.Perm l:=(Array.perm_iff_toList_perm.mp (mirror_perm p i j _)).trans h
def Up(lt:Nat->Nat->Bool)(p:Array Nat)(n:Nat):Prop:=∀ i j,i<j->j<n->B lt (g p i) (g p j)
def Dn(lt:Nat->Nat->Bool)(p:Array Nat)(n:Nat):Prop:=∀ i j,i<j->j<n->B lt (g p j) (g p i)
theorem Up.succ(h:fU lt){p:Array Nat}{n:Nat}(u:Up lt p n)(q:0<n->B lt (g p (n-1)) (g p n)):Up lt p (n+1):=by
 intro i j hij hj
 by_cases e:j<n
 ·exact u i j hij e
 ·have e:j=n:=by omega
  subst e;have q:=q (by omega)
  by_cases z:i=j-1
  ·rw[z];exact q
  ·exact(u i (j-1) (by omega) (by omega)).tr h q
theorem tW(h:fU lt){p:Array Nat}{N:Nat}:∀ (f n:Nat),n+f<=N->1<=n->Un p N n->Up lt p n ->
  n<=go lt (kas_asc p f n)/\go lt (kas_asc p f n)<=n+f/\Un p N (go lt (kas_asc p f n))/\Up lt p (go lt (kas_asc p f n))/\(go lt (kas_asc p f n)<n+f->lt (g p (go lt (kas_asc p f n))) (g p (go lt (kas_asc p f n)-1))=true)
 | 0,n,hf,h1,u,q=>⟨Nat.le_refl _,Nat.le_refl _,u,q,λ z=>absurd z (Nat.lt_irrefl _)⟩
 | f+1,n,hf,h1,u,q=>by
  simp only[kas_asc,go];cases e:lt (p.getD n 0) (p.getD (n-1) 0) with
  | true=>exact⟨Nat.le_refl _,by simp[go],u,q,λ _=>e⟩
  | false =>
   have hb:B lt (g p (n-1)) (g p n):=B.of_le e (by have:=u.lo (n-1) (by omega);have:=u.hi n (Nat.le_refl _) (by omega);omega);have r:=tW h (p:=p) (N:=N) f (n+1) (by omega) (by omega) (u.up (by omega) (by omega)) (q.succ h λ _=>hb);simp only[Bool.false_eq_true,if_false];have e2:n+1+f=n+(f+1):=by omega
   rw[e2] at r;exact⟨by have:=r.1;omega,r.2⟩
structure yj(lt:Nat->Nat->Bool)(p:Array Nat)(n q:Nat):Prop where
 q1:q+1<=n
 dn:∀ i j,i<j->j<n-1-q->B lt (g p j) (g p i)
 cr:∀ i j,i<n-1-q->n-1-q<=j->j<n->lt (g p j) (g p i)=true
 bl:∀ i j,n-1-q<=i->i<j->j<n->B lt (g p i) (g p j)/\lt (g p i) (g p j)=false
theorem yj.adp{p:Array Nat}{n:Nat}(x:yj lt p n 0):Dn lt p n:=λ i j hij hj=>by
 have:=x.q1
 by_cases e:j<n-1-0
 ·exact x.dn i j hij e
 ·exact .inl (x.cr i j (by omega) (by omega) hj)
theorem yj.rev{p:Array Nat}{n q N:Nat}(x:yj lt p n q)(hN:n<=p.size):Dn lt (kas_rev p (n-(q+1)) n) n:=λ i j hij hj=>by
 have:=x.q1;rw[kg hN,kg hN]
 by_cases e1:n-(q+1)<=i/\i<n
 ·rw[if_pos e1,if_pos ⟨by omega,hj⟩];exact(x.bl _ _ (by omega) (by omega) (by omega)).1
 ·rw[if_neg e1]
  by_cases e2:n-(q+1)<=j/\j<n
  ·rw[if_pos e2];exact .inl (x.cr _ _ (by omega) (by omega) (by omega))
  ·rw[if_neg e2];exact x.dn i j hij (by omega)
theorem Dn.afe(h:fU lt){p:Array Nat}{n:Nat}(h1:1<=n)(x:Dn lt p n)(q:lt (g p n) (g p (n-1))=true):yj lt p (n+1) 0:=by
 refine⟨by omega,λ i j hij hj=>x i j hij (by omega),λ i j hi hj hj2=>?_,λ i j hi hij hj=>by omega⟩;have e:j=n:=by omega
 subst e
 by_cases z:i=j-1
 ·rw[z];exact q
 ·exact h.xp q ((x i (j-1) (by omega) (by omega)).le h)
theorem mh(h:fU lt){N:Nat}:∀ (f:Nat) (p:Array Nat) (n q:Nat),n+f<=N->Un p N n->p.toList.Perm (List.range N)->yj lt p n q ->
  n<=(go lt (kas_desc f p n q)).2.1/\(go lt (kas_desc f p n q)).2.1<=n+f/\Un (go lt (kas_desc f p n q)).1 N (go lt (kas_desc f p n q)).2.1/\(go lt (kas_desc f p n q)).1.toList.Perm (List.range N)/\yj lt (go lt (kas_desc f p n q)).1 (go lt (kas_desc f p n q)).2.1 (go lt (kas_desc f p n q)).2.2
 | 0,p,n,q,hf,u,hp,x=>⟨Nat.le_refl _,Nat.le_refl _,u,hp,x⟩
 | f+1,p,n,q,hf,u,hp,x=>by
  have hs:=u.size;have hq1:=x.q1;simp only[kas_desc,go];cases e:lt (p.getD n 0) (p.getD (n-1) 0) with
  | true =>
   simp only[if_true]
   by_cases hq:q > 0
   ·rw[if_pos hq];have e2:lt (g (kas_rev p (n-(q+1)) n) n) (g (kas_rev p (n-(q+1)) n) (n-1))=true:=by
     rw[kg (by omega),kg (by omega),if_neg (by omega),if_pos (by omega)]
     by_cases z:n-(q+1)+n-1-(n-1)=n-1
     ·rw[z];exact e
     ·exact h.xp e (x.bl _ (n-1) (by omega) (by omega) (by omega)).2
    have r:=mh h f (kas_rev p (n-(q+1)) n) (n+1) 0 (by omega) ((u.rev (Nat.le_refl _) (by omega)).up (by omega) (by omega)) (i9 hp) ((x.rev (N:=N) (by omega)).afe h (by omega) e2);exact⟨by have:=r.1;omega,by have:=r.2.1;omega,r.2.2⟩
   ·rw[if_neg hq];have eq0:q=0:=by omega
    subst eq0;have r:=mh h f p (n+1) 0 (by omega) (u.up (by omega) (by omega)) hp (x.adp.afe h (by omega) e);exact⟨by have:=r.1;omega,by have:=r.2.1;omega,r.2.2⟩
  | false =>
   simp only[Bool.false_eq_true,if_false,go];cases e2:lt (p.getD (n-1) 0) (p.getD n 0) with
   | true=>exact⟨Nat.le_refl _,by simp[go],u,hp,x⟩
   | false =>
    simp only[Bool.false_eq_true,if_false];have lo:=u.lo;have hin:=u.hi n (Nat.le_refl _) (by omega);have r:=mh h f p (n+1) (q+1) (by omega) (u.up (by omega) (by omega)) hp ⟨by omega,λ i j hij hj=>x.dn i j hij (by omega),λ i j hi hj hj2=>?_,λ i j hi hij hj=>?_⟩
    ·exact⟨by have:=r.1;omega,by have:=r.2.1;omega,r.2.2⟩
    ·by_cases z:j<n
     ·exact x.cr i j (by omega) (by omega) z
     ·have z:j=n:=by omega
      subst z;exact h.ack e2 (x.cr i (j-1) (by omega) (by omega) (by omega))
    ·by_cases z:j<n
     ·exact x.bl i j (by omega) hij z
     ·have z:j=n:=by omega
      subst z;have le1:lt (g p j) (g p i)=false:=by
       by_cases y:i=j-1
       ·rw[y];exact e
       ·exact h.tr _ _ _ ((x.bl i (j-1) (by omega) (by omega) (by omega)).1.le h) e
      have le2:lt (g p i) (g p j)=false:=by
       by_cases y:i=j-1
       ·rw[y];exact e2
       ·exact h.tr _ _ _ e2 (x.bl i (j-1) (by omega) (by omega) (by omega)).2
      exact⟨B.of_le le1 (by have:=lo i (by omega);omega),le2⟩
theorem Dn.up{p:Array Nat}{n:Nat}(x:Dn lt p n)(hN:n<=p.size):Up lt (kas_rev p 0 n) n:=λ i j hij hj=>by rw[kg hN,kg hN,if_pos (by omega),if_pos (by omega)];exact x _ _ (by omega) (by omega)
def Cnt(lt:Nat->Nat->Bool)(N:Nat)(r:Nat×Array Nat):Prop:=1<=r.1/\r.1<=N/\Un r.2 N r.1/\r.2.toList.Perm (List.range N)/\Up lt r.2 r.1
theorem rl(h:fU lt){N n:Nat}{p:Array Nat}(h1:1<=n)(hn:n<=N)(u:Un p N n)(hp:p.toList.Perm (List.range N))(x:Dn lt p n):Cnt lt N (go lt (kas_tail3 n N p)):=by
 unfold kas_tail3;rw[dE];have hs:=u.size;have r:=tW h (p:=kas_rev p 0 n) (N:=N) (N-n) n (by omega) h1 (u.rev (Nat.le_refl _) hn) (x.up (by omega));exact⟨by have:=r.1;show 1<=go lt (kas_asc (kas_rev p 0 n) (N-n) n);omega,by have:=r.2.1;show go lt (kas_asc (kas_rev p 0 n) (N-n) n)<=N;omega,r.2.2.1,i9 hp,r.2.2.2.1⟩
theorem jz(h:fU lt){N n:Nat}{p:Array Nat}(hn:n+1<=N)(u:Un p N (n+1))(hp:p.toList.Perm (List.range N))(x:yj lt p (n+1) 0):Cnt lt N (go lt (kas_descPart n N p)):=by
 unfold kas_descPart;rw[dE];obtain⟨r1,r2,r3,r4,r5⟩:=mh h (N:=N) (N-(n+1)) p (n+1) 0 (by omega) u hp x;have hs:=r3.size
 by_cases hq:(go lt (kas_desc (N-(n+1)) p (n+1) 0)).2.2 > 0
 ·rw[if_pos hq];exact rl h (by omega) (by omega) (r3.rev (Nat.le_refl _) (by omega)) (i9 r4) (r5.rev (N:=N) (by omega))
 ·rw[if_neg hq];have e:(go lt (kas_desc (N-(n+1)) p (n+1) 0)).2.2=0:=by omega
  rw[e] at r5;exact rl h (by omega) (by omega) r3 r4 r5.adp
theorem rq(h:fU lt){N:Nat}(hN:1<=N){p:Array Nat}(u:Un p N 1)(hp:p.toList.Perm (List.range N)):Cnt lt N (go lt (kas_count N p)):=by
 unfold kas_count;rw[dE];obtain⟨a1,a2,a3,a4,a5⟩:=tW h (p:=p) (N:=N) (N-1) 1 (by omega) (Nat.le_refl _) u (λ i j hij hj=>by omega);generalize go lt (kas_asc p (N-1) 1)=n at a1 a2 a3 a4 a5;have hs:=u.size
 by_cases e:(n==N)=true
 ·rw[if_pos e];exact⟨a1,by show n<=N;omega,a3,hp,a4⟩
 ·rw[if_neg e];have ne:n≠N:=λ z=>e (by simp[z]);have last:=a5 (by omega)
  by_cases h2:n > 1
  ·rw[if_pos h2];simp only[go];cases c:lt (p.getD 0 0) (p.getD (n-1) 0) with
   | true =>
    simp only[if_true,go];exact⟨a1,by show n<=N;omega,a3,hp,a4⟩
   | false =>
    simp only[Bool.false_eq_true,if_false];have eqv:∀ i j,i<j->j<n->lt (g p i) (g p j)=false:=λ i j hij hj=>by
     have t1:lt (g p i) (g p 0)=false:=by
      by_cases z:i=0
      ·rw[z];exact h.irr _
      ·exact(a4 0 i (by omega) (by omega)).le h
     have t2:lt (g p (n-1)) (g p j)=false:=by
      by_cases z:j=n-1
      ·rw[z];exact h.irr _
      ·exact(a4 j (n-1) (by omega) (by omega)).le h
     have t3:lt (g p 0) (g p j)=false:=by
      cases y:lt (g p 0) (g p j) with
      | false=>rfl
      | true=>have:=h.xp y t2;rw[c] at this;cases this
     cases y:lt (g p i) (g p j) with
     | false=>rfl
     | true=>have:=h.ack t1 y;rw[t3] at this;cases this
    have fa:yj lt p n (n-1):=⟨by omega,λ i j hij hj=>by omega,λ i j hi hj hj2=>by omega,λ i j hi hij hj=>⟨a4 i j hij hj,eqv i j hij hj⟩⟩;have dn:Dn lt (kas_rev p 0 n) n:=by
     have:=fa.rev (N:=N) (by omega)
     rwa[show n-(n-1+1)=0 by omega] at this
    have e2:lt (g (kas_rev p 0 n) n) (g (kas_rev p 0 n) (n-1))=true:=by rw[kg (by omega),kg (by omega),if_neg (by omega),if_pos (by omega)];rw[show 0+n-1-(n-1)=0 by omega];exact h.xp last c
    exact jz h (by omega) ((a3.rev (Nat.le_refl _) (by omega)).up (by omega) (by omega)) (i9 hp) (dn.afe h a1 e2)
  ·rw[if_neg h2];have e1:n=1:=by omega
   subst e1;exact jz h (by omega) (a3.up (by omega) (by omega)) hp (Dn.afe h (Nat.le_refl _) (λ i j hij hj=>by omega) last)
theorem lU(h:fU lt){p:Array Nat}{k:Nat}(u:Up lt p k):∀ (f l r:Nat),r-l<=f->l<=r->r<=k->(∀ i,i<l->lt (g p k) (g p i)=false)->(∀ i,r<=i->i<k->lt (g p k) (g p i)=true) ->
  go lt (kas_place p k f l r)<=k/\(∀ i,i<go lt (kas_place p k f l r)->lt (g p k) (g p i)=false)/\∀ i,go lt (kas_place p k f l r)<=i->i<k->lt (g p k) (g p i)=true
 | 0,l,r,hf,hl,hr,a,b=>⟨by show l<=k;omega,a,λ i hi hk=>b i (by have:l<=i:=hi;omega) hk⟩
 | f+1,l,r,hf,hl,hr,a,b=>by
  simp only[kas_place]
  by_cases e:l >= r
  ·rw[if_pos e];exact⟨by show l<=k;omega,a,λ i hi hk=>b i (by have:l<=i:=hi;omega) hk⟩
  ·rw[if_neg e];simp only[go];cases c:lt (p.getD k 0) (p.getD ((l+r) / 2) 0) with
   | true =>
    simp only[if_true];refine lU h u f l ((l+r) / 2) (by omega) (by omega) (by omega) a λ i hi hk=>?_
    by_cases z:i=(l+r) / 2
    ·rw[z];exact c
    ·exact h.xp c ((u ((l+r) / 2) i (by omega) hk).le h)
   | false =>
    simp only[Bool.false_eq_true,if_false];refine lU h u f ((l+r) / 2+1) r (by omega) (by omega) hr (λ i hi=>?_) b
    by_cases z:i=(l+r) / 2
    ·rw[z];exact c
    ·exact h.tr _ _ _ ((u i ((l+r) / 2) (by omega) (by omega)).le h) c
theorem uG(h:fU lt){N:Nat}:∀ (f:Nat) (p:Array Nat) (k:Nat),k+f<=N->Un p N k->p.toList.Perm (List.range N)->Up lt p k->(go lt (kas_bin f p k)).toList.Perm (List.range N)/\Up lt (go lt (kas_bin f p k)) (k+f)
 | 0,p,k,hf,u,hp,x=>⟨hp,x⟩
 | f+1,p,k,hf,u,hp,x=>by
  simp only[kas_bin];rw[dE];obtain⟨h1,h2,h3⟩:=lU h x k 0 k (by omega) (by omega) (Nat.le_refl _) (λ i hi=>by omega) (λ i hi hk=>by omega);generalize go lt (kas_place p k k 0 k)=l at h1 h2 h3;have hs:=u.size;have ek:k-(k-l)=l:=by omega
  have lo:=u.lo;have hk:=u.hi k (Nat.le_refl _) (by omega);have G:∀ i,g (bubble p k (k-l)) i=if i=l then g p k else if l<i/\i<=k then g p (i-1) else g p i:=λ i=>by rw[adm (by omega) (by omega),ek]
  have r:=uG h (N:=N) f (bubble p k (k-l)) (k+1) (by omega) ⟨(bubble_size _ _ _).trans hs,λ i hi=>?_,λ i hi hi2=>?_⟩ ((Array.perm_iff_toList_perm.mp (bubble_perm p k _)).trans hp) λ i j hij hj=>?_
  ·rw[show k+1+f=k+(f+1) by omega] at r;exact r
  ·rw[G]
   split
   ·omega
   ·split
    ·have:=lo (i-1) (by omega);omega
    ·have:=lo i (by omega);omega
  ·rw[G,if_neg (by omega),if_neg (by omega)];exact u.hi i (by omega) hi2
  ·have bk:∀ i,i<l->B lt (g p i) (g p k):=λ i hi=>B.of_le (h2 i hi) (by have:=lo i (by omega);omega);rw[G,G]
   by_cases i1:i=l
   ·rw[if_pos i1,if_neg (by omega),if_pos (by omega)];exact .inl (h3 _ (by omega) (by omega))
   ·rw[if_neg i1]
    by_cases i2:l<i/\i<=k
    ·rw[if_pos i2,if_neg (by omega),if_pos (by omega)];exact x _ _ (by omega) (by omega)
    ·rw[if_neg i2]
     by_cases j1:j=l
     ·rw[if_pos j1];exact bk i (by omega)
     ·rw[if_neg j1]
      by_cases j2:l<j/\j<=k
      ·rw[if_pos j2];exact x _ _ (by omega) (by omega)
      ·rw[if_neg j2];exact x _ _ hij (by omega)
theorem aa0(h:fU lt){N:Nat}(hN:1<=N):(go lt (kas_sort N)).toList.Perm (List.range N)/\Up lt (go lt (kas_sort N)) N:=by
 unfold kas_sort;rw[dE];have e:∀ i,i<N->g (List.toArray (List.range N)) i=i:=λ i hi=>by rw[sX];simp[hi]
 obtain⟨c1,c2,c3,c4,c5⟩:=rq h hN (p:=List.toArray (List.range N)) ⟨by simp,λ i hi=>by rw[e i (by omega)];exact hi,λ i _ hi=>e i hi⟩ (by simp);generalize go lt (kas_count N (List.toArray (List.range N)))=r at c1 c2 c3 c4 c5
 by_cases z:r.1<N
 ·rw[if_pos z];have em:max r.1 1=r.1:=by omega
  rw[em];have b:=uG h (N-r.1) r.2 r.1 (by omega) c3 c4 c5;rw[show r.1+(N-r.1)=N by omega] at b;exact b
 ·rw[if_neg z];have em:r.1=N:=by omega
  rw[em] at c5;exact⟨c4,c5⟩
def gh(N:Nat)(R:α->Prop):KasT α->Prop
 | .ret a=>R a
 | .ask i j k=>i<N/\j<N/\∀ b,gh N R (k b)
theorem gh.bind{α β:Type}{N:Nat}{R:α->Prop}{R':β->Prop}{f:α->KasT β}(hf:∀ a,R a->gh N R' (f a)):∀ {t:KasT α},gh N R t->gh N R' (t.bind f)
 | .ret a,h=>hf a h
 | .ask i j k,h=>⟨h.1,h.2.1,λ b=>gh.bind hf (h.2.2 b)⟩
def Low(N:Nat)(p:Array Nat):Prop:=∀ i,g p i<N
theorem Low.of(hN:1<=N)(h:∀ x∈p.toList,x<N):Low N p:=λ i=>by
 rw[sX];cases e:p[i]? with
 | none=>simp;omega
 | some x=>exact h x (by rw[Array.mem_toList_iff];exact Array.mem_of_getElem? e)
theorem mM(h:Low N p):∀ f n,gh N (λ _=>True) (kas_asc p f n)
 | 0,_=>trivial
 | f+1,n=>⟨h _,h _,λ b=>by
  cases b with
  | true=>exact trivial
  | false=>exact mM h f (n+1)⟩
theorem ie{p:Array Nat}{k:Nat}(h:Low N p):∀ f l r,gh N (λ _=>True) (kas_place p k f l r)
 | 0,_,_=>trivial
 | f+1,l,r=>by
  simp only[kas_place]
  split
  ·exact trivial
  ·refine⟨h _,h _,λ b=>?_⟩;cases b with
   | true=>exact ie h f _ _
   | false=>exact ie h f _ _
def df(lt:Nat->Nat->Bool)(n:Nat):List Nat:=if n<2 then List.range n else (go lt (kas_sort n)).toList
theorem qm(h:fU lt)(n:Nat):(df lt n).Perm (List.range n)/\(df lt n).Pairwise (B lt):=by
 unfold df
 by_cases z:n<2
 ·rw[if_pos z];refine⟨List.Perm.refl _,?_⟩
  match n,z with
  | 0,_=>exact List.Pairwise.nil
  | 1,_=>exact List.pairwise_singleton _ _
 ·rw[if_neg z];obtain⟨a,b⟩:=aa0 h (N:=n) (by omega);refine⟨a,?_⟩;rw[List.pairwise_iff_getElem];intro i j hi hj hij;have hl:=a.length_eq;rw[List.length_range] at hl;have r:=b i j hij (by omega);rw[sX,sX] at r;have hi':i<(go lt (kas_sort n)).size:=by simpa using hi
  have hj':j<(go lt (kas_sort n)).size:=by simpa using hj
  simpa [hi',hj'] using r
def ly(h:Heap)(vs:List Value):Heap:=((h.push (seqObj "list" #[] 0)).update h.objs.size (Obj.mapSeq (· ++ vs.toArray))).push (seqObj "list" vs.toArray 0)
theorem sU(hb:h.get? b=some o):(ly h vs).get? b=some o:=by have q:b<h.objs.size:=Heap.lt_size hb;have q1:=Nat.ne_of_lt q;have q2:=Nat.ne_of_lt (Nat.lt_succ_of_lt q);unfold ly;rw[Heap.get?_push_ne _ _ _ (by rw[Heap.size_update,size_push'];exact q2),Heap.get?_update_ne _ _ _ _ q1,Heap.get?_push_ne _ _ _ q1];exact hb
theorem jY{h:Heap}{vs:List Value}:((h.push (seqObj "list" #[] 0)).update h.objs.size (Obj.mapSeq (· ++ vs.toArray))).objs.size=h.objs.size+1:=by rw[Heap.size_update,size_push']
end S
namespace D
open L2 S
section
variable {K:FG}
end
section
variable {X:Cx}{K:FG}
end
section
variable {X:Cx}{K:FG}
theorem n0:∀ {zs:List Str} {vs:List (Key×Value)} {us:List Value},vs.map (·.1)=zs.map Sum.inr->us.length=vs.length->(∀ (j:Nat) v,us[j]? =some v->∃ k x,vs[j]? =some (k,x)/\(aV P w).is k v=true)->StrsAre us zs
 | [],vs,us,h,hl,hp=>by
  have e:vs=[]:=by simpa using h
  subst e;have e:us=[]:=by simpa using hl
  subst e;exact .nil
 | z::zs,vs,us,h,hl,hp=>by
  match vs,us,h,hl,hp with
  | (k,x)::vs,u::us,h,hl,hp =>
   simp only[List.map_cons,List.cons.injEq] at h;obtain⟨k',x',e,hk⟩:=hp 0 u rfl;simp at e;obtain⟨e1,e2⟩:=e;subst e1 e2;rw[h.1,sr] at hk;obtain⟨t,e⟩:∃ t,u=.str z t:=by
    rcases bz hk with ⟨i,t,e,_⟩ | ⟨y,t,e,e'⟩
    ·cases e
    ·cases e;exact⟨t,e'⟩
   subst e;exact .cons z t (n0 h.2 (by simpa using hl) λ j v hj=>by simpa using hp (j+1) v (by simpa using hj))
  | [],_,h,_,_=>simp at h
  | _::_,[],_,hl,_=>simp at hl
end
section
variable {X:Cx}{K:FG}
end
end D
namespace Rc
open L2 D
section
variable {α:Type}(nm:α->Str)
variable {nm}
end
mutual
def okD:Nat->PyData->Bool
 | _,.none=>true
 | _,.bool _=>true
 | _,.int i=>decide (i.natAbs<2 ^ 100)
 | _,.str z=>wM z
 | k+1,.list ds=>okA k ds
 | k+1,.tuple ds=>okA k ds
 | _,_=>false
def okA:Nat->List PyData->Bool
 | _,[]=>true
 | k,d::ds=>okD k d&&okA k ds
end
theorem ug:∀ {ds:List PyData},(∀ d∈ds,okD k d=true)->okA k ds=true
 | [],_=>by simp[okA]
 | d::ds,h=>by simp only[okA,Bool.and_eq_true];exact⟨h d (by simp),ug λ x hx=>h x (by simp[hx])⟩
theorem yK(h:wM z=true):Asc z:=acd h
theorem vt(h:Asc z):PyData.strOk z=true:=by
 unfold PyData.strOk;rw[Array.all_eq_true_iff_forall_mem];intro c hc;exact decide_eq_true (by have:=h c (by simpa using hc);omega)
theorem abP(h:wM z=true):PyData.strOk z=true:=vt (yK h)
mutual
theorem uC:∀ (k:Nat) (d:PyData),okD k d=true->PyData.canLay0 d=true
 | _,.none,_=>by simp[PyData.canLay0]
 | _,.bool _,_=>by simp[PyData.canLay0]
 | _,.int i,h=>by simp[PyData.canLay0]
 | _,.str z,h=>by
  cases ‹Nat› <;> simp only[okD] at h<;>simp[PyData.canLay0,abP h]
 | k+1,.list ds,h=>by simp only[okD] at h;simp only[PyData.canLay0];exact pI k ds h
 | k+1,.tuple ds,h=>by simp only[okD] at h;simp only[PyData.canLay0];exact pI k ds h
 | 0,.list ds,h=>by simp[okD] at h
 | 0,.tuple ds,h=>by simp[okD] at h
 | k,.dict kvs,h=>by cases k<;>simp[okD] at h
theorem pI:∀ (k:Nat) (ds:List PyData),okA k ds=true->PyData.canLayAll0 ds=true
 | _,[],_=>by simp[PyData.canLayAll0]
 | k,d::ds,h=>by simp only[okA,Bool.and_eq_true] at h;simp only[PyData.canLayAll0,uC k d h.1,pI k ds h.2,Bool.and_self]
end
mutual
theorem qU:∀ (k:Nat) (d:PyData),okD k d=true->PyData.depth d<=k+1
 | _,.none,_=>by simp[PyData.depth]
 | _,.bool _,_=>by simp[PyData.depth]
 | _,.int i,h=>by simp[PyData.depth]
 | _,.str z,h=>by simp[PyData.depth]
 | k+1,.list ds,h=>by simp only[okD] at h;have:=jZ k ds h;simp only[PyData.depth];omega
 | k+1,.tuple ds,h=>by simp only[okD] at h;have:=jZ k ds h;simp only[PyData.depth];omega
 | 0,.list ds,h=>by simp[okD] at h
 | 0,.tuple ds,h=>by simp[okD] at h
 | k,.dict kvs,h=>by cases k<;>simp[okD] at h
theorem jZ:∀ (k:Nat) (ds:List PyData),okA k ds=true->PyData.depthAll ds<=k+1
 | _,[],_=>by simp[PyData.depthAll]
 | k,d::ds,h=>by simp only[okA,Bool.and_eq_true] at h;have h1:=qU k d h.1;have h2:=jZ k ds h.2;simp only[PyData.depthAll];omega
end
mutual
theorem zq:∀ (k:Nat) (d:PyData),okD k d=true->PyData.hasDict d=false
 | _,.none,_=>by simp[PyData.hasDict]
 | _,.bool _,_=>by simp[PyData.hasDict]
 | _,.int i,h=>by simp[PyData.hasDict]
 | _,.str z,h=>by simp[PyData.hasDict]
 | k+1,.list ds,h=>by simp only[okD] at h;simp only[PyData.hasDict];exact pT k ds h
 | k+1,.tuple ds,h=>by simp only[okD] at h;simp only[PyData.hasDict];exact pT k ds h
 | 0,.list ds,h=>by simp[okD] at h
 | 0,.tuple ds,h=>by simp[okD] at h
 | k,.dict kvs,h=>by cases k<;>simp[okD] at h
theorem pT:∀ (k:Nat) (ds:List PyData),okA k ds=true->PyData.hasDictAll ds=false
 | _,[],_=>by simp[PyData.hasDictAll]
 | k,d::ds,h=>by simp only[okA,Bool.and_eq_true] at h;simp only[PyData.hasDictAll,zq k d h.1,pT k ds h.2,Bool.or_self]
end
theorem pQ(hk:k<=50)(h:okD k d=true):oY d=true:=by have h1:=uC k d h;have h2:=qU k d h;have h3:=zq k d h;simp only[oY,SeqAt.shaped,h1,h3,Bool.true_and,Bool.not_false,Bool.and_true];exact decide_eq_true (by omega)
theorem tH(h:okD k d=true):PyData.eqv d d=true:=SeqAt.eqv_refl _ (uC k d h)
theorem qP(x y:Str):PyData.eqv (.str x) (.str y)=decide (x=y):=by
 rw[<- pR]
 by_cases e:x=y
 ·subst e;simp
 ·simp[e]
theorem xf{M:MH}{a b:Addr}{o u:MO}(ha:M a=some o)(hb:M b=some u)(h:o≠u):a≠b:=λ e=>h (by rw[e,hb] at ha;exact(Option.some.inj ha).symm)
theorem cI{M:MH}{a b:Addr}{o:MO}(ha:M a=some o)(hb:M b=none):a≠b:=λ e=>by rw[e,hb] at ha;cases ha
theorem br{M:MH}{a b:Addr}{o u:MO}(h:M a=some o)(hb:M b=none):ax M b u a=some o:=by rw[ab (cI h hb)];exact h
end Rc
namespace Stc
open L2 D Rc
end Stc
namespace D
open L2
section
variable {K:FG}
variable {X:Cx}{sc:Scope}{own:List Str}{fr:List Nat}{di:TId}{g:TGd}{tt:TTd}{te:TD}{tg iter elt:Expr}{ifs:List Expr}{pos:Pos}
end
section
variable {X:Cx}{K:FG}
end
section
variable {P:Program}{w:World}{K:FG}{mg:Str->Option Value}{base h:Heap}
end
end D
open L2 D
namespace Stc
open L2 D Rc
def Ext(M M':MH):Prop:=∀ q o,M q=some o->M' q=some o
theorem Ext.refl(M:MH):Ext M M:=λ _ _ h=>h
theorem Ext.trans(h:Ext A B)(k:Ext B C):Ext A C:=λ q o e=>k q o (h q o e)
theorem Ext.new(h:M p=none):Ext M (ax M p o):=λ q u e=>br e h
theorem Ext.upd(h:Ext M M')(hp:M p=none):Ext M (ax M' p o):=λ q u e=>by rw[ab (cI e hp)];exact h q u e
theorem Ext.none(h:Ext M M')(hp:M' p=none):M p=none:=by
 cases e:M p with
 | none=>rfl
 | some o=>rw[h p o e] at hp;cases hp
theorem Ext.bag(h:Ext M M')(hb:Bag M p):Bag M' p:=by obtain⟨a,b,c,ns,e,z⟩:=hb;exact⟨a,b,c,ns,h _ _ e,z⟩
theorem aah{α:Type}{gt:TGd}{te:TD}{Q:List PyData->DS->MH->Prop}{τ0:DS}{M:MH}(L:List α)(g:α->W)(f:α->PyData)(S:DS->Prop)(hL:L.length<=1000)(h0:S τ0)
  (step:∀ a∈L,∀ τ,S τ->∀ R:PyData->DS->MH->Prop,(∀ τ2,S τ2->R (f a) τ2 M)->gt (g a) τ M λ τ2 M2=>te τ2 M2 λ y M4=>∃ d,y=.d d/\R d τ2 M4)
  (q:∀ τ,Q (L.map f) τ M) :
  ∃ P:Nat->List PyData->DS->MH->Prop,P 0 [] τ0 M /\
   (∀ i w acc τ M,(L.map g)[i]? =some w->P i acc τ M->acc.length<sizeLine/\gt w τ M λ τ2 M2=>o5 τ2 M2 λ b M3=>if b=true then te τ2 M3 λ y M4=>∃ d,y=.d d/\P (i+1) (acc++[d]) τ2 M4 else P (i+1) acc τ2 M3) /\
   ∀ acc τ M,P (L.map g).length acc τ M->Q acc τ M:=by
 refine⟨λ i acc τ M'=>M'=M/\acc=(L.take i).map f/\S τ,⟨rfl,rfl,h0⟩,?_,?_⟩
 ·rintro i w acc τ M' hw ⟨rfl,rfl,hs⟩;rw[List.getElem?_map] at hw;cases e:L[i]? with
  | none=>rw[e] at hw;cases hw
  | some a =>
   rw[e] at hw;cases hw;have hi:=(List.getElem?_eq_some_iff.mp e).1;refine⟨by rw[List.length_map,List.length_take];have:=s16;omega,?_⟩;refine step a (List.mem_of_getElem? e) τ hs (λ d τ2 M4=>M4=M'/\(L.take i).map f++[d]=(L.take (i+1)).map f/\S τ2) λ τ2 h2=>⟨rfl,?_,h2⟩;rw[List.take_succ,e];simp
 ·rintro acc τ M' ⟨rfl,rfl,hs⟩;rw[List.length_map,List.take_length];exact q τ
theorem gM{α β:Type}{L:List α}{f:α->β}{i:Nat}{w:β}(h:(L.map f)[i]? =some w):∃ a,L[i]? =some a/\w=f a:=by
 rw[List.getElem?_map] at h;cases e:L[i]? with
 | none=>rw[e] at h;cases h
 | some a=>rw[e] at h;cases h;exact⟨a,rfl,rfl⟩
theorem yl{α:Type}{xs:List α}{i:Nat}(hi:i<=xs.length):D.cutD xs none (some (i:Int))=xs.take i:=by
 unfold D.cutD;have e:HT.sIx xs.length 0 none=0:=rfl;have e2:HT.sIx xs.length xs.length (some (i:Int))=i:=by
  unfold HT.sIx;simp;rw[if_neg (by omega)];omega
 rw[e,e2];simp
theorem j6{c:Bool}{A B:Prop}(e:c=true)(h:A):if c=true then A else B:=by rw[e];exact adH h
theorem eN{c:Bool}{A B:Prop}(e:c=false)(h:B):if c=true then A else B:=by rw[e];exact ace h
theorem abI{L:List Str}(h:L.Nodup){i:Nat}{z:Str}(e:L[i]? =some z):z ∉ L.take i:=by intro hm;obtain⟨j,hj,ej⟩:=List.getElem_of_mem hm;rw[List.length_take] at hj;rw[List.getElem_take] at ej;obtain⟨hi,ei⟩:=List.getElem?_eq_some_iff.mp e;have:=(List.getElem_inj (h₀:=by omega) (h₁:=hi) h).mp (ej.trans ei.symm);omega
end Stc
namespace HT
open PySem PyProof.Rows
section
open PySem.SeqAt
open PySem.MeetsSeq PySem.MeetsSeq2 PySem.MeetsSeq3
end
end HT
namespace D
open L2
section
variable {X:Cx}{K:FG}
end
end D
namespace Stc
open L2 D Rc
end Stc
namespace D
open L2
end D
open L2 D
namespace L2
theorem mL(I:Nat->Shared->Prop)
  (turn:∀ n s,I n s->wpAny (model prog w) A (pyNext it) (λ r s₁=>match r with
   | none=>R (.ok .next) s₁
   | some v=>wpAny (model prog w) A (letOwnedTupleGo target it v) (λ _ s₁'=>wpAny (model prog w) A (assign target env v) (λ _ s₂ =>
     wpAny (model prog w) A (qb ifs env) (λ ok s₃ =>
      if ok=true then wpAny (model prog w) A (eval kx env) (λ kv s₄=>wpAny (model prog w) A (eval vx env) (λ vv s₅ =>
       wpAny (model prog w) A (dictSet D kv vv) (λ _ s₆=>∃ m,m<n/\I m s₆) (λ _ _=>False) s₅) (λ _ _=>False) s₄) (λ _ _=>False) s₃
      else ∃ m,m<n/\I m s₃) (λ _ _=>False) s₂) (λ _ _=>False) s₁') (λ _ _=>False) s₁) (λ _ _=>False) s)
  (n:Nat)(h:I n s) :
  codeAny (model prog w) A (.compLoop (.DictComp kx vx [⟨target,iter,ifs,0⟩] scope pos) 0 it (.ref D) env) R s:=by
 refine codeAny_loop rfl I (λ n s hI=>?_) n h;show wpAny _ A ((compTurn (.DictComp kx vx [⟨target,iter,ifs,0⟩] scope pos) 0 it (.ref D) env).onRaise (λ x=>do noteFrame x env;theTreesLotGoes x)) _ _ s;refine wpAny_noted ?_;rw[compTurn_dict];refine wpAny_bind (wpAny_standAt (wpAny_bind (wpAny_mono (turn n s hI) (λ r s₁ h₁=>?_) λ _ _ h'=>h'.elim)));cases r with
 | none=>exact wpAny_pure h₁
 | some v =>
  refine wpAny_bind (wpAny_mono h₁ (λ _ s₁' h₁'=>?_) λ _ _ h'=>h'.elim);refine wpAny_bind (wpAny_mono h₁' (λ _ s₂ h₂=>wpAny_bind (wpAny_mono h₂ (λ ok s₃ h₃=>?_) λ _ _ h'=>h'.elim)) λ _ _ h'=>h'.elim);cases ok with
  | false=>exact wpAny_pure ⟨rfl,h₃⟩
  | true =>
   refine wpAny_bind ?_;refine wpAny_bind (wpAny_mono h₃ (λ kv s₄ h₄=>wpAny_bind (wpAny_holding (wpAny_mono h₄ (λ vv s₅ h₅=>wpAny_bind (wpAny_standAt (wpAny_holding (wpAny_mono h₅ (λ _ s₆ h₆=>wpAny_pure ⟨rfl,h₆⟩) λ _ _ h'=>h'.elim)))) λ _ _ h'=>h'.elim))) λ _ _ h'=>h'.elim)
theorem wB(I:Inv X pins σ H s)(e:H a=some (.dK kvs))(l:kvs.length<sizeLine)(ry:RelV (kV k) u)(rv:RelV v r)(h:∀ s',Inv X pins σ (upd H a (.dK (putK kvs k v))) s'->Q () s') :
  wpAny (model X.prog X.w) A (dictSet a u r) Q E s:=by
 obtain⟨z,hd,vs,rel,dd⟩:=abA I.hok e;have hz:vs.length<=sizeLine:=by rw[<- rel.length];exact z
 have hl:(putK kvs k v).length<=sizeLine:=by have:=eZ kvs k v;omega
 refine wpAny_dictSet_pairs (hsz:=hz) (sH ry) dd λ h' dd' hs=>h _ ?_;have he:∃ q,h'.get? a=some q:=let ⟨q,_,_,hq,_⟩:=dd'; ⟨q,hq⟩;exact mJ I (by rw[e];exact True.intro) hs he (vR hl hd (rel.put k rv) dd')
abbrev DcW:=Nat->Nat->St->Hp->Prop
def zj(J:It)(g:TG)(tt:TT)(tk tv:TE)(D:Addr)(W:DcW)(Fin:Hp->Prop):Prop:=∀ i m τ H,W i m τ H ->
 (J.stop i H/\Fin H)\/(J.go i H/\∀ x H',J.yld i H x H'->g x τ H' λ τ2 H2=>tt τ2 H2 λ b H3 =>
  if b=true then tk τ2 H3 λ y H4=>tv τ2 H4 λ z H5=>∃ kvs k,H5 D=some (.dK kvs)/\y=kV k/\kvs.length<sizeLine/\∃ m',m'<m/\W (i+1) m' τ2 (upd H5 D (.dK (putK kvs k z))) else ∃ m',m'<m/\W (i+1) m' τ2 H3)
section
variable {X:Cx}{pins:PN}{σ:St}{H:Hp}{s:Shared}{sc:Scope}{own:List Str}{fr:List Nat}{cl:List (Str×Addr)}{fp:List Addr}{it D:Addr}{J:It}{tn:Nat->Heap->Prop}{g:TG}{tt:TT}{tk tv:TE}{W:DcW}{Fin:Hp->Prop}
 {kx vx tg iter:Expr}{ifs:List Expr}{pos:Pos}{E:VP}
theorem abK{RR:Addr->Result->Shared->Prop}(hc:X.calm=true)(L:lI X sc own fr)(hcl1:∀ n c,cl.lookup n=some c->X.env.cells.lookup n=some c)(hcl2:∀ n,(n,NameKind.free)∈sc.names->∃ c,cl.lookup n=some c)
  (hg:∀ C s H ex pl,PG (blk X sc (lcN X own fr) cl C s H ex pl) tg g)(ht:∀ C s H ex pl,PTs (blk X sc (lcN X own fr) cl C s H ex pl) ifs tt)(hk:∀ C s H ex pl,PE (blk X sc (lcN X own fr) cl C s H ex pl) kx tk)(hv:∀ C s H ex pl,PE (blk X sc (lcN X own fr) cl C s H ex pl) vx tv)
  (I:Inv X pins σ H s)(T:Turn X.prog X.w X.K tg J fp it tn)(st:tn 0 s.heap)(hf:∀ b∈fp,jd X pins H b)(w0:∃ m,W 0 m (lcS own.length fr σ) H)(turn:zj J g tt tk tv D W Fin)
  (hRR:∀ (C:Addr) (s':Shared) (H':Hp) (m:Str->Option Value),Inv X pins σ H' s'->H' C=none->s.heap.objs.size<=C->s'.heap.Ns C m->Fin H'->RR C (.ok .next) s') :
  wpAny (model X.prog X.w) X.A (newFunctionEnv sc X.env.globals cl [] X.env.qual none .none (some X.env)) (λ cenv s₄ =>
   codeAny (model X.prog X.w) X.A (.compStart (.DictComp kx vx [⟨tg,iter,ifs,0⟩] sc pos) 0 (.ref it) (.ref D) {cenv with scope:=relabel sc X.env}) (RR cenv.locals) s₄) E s:=by
 refine wpAny_newFunctionEnv L.cell (by intro y hy;simp at hy) (λ h₁ hns₁ hsb₁=>?_) L.kind
 try dsimp only at hns₁ hsb₁ ⊢
 have below:∀ b,b<s.heap.objs.size->b≠s.heap.objs.size:=λ b hb=>Nat.ne_of_lt hb;have old:∀ b o,s.heap.get? b=some o->h₁.get? b=some o:=λ b o e=>hsb₁.extBut b o (below b (Heap.lt_size e)) (Heap.get?_push_of_some _ e);have hfb:∀ b∈fp,b<s.heap.objs.size:=λ b hb=>by obtain⟨o,e,_⟩:=T.obj 0 _ st b hb;exact Heap.lt_size e
 have I1:Inv (blk X sc (lcN X own fr) cl s.heap.objs.size s H fp pins) [] (lcS own.length fr σ) H {s with heap:=h₁,toks:=s.toks+([]:List (Str×Value)).length}:=vJ L I hf hfb (Nat.le_refl _) hcl1 hcl2 hns₁ old;have st1:tn 0 h₁:=T.keep 0 _ _ st λ b _ o e=>old b o e;generalize hY:blk X sc (lcN X own fr) cl s.heap.objs.size s H fp pins=Y at I1;have hYp:Y.prog=X.prog:=by rw[<- hY];rfl
 have hYw:Y.w=X.w:=by rw[<- hY];rfl
 have hYK:Y.K=X.K:=by rw[<- hY];rfl
 have hYA:Y.A=X.A:=by rw[<- hY];rfl
 have hYc:Y.calm=true:=by rw[<- hY];exact hc
 have hYe:Y.env=compEnvC sc cl s.heap.objs.size X.env:=by rw[<- hY];rfl
 have hYx:Y.xe=λ _ _=>False:=by rw[<- hY];rfl
 have hYpn:Y.pn=X.pn++pins:=by rw[<- hY];rfl
 have hYs:Y.s₀=s:=by rw[<- hY];rfl
 have hYH:Y.H₀=H:=by rw[<- hY];rfl
 have hYex:Y.ex=fp:=by rw[<- hY];rfl
 have hYfs:Y.fs=frs X.stack:=by rw[<- hY];rfl
 have gY:=hg s.heap.objs.size s H fp pins;have tY:=ht s.heap.objs.size s H fp pins;have kY:=hk s.heap.objs.size s H fp pins;have vY:=hv s.heap.objs.size s H fp pins;rw[hY] at gY tY kY vY;have fpY:∀ {H':Hp},(∀ b∈fp,H' b=none)->∀ b∈fp,jd Y [] H' b:=λ {H'} hn b hb=>by
  obtain⟨_,f1,f2,f3,f4,f5⟩:=hf b hb;refine⟨hn b hb,by rw[hYe];exact below b (hfb b hb),?_,.inl (by rw[hYex];exact hb),λ x c e=>?_,λ p q=>?_⟩
  ·rw[hYfs];intro z;rcases List.mem_cons.mp (I.iO _ z) with e | e
   ·exact f1 e
   ·exact f2 e
  ·rw[hYe] at e;exact f4 x c (hcl1 _ _ e)
  ·rw[List.append_nil,hYpn] at q;exact f5 p q
 have loop:∀ s₃:Shared,s₃={s with heap:=h₁,toks:=s.toks+([]:List (Str×Value)).length} ->
   codeAny (model X.prog X.w) X.A (.compLoop (.DictComp kx vx [⟨tg,iter,ifs,0⟩] sc pos) 0 (.ref it) (.ref D) (compEnvC sc cl s.heap.objs.size X.env)) (RR s.heap.objs.size) s₃:=by
  rintro s₃ rfl;obtain⟨m0,w0⟩:=w0;refine mL (λ n s'=>∃ i τ H',Inv Y [] τ H' s'/\tn i s'.heap/\(∀ b∈fp,H' b=none)/\W i n τ H') ?_ m0 ⟨0,_,H,I1,st1,λ b hb=>(hf b hb).1,w0⟩;rintro n s' ⟨i,τ,H',I',st',hn',w'⟩;rcases turn i n τ H' w' with ⟨stop,fin⟩ | ⟨go,step⟩
  ·have q:=T.done Y hYp hYw hYK hYc i _ s' τ H' (λ _ _=>False) I' (fpY hn') st' stop;rw[hYA] at q;refine thn q λ r s4 hq72=>?_;obtain⟨hr,I4⟩:=hq72;subst hr;have un:Un (frs X.stack) fp H H' s.heap s4.heap:=by have z:=I4.base;rw[hYfs,hYex,hYH,hYs] at z;exact z
   have os4:s4.os=s.os:=by have z:=I4.os;rw[hYs] at z;exact z
   have hok4:HOk X.prog X.w H' s4.heap:=by have z:=I4.hok;rw[hYp,hYw] at z;exact z
   have hch:∀ b∈fp,(b∈X.ex\/X.s₀.heap.objs.size<=b)/\b≠X.env.locals/\(∀ x c,X.env.cells.lookup x=some c->c≠b)/\∀ p∈X.pn++pins,p.1≠b:=λ b hb=>by obtain⟨_,f1,f2,f3,f4,f5⟩:=hf b hb;exact⟨f3,f1,f4,f5⟩
   have IX:Inv X pins σ H' s4:=I.acK os4 un hok4 I4.bare hch;obtain⟨mC,hmC,_⟩:=I4.loc;have hCf:=I4.free;rw[hYe] at hmC hCf;exact hRR _ s4 H' mC IX hCf (Nat.le_refl _) hmC fin
  ·have q:=T.item Y hYp hYw hYK hYc i _ s' τ H' (λ _ _=>False) I' (fpY hn') st' go;rw[hYA] at q;refine thn q λ r s4 hq73=>?_;obtain⟨u,hr,h4⟩:=hq73;subst hr;refine thn h4 λ _ s5 hq74=>?_;obtain⟨x,H5,I5,r5,y5,st5,fr5⟩:=hq74;have I5':=I5.pinned (fpY fr5) (T.obj _ _ st5);have g5:=gY _ s5 τ H5 x u _ I5' r5 (step x H5 y5);rw[hYp,hYw,hYA,hYe,hYx] at g5;refine thn g5 λ _ s6 hq75=>?_;obtain⟨σ6,H6,I6,q6⟩:=hq75;have t6:=tY _ s6 σ6 H6 _ I6 q6;rw[hYp,hYw,hYA,hYe,hYx] at t6;refine thn t6 λ ok s7 hq76=>?_;obtain⟨H7,I7,q7⟩:=hq76;have keepI:∀ {σ8:St} {H8:Hp} {s8:Shared},Inv Y ([]++jQ fp s5.heap) σ8 H8 s8->tn (i+1) s8.heap/\∀ b∈fp,H8 b=none:=
    λ {σ8 H8 s8} I8=>by refine⟨T.keep _ _ _ st5 λ b hb o e=>(I8.pin (b,o) (List.mem_append_right _ (List.mem_append_right _ (dm hb e)))).1,λ b hb=>?_⟩;obtain⟨o,e,d⟩:=T.obj _ _ st5 b hb;exact(I8.pin (b,o) (List.mem_append_right _ (List.mem_append_right _ (dm hb e)))).2.1
   cases ok with
   | false =>
    rw[if_neg Bool.false_ne_true] at q7 ⊢;obtain⟨m',hm',w7⟩:=q7;obtain⟨c7,d7⟩:=keepI I7;exact⟨m',hm',i+1,σ6,H7,I7.dY (λ p hp=>(nomatch hp)),c7,d7,w7⟩
   | true =>
    rw[if_pos rfl] at q7 ⊢;have e7:=kY _ s7 σ6 H7 _ I7 q7;rw[hYp,hYw,hYA,hYe,hYx] at e7;refine thn e7 λ ku s8 hq77=>?_;obtain⟨y,H8,I8,r8,q8⟩:=hq77;have e8:=vY _ s8 σ6 H8 _ I8 q8;rw[hYp,hYw,hYA,hYe,hYx] at e8;refine thn e8 λ vu s9 hq78=>?_;obtain⟨z,H9,I9,r9,kvs,k,hD,ey,hlt,m',hm',w9⟩:=hq78;subst ey;have r8':RelV (kV k) ku:=r8;have q9:=wB (A:=X.A) (E:=λ _ _=>False) (Q:=λ _ s₆=>∃ m,m<n/\∃ i τ H',Inv Y [] τ H' s₆/\tn i s₆.heap/\(∀ b∈fp,H' b=none)/\W i m τ H') I9 hD hlt r8' r9 λ s10 I10=>by obtain⟨c8,d8⟩:=keepI I10;exact⟨m',hm',i+1,σ6,_,I10.dY (λ p hp=>(nomatch hp)),c8,d8,w9⟩
    rw[hYp,hYw] at q9;exact q9
 exact codeAny_compStart_dict (loop _ rfl) (T.self _ 0 _ _ _ st1 (loop _ rfl))
def tDC(wi:TI)(g:TG)(tt:TT)(tk tv:TE)(k:Nat)(fr:List Nat):TE:=λ σ H Q=>wi σ H λ J H1=>∀ p,H1 p=none->∃ W:DcW,(∃ m,W 0 m (lcS k fr σ) (upd H1 p (.dK [])))/\zj J g tt tk tv p W λ H2=>Q (.ref p) H2
theorem acN(hc:X.calm=true)(L:lI X sc own fr)(hi:PI X tg iter wi)
  (hg:∀ cl C s H ex pl,PG (blk X sc (lcN X own fr) cl C s H ex pl) tg g)(ht:∀ cl C s H ex pl,PTs (blk X sc (lcN X own fr) cl C s H ex pl) ifs tt)(hk:∀ cl C s H ex pl,PE (blk X sc (lcN X own fr) cl C s H ex pl) kx tk)(hv:∀ cl C s H ex pl,PE (blk X sc (lcN X own fr) cl C s H ex pl) vx tv)
  (hs:∀ x,foldedSetIterable iter X.env x=pure x:=by intro _;rfl):PE X (.DictComp kx vx [⟨tg,iter,ifs,0⟩] sc pos) (tDC wi g tt tk tv own.length fr):=by
 intro pins s σ H Q I h;obtain⟨cl,hcl,c1,c2⟩:=hX L I.ok;show wpAny _ _ (comprehension (.DictComp kx vx [⟨tg,iter,ifs,0⟩] sc pos) sc X.env _ newDict false (eval iter X.env)) _ _ _;refine wpAny_comprehension_free (use:=none) (g:=⟨tg,iter,ifs,0⟩) (gs:=[]) rfl hs hcl L.kind L.names ?_;refine thn (hi pins s σ H _ I h) λ v s1 h1=>thn h1 λ itv s2 h2=>?_;obtain⟨it,fp,tn,J,H2,e,I2,T,st2,f2,q2⟩:=h2;subst e;obtain⟨W,w0,turn⟩:=q2 _ (I2.hok.fresh (Nat.le_refl s2.heap.objs.size));refine wpAny_newObj_type ?_;have I3:=I2.laid (a:=s2.heap.objs.size) (o:=.dK []) (h':=s2.heap.push {cls:=.type "dict",data:=.dict #[]}) (t':=s2.toks) (λ _ _ q=>Heap.get?_push_of_some _ q) (Nat.le_refl _) (l7 s2.heap I2.big);have hfb:∀ b∈fp,b<s2.heap.objs.size:=λ b hb=>by obtain⟨o,e,_⟩:=T.obj 0 _ st2 b hb;exact Heap.lt_size e
 have f3:∀ b∈fp,jd X pins (upd H2 s2.heap.objs.size (.dK [])) b:=λ b hb=>by obtain⟨f0,fr⟩:=f2 b hb;exact⟨by rw[ah (Nat.ne_of_lt (hfb b hb))];exact f0,fr⟩
 have st3:tn 0 (s2.heap.push {cls:=.type "dict",data:=.dict #[]}):=T.keep 0 _ _ st2 λ b _ o e=>Heap.get?_push_of_some _ e;refine abK (cl:=cl) hc L c1 c2 (hg cl) (ht cl) (hk cl) (hv cl) I3 T st3 f3 w0 turn λ C s' H' m I' hC dC hns fin=>?_;refine⟨m,hns,λ h' sb=>?_⟩;have hC2:s2.heap.objs.size<=C:=Nat.le_trans (by rw[Heap.size_push];exact Nat.le_succ _) dC;obtain⟨_,z2,_,_,z3,z4⟩:=I2.pf (H':=λ _=>none) hC2 rfl;have I4:Inv X pins σ H' {s' with heap:=h'}:=I'.turned (t':=s'.toks) (λ b o hb e=>sb.extBut b o hb e) hC z2 (.inr (Nat.le_trans I2.sz hC2)) z3 z4;exact⟨.ref _,_,I4,rfl,fin⟩
end
end L2
namespace D
open L2
section
variable {K:FG}
def dDC(di:TId)(g:TGd)(tt:TTd)(tk tv:TD)(k:Nat)(fr:List Nat)(τ:DS)(M:MH)(Q:QD):Prop:=di τ M λ ws M1=>∀ p,M1 p=none->∃ P:Nat->DS->MH->Prop,P 0 (yP k fr τ) (ax M1 p (.dic [])) /\
 (∀ i w τ M,ws[i]? =some w->P i τ M->g w τ M λ τ2 M2=>tt τ2 M2 λ b M3=>if b=true then tk τ2 M3 λ y M4=>tv τ2 M4 λ z M5=>∃ kvs key,M5 p=some (.dic kvs)/\y=kW key/\kvs.length<sizeLine/\P (i+1) τ2 (ax M5 p (.dic (fX kvs key z))) else P (i+1) τ2 M3) /\
 ∀ τ M,P ws.length τ M->Q (.m p) M
theorem acz(h:up K (dDC di g tt tk tv k fr) σ H Q) :
  tDC (upI K di) (upG K g) (upT K tt) (up K tk) (up K tv) k fr σ H Q:=by
 obtain⟨τ,M,Qd,A,h,kk⟩:=h;refine⟨τ,M,_,A,h,λ J H1 ws M1 kp m1 it hall p hp=>?_⟩;obtain⟨P,p0,pt,pe⟩:=hall p (m1.free hp);have kpn:Kp H1 (upd H1 p (.dK [])):=Kp.new hp;have mn:cB K (upd H1 p (.dK [])) (ax M1 p (.dic [])):=m1.put (mo:=.dic []) kpn ⟨_,ao,.nil⟩;refine⟨λ i n σ' H'=>n=ws.length-i/\i<=ws.length/\Kp (upd H1 p (.dK [])) H'/\∃ τ M,Abs K H' σ' τ M/\P i τ M,⟨ws.length,by simp,Nat.zero_le _,Kp.refl _,_,_,nF (A.go (kp.trans kpn) mn) k fr,p0⟩,?_⟩;rintro i n σ2 H2 ⟨rfl,hi,kp2,τ2,M2,A2,p2⟩;obtain⟨go,stop,yld⟩:=it H2 (kpn.trans kp2) i
 by_cases hlt:i<ws.length
 ·refine .inr ⟨go hlt,λ x H3 y=>?_⟩;obtain⟨kp3,mk,w,ew,rw⟩:=yld x H3 hlt y;refine⟨w,τ2,M2,_,rw,A2.go kp3 (mk _ A2.mem),pt i w τ2 M2 ew p2,λ σ4 H4 τ4 M4 kp4 A4 q4=>⟨τ4,M4,_,A4,q4,λ b H5 M5 kp5 m5 q5=>?_⟩⟩;have kq:=(kp3.trans kp4).trans kp5;cases b with
  | false =>
   rw[if_neg Bool.false_ne_true] at q5;exact ace ⟨ws.length-(i+1),by omega,rfl,hlt,kp2.trans kq,τ4,M5,A4.go kp5 m5,q5⟩
  | true =>
   rw[if_pos rfl] at q5;refine adH ⟨τ4,M5,_,A4.go kp5 m5,q5,λ ky H6 wy M6 kp6 r6 m6 q6=>⟨τ4,M6,_,A4.go (kp5.trans kp6) m6,q6,λ v H7 wv M7 kp7 r7 m7 hq79=>?_⟩⟩;obtain⟨kvs,key,hm,ey,hl,q7⟩:=hq79;subst ey;obtain⟨l,e,pr⟩:=m7 _ _ hm;have kp8:Kp H7 (upd H7 p (.dK (putK l key v))):=Kp.set e (λ _ z=>nomatch z) (λ _ _ z=>nomatch z);refine⟨l,key,e,iw r6,by rw[<- oO pr];exact hl,ws.length-(i+1),by omega,rfl,hlt,kp2.trans (((kq.trans kp6).trans kp7).trans kp8),τ4,_,A4.go (((kp5.trans kp6).trans kp7).trans kp8) (m7.put (mo:=.dic (fX kvs key wv)) kp8 ⟨_,ao,?_⟩),q7⟩;exact Paired.fC (qH key r7 pr) λ p q z=>⟨z.1,z.2.keep kp8⟩
 ·have hl:i=ws.length:=by omega
  subst hl;refine .inl ⟨stop (Nat.le_refl _),?_⟩;exact kk _ H2 (.m p) M2 (kp.trans (kpn.trans kp2)) rfl A2.mem (pe τ2 M2 p2)
variable {X:Cx}{sc:Scope}{own:List Str}{fr:List Nat}{di:TId}{g:TGd}{tt:TTd}{tk tv:TD}{tg iter kx vx:Expr}{ifs:List Expr}{pos:Pos}
theorem acY(hc:X.calm=true)(L:lI X sc own fr)(hi:PId X tg iter di)
  (hg:∀ cl C s H ex pl,PGd (blk X sc (lcN X own fr) cl C s H ex pl) tg g)(ht:∀ cl C s H ex pl,sx (blk X sc (lcN X own fr) cl C s H ex pl) ifs tt)(hk:∀ cl C s H ex pl,PD (blk X sc (lcN X own fr) cl C s H ex pl) kx tk)(hv:∀ cl C s H ex pl,PD (blk X sc (lcN X own fr) cl C s H ex pl) vx tv)
  (hs:∀ x,foldedSetIterable iter X.env x=pure x:=by intro _;rfl):PD X (.DictComp kx vx [⟨tg,iter,ifs,0⟩] sc pos) (dDC di g tt tk tv own.length fr):=
 fE (acN hc L hi hg ht hk hv hs) λ σ H Q h=>acz h
end
end D
open L2 D
theorem uF(hc:X.calm=true)(L:lI X sc own fr)(hi:Jd (PId X tg iter di))
  (hg:∀ cl C s H ex pl,Jd (PGd (blk X sc (lcN X own fr) cl C s H ex pl) tg g))(ht:∀ cl C s H ex pl,Jd (sx (blk X sc (lcN X own fr) cl C s H ex pl) ifs tt))(hk:∀ cl C s H ex pl,Jd (PD (blk X sc (lcN X own fr) cl C s H ex pl) kx tk))(hv:∀ cl C s H ex pl,Jd (PD (blk X sc (lcN X own fr) cl C s H ex pl) vx tv))
  (hs:∀ x,foldedSetIterable iter X.env x=pure x:=by intro _;rfl):Jd (PD X (.DictComp kx vx [⟨tg,iter,ifs,0⟩] sc pos) (dDC di g tt tk tv own.length fr)):=
 ⟨D.acY hc L hi.h (λ cl C s H ex pl=>(hg cl C s H ex pl).h) (λ cl C s H ex pl=>(ht cl C s H ex pl).h) (λ cl C s H ex pl=>(hk cl C s H ex pl).h) (λ cl C s H ex pl=>(hv cl C s H ex pl).h) hs⟩
namespace L2
end L2
namespace D
open L2
end D
open L2 D
namespace D
open L2
end D
open L2 D
namespace D
open L2
end D
open L2 D
namespace D
open L2
section
variable {X:Cx}{K:FG}
end
end D
namespace PySem
namespace Dp
section
variable {prog:Program}{w:World}{A:Around}{E:VP}{s:Shared}
variable {K:Type}[DecidableEq K]{knd:KeyKind prog w K}
end
end Dp
end PySem
namespace D
open L2
section
variable {X:Cx}{K:FG}
end
end D
namespace Stc
open L2 D Rc
end Stc
namespace D
open L2
section
variable {X:Cx}{K:FG}
def ac0(n:Nat)(t:TAd)(gs:yi)(D:Ed)(τ:DS)(M:MH):Prop:=t τ M λ ws M1=>ws.length=n/\n<=sizeLine/\gs ws τ M1 D.nx
end
theorem uz(hc:X.calm=true)(ha:Jd (PAd X es t))(hg:Jd (xZ X ts gs))(hn:(assignEach ts X.env).length=n:=by rfl)(hst:(assignEach ts X.env).findIdx? (·.1)=none:=by rfl)
  (hs:swapsWithSole [.Tuple ts k p1] (.Tuple es k2 p2) pos.line X.env=pure false:=by rfl)(hw:swappedStores [.Tuple ts k p1] (.Tuple es k2 p2) X.env=pure none:=by rfl)
  (h1:(assignEach [.Tuple ts k p1] X.env).map (·.2)=[assign (.Tuple ts k p1) X.env]:=by rfl):Jd (PSd X (.Assign [.Tuple ts k p1] (.Tuple es k2 p2) pos) (ac0 n t gs)):=⟨have ha:=ha.h;have hg:=hg.h;
 rY (yR (wt ha) (uy hc hg hn hst) hs hw h1) λ D σ H h=>by obtain⟨τ,M,Dd,A,h,k1,_⟩:=h;refine⟨τ,M,_,A,h,λ vs H1 ws M1 kp1 r1 m1 hq80=>?_⟩;obtain⟨el,hz,q⟩:=hq80;have hl:=r1.length;refine⟨by omega,λ p hp=>?_⟩;have kp2:Kp H1 (upd H1 p (.tup vs)):=Kp.new hp;refine⟨p,vs,rfl,.inl (.inl ao),by omega,ws,τ,M1,_,aI.keep kp2 r1,A.go (kp1.trans kp2) (m1.new hp),q,λ σ' H' τ' M' kp' A' q'=>?_⟩;exact k1 σ' H' τ' M' ((kp1.trans kp2).trans kp') A' q'⟩
end D
namespace S
open PySem PySem.W PyProof.Rows
def PR(N:Nat)(p:Array Nat):Prop:=p.Perm (List.toArray (List.range N))
theorem PR.low(hN:1<=N)(h:PR N p):Low N p:=.of hN λ x hx=>by
 have:=(Array.perm_iff_toList_perm.mp h).mem_iff.mp hx
 simpa using this
theorem PR.rev(h:PR N p):PR N (kas_rev p i j):=(mirror_perm _ _ _ _:(kas_rev p i j).Perm p).trans h
theorem uu(lt:Nat->Nat->Bool):∀ {t:KasT α},gh N R t->R (go lt t)
 | .ret _,h=>h
 | .ask i j k,h=>uu lt (t:=k (lt i j)) (h.2.2 (lt i j))
theorem lF(hN:1<=N):∀ (f:Nat) {p:Array Nat} (n q:Nat),PR N p->gh N (λ r=>PR N r.1) (kas_desc f p n q)
 | 0,p,n,q,h=>h
 | f+1,p,n,q,h=>⟨h.low hN _,h.low hN _,λ b=>by
  cases b with
  | true =>
   simp only[if_true]
   split
   ·exact lF hN f (n+1) 0 h.rev
   ·exact lF hN f (n+1) 0 h
  | false =>
   simp only[Bool.false_eq_true,if_false];refine⟨h.low hN _,h.low hN _,λ b=>?_⟩;cases b with
   | true=>exact h
   | false=>exact lF hN f (n+1) (q+1) h⟩
theorem qC(hN:1<=N)(h:PR N p):gh N (λ(r:Nat×Array Nat)=>PR N r.2) (kas_tail3 n m p):=by
 unfold kas_tail3;refine gh.bind (λ k _=>?_) (mM (h.rev.low hN) _ _);exact(h.rev:PR N (kas_rev p 0 n))
theorem jw(hN:1<=N)(h:PR N p):gh N (λ r=>PR N r.2) (kas_descPart n m p):=(lF hN _ _ _ h).bind λ r hr=>by
 split
 ·exact qC hN hr.rev
 ·exact qC hN hr
theorem xM(hN:1<=N)(h:PR N p):gh N (λ r=>PR N r.2) (kas_count m p):=(mM (h.low hN) _ _).bind λ n _=>by
 split
 ·exact h
 ·split
  ·refine⟨h.low hN _,h.low hN _,λ b=>?_⟩;cases b with
   | true=>exact h
   | false=>exact jw hN h.rev
  ·exact jw hN h
theorem zL(hN:1<=N):∀ (f:Nat) {p:Array Nat} (k:Nat),PR N p->gh N (PR N) (kas_bin f p k)
 | 0,_,_,h=>h
 | f+1,p,k,h=>(ie (h.low hN) _ _ _).bind λ l _=>zL hN f (k+1) ((bubble_perm _ _ _:(bubble p k (k-l)).Perm p).trans h)
theorem aaN(hN:1<=N):gh N (PR N) (kas_sort N):=(xM hN (Array.Perm.refl _)).bind λ r hr=>by
 split
 ·exact zL hN _ _ hr
 ·exact hr
theorem mT(lt:Nat->Nat->Bool)(n:Nat):(df lt n).Perm (List.range n):=by
 unfold df
 by_cases z:n<2
 ·rw[if_pos z]
 ·rw[if_neg z];have:=Array.perm_iff_toList_perm.mp (show PR n (go lt (kas_sort n)) from uu lt (aaN (N:=n) (by omega)))
  simpa using this
end S
namespace D
open L2 S
section
variable {X:Cx}{K:FG}
end
mutual
def gB(K:FG)(H:Hp):PyData->V->Prop
 | .list ds,x=>ay K H (.list ds) x\/∃ a vs,x=.ref a/\H a=some (.lst vs)/\gq K H ds vs
 | .tuple ds,x=>∃ a vs,x=.ref a/\SqT K H a vs/\gq K H ds vs
 | .none,x=>ay K H .none x
 | .bool b,x=>ay K H (.bool b) x
 | .int i,x=>ay K H (.int i) x
 | .str z,x=>ay K H (.str z) x
 | .dict kvs,x=>ay K H (.dict kvs) x
def gq(K:FG)(H:Hp):List PyData->List V->Prop
 | [],l=>l=[]
 | d::ds,l=>∃ v r,l=v::r/\gB K H d v/\gq K H ds r
end
mutual
theorem gB.of{K:FG}{H:Hp}:∀ {d:PyData} {x:V},ay K H d x->gB K H d x
 | .list ds,x,h=>by unfold gB;exact .inl h
 | .tuple ds,x,h=>by
  unfold gB;simp only[ay] at h;obtain⟨a,vs,e,s,r⟩:=h;exact⟨a,vs,e,s,gq.of r⟩
 | .none,x,h=>by unfold gB;exact h
 | .bool b,x,h=>by unfold gB;exact h
 | .int i,x,h=>by unfold gB;exact h
 | .str z,x,h=>by unfold gB;exact h
 | .dict kvs,x,h=>by unfold gB;exact h
theorem gq.of{K:FG}{H:Hp}:∀ {ds:List PyData} {xs:List V},aQ K H ds xs->gq K H ds xs
 | [],xs,h=>by unfold gq;simpa [aQ] using h
 | d::ds,xs,h=>by
  unfold gq;simp only[aQ] at h;obtain⟨v,r,e,h1,h2⟩:=h;exact⟨v,r,e,gB.of h1,gq.of h2⟩
end
def Tw(H H':Hp):Prop:=Kp H H'/\∀ b vs,H b=some (.lst vs)->H' b=some (.lst vs)\/∃ o,H' b=some (.frz o (.lst vs))
theorem Tw.refl(H:Hp):Tw H H:=⟨Kp.refl H,λ _ _ e=>.inl e⟩
theorem Tw.trans{A B C:Hp}(h:Tw A B)(k:Tw B C):Tw A C:=⟨h.1.trans k.1,λ b vs e=>by
 rcases h.2 b vs e with q | ⟨o,q⟩
 ·exact k.2 b vs q
 ·exact .inr ⟨o,k.1.frz b o _ q⟩⟩
mutual
theorem adu:∀ {d:PyData} {x:V} {H0 H:Hp},Tw H0 H->Inv X pins σ H s->gB X.K H0 d x->∃ H',Tw H H'/\Inv X pins σ H' s/\ay X.K H' d x
 | .list ds,x,H0,H,t,I,h=>by
  unfold gB at h;rcases h with h | ⟨a,vs,rfl,e,r⟩
  ·exact⟨H,Tw.refl H,I,h.keep t.1⟩
  ·obtain⟨H1,t1,I1,r1⟩:=wj t I r;rcases(t.trans t1).2 a vs e with q | ⟨o,q⟩
   ·obtain⟨o,I2⟩:=I1.freeze q trivial;have kp:Kp H1 (upd H1 a (.frz o (.lst vs))):=Kp.set q (λ _ z=>nomatch z) (λ _ _ z=>nomatch z);refine⟨_,t1.trans ⟨kp,λ b ws eb=>?_⟩,I2,?_⟩
    ·by_cases hb:b=a
     ·subst hb;rw[q] at eb;cases eb;exact .inr ⟨o,ao⟩
     ·exact .inl (by rw[ah hb];exact eb)
    ·simp only[ay];exact⟨a,vs,rfl,.inl ⟨o,ao⟩,r1.keep kp⟩
   ·refine⟨H1,t1,I1,?_⟩;simp only[ay];exact⟨a,vs,rfl,.inl ⟨o,q⟩,r1⟩
 | .tuple ds,x,H0,H,t,I,h=>by
  unfold gB at h;obtain⟨a,vs,rfl,e,r⟩:=h;obtain⟨H1,t1,I1,r1⟩:=wj t I r;refine⟨H1,t1,I1,?_⟩;simp only[ay];exact⟨a,vs,rfl,SqT.keep (t.trans t1).1 e,r1⟩
 | .none,x,H0,H,t,I,h=>by unfold gB at h;exact⟨H,Tw.refl H,I,h.keep t.1⟩
 | .bool b,x,H0,H,t,I,h=>by unfold gB at h;exact⟨H,Tw.refl H,I,h.keep t.1⟩
 | .int i,x,H0,H,t,I,h=>by unfold gB at h;exact⟨H,Tw.refl H,I,h.keep t.1⟩
 | .str z,x,H0,H,t,I,h=>by unfold gB at h;exact⟨H,Tw.refl H,I,h.keep t.1⟩
 | .dict kvs,x,H0,H,t,I,h=>by unfold gB at h;exact⟨H,Tw.refl H,I,h.keep t.1⟩
theorem wj:∀ {ds:List PyData} {xs:List V} {H0 H:Hp},Tw H0 H->Inv X pins σ H s->gq X.K H0 ds xs->∃ H',Tw H H'/\Inv X pins σ H' s/\aQ X.K H' ds xs
 | [],xs,H0,H,t,I,h=>by unfold gq at h;exact⟨H,Tw.refl H,I,by simpa [aQ] using h⟩
 | d::ds,xs,H0,H,t,I,h=>by
  unfold gq at h;obtain⟨v,r,rfl,h1,h2⟩:=h;obtain⟨H1,t1,I1,r1⟩:=adu t I h1;obtain⟨H2,t2,I2,r2⟩:=wj (t.trans t1) I1 h2;refine⟨H2,t1.trans t2,I2,?_⟩;simp only[aQ];exact⟨v,r,rfl,r1.keep t2.1,r2⟩
end
end D
namespace D
open L2
theorem ou(I:Inv X pins σ H s)(d:PyData)(h:gB X.K H d x)(r:RelV x u)(hd:d.hasDict=false):∃ as,Reads s.heap u d as:=by obtain⟨H',_,I',h'⟩:=adu (Tw.refl H) I h;exact dQ I' d h' r hd
def okN(d d':PyData):Bool:=oY d&&oY d'
theorem aev(hr:cW k X.A):OpR X (compareOp .NotEq) (λ x y H Q=>∃ d d',gB X.K H d x/\gB X.K H d' y/\okN d d'=true/\Q (.bl (!PyData.eqv d d')) H):=by intro pins s σ H x y v u Q I rx ry h;obtain⟨d,d',h1,h2,o,q⟩:=h;simp only[okN,oY,Bool.and_eq_true,Bool.not_eq_true'] at o;obtain⟨as,r1⟩:=ou I d h1 rx o.1.2;obtain⟨bs,r2⟩:=ou I d' h2 ry o.2.2;exact ne_dataH r1 r2 o.1.1 o.2.1 hr.units ⟨.bl _,H,I,rfl,q⟩
def gc(M:MH):Nat->W->PyData->Prop
 | 0,w,d=>w=.d d
 | n+1,w,d=>w=.d d\/(∃ a ws ds,w=.m a/\M a=some (.lst ws)/\d=.list ds/\Paired (gc M n) ws ds)\/∃ a ws ds,w=.m a/\M a=some (.tup ws)/\d=.tuple ds/\Paired (gc M n) ws ds
theorem gc.d:∀ {n:Nat},gc M n (.d x) x
 | 0=>rfl
 | _+1=>.inl rfl
theorem gc.l(h:M a=some (.lst ws))(r:Paired (gc M n) ws ds):gc M (n+1) (.m a) (.list ds):=.inr (.inl ⟨a,ws,ds,rfl,h,rfl,r⟩)
theorem gc.t(h:M a=some (.tup ws))(r:Paired (gc M n) ws ds):gc M (n+1) (.m a) (.tuple ds):=.inr (.inr ⟨a,ws,ds,rfl,h,rfl,r⟩)
theorem gc.ds:∀ (ds:List PyData),Paired (gc M n) (ds.map W.d) ds
 | []=>.nil
 | _::ds=>.cons gc.d (gc.ds ds)
theorem lC{K:FG}{H:Hp}{M:MH}{n:Nat}(h:∀ w d x,gc M n w d->aA K H w x->gB K H d x):∀ {ws:List W} {ds:List PyData} {vs:List V},Paired (gc M n) ws ds->aI K H ws vs->gq K H ds vs
 | _,_,_,.nil,.nil=>by unfold gq;rfl
 | _,_,_,.cons a b,.cons c e=>by
  unfold gq;exact⟨_,_,rfl,h _ _ _ a c,lC h b e⟩
theorem gc.sound{K:FG}{H:Hp}{M:MH}(m:cB K H M):∀ (n:Nat) (w:W) (d:PyData) (x:V),gc M n w d->aA K H w x->gB K H d x
 | 0,w,d,x,g,r=>by have g':w=.d d:=g;subst g';exact gB.of r
 | n+1,w,d,x,g,r=>by
  rcases g with g | ⟨a,ws,ds,rfl,h,rfl,p⟩ | ⟨a,ws,ds,rfl,h,rfl,p⟩
  ·subst g;exact gB.of r
  ·obtain⟨vs,e,rw⟩:=m _ _ h;unfold gB;exact .inr ⟨a,vs,r,e,lC (gc.sound m n) p rw⟩
  ·obtain⟨vs,e,rw⟩:=m _ _ h;unfold gB;exact⟨a,vs,r,.inl (.inl e),lC (gc.sound m n) p rw⟩
section
variable {X:Cx}{K:FG}
def ab7(w w':W)(M:MH)(Q:QD):Prop:=∃ d d' n,gc M n w d/\gc M n w' d'/\okN d d'=true/\Q (.d (.bool (!PyData.eqv d d'))) M
theorem abZ:OpD K (λ x y H Q=>∃ d d',gB K H d x/\gB K H d' y/\okN d d'=true/\Q (.bl (!PyData.eqv d d')) H) ab7:=by intro x y H w w' M Qd Q r1 r2 m ⟨d,d',n,g1,g2,o1,q⟩ k;exact⟨d,d',gc.sound m n w d x g1 r1,gc.sound m n w' d' y g2 r2,o1,k _ H (.d (.bool _)) M (Kp.refl H) (by simp[aA,ay]) m q⟩
def ig(t:TAd)(τ:DS)(M:MH)(Q:QD):Prop:=t τ M λ ws M1=>ws.length<=sizeLine/\∀ p,M1 p=none->Q (.m p) (ax M1 p (.tup ws))
def gTM(n:Nat)(gs:yi)(w:W)(τ:DS)(M:MH)(Q:DS->MH->Prop):Prop:=∃ a ws,w=.m a/\M a=some (.tup ws)/\ws.length=n/\gs ws τ M Q
end
theorem rU(I:Inv X pins σ H s)(h:H a=some (.lst l)):(∀ xs,X.H₀ a≠some (.tup xs))/\(∀ o v,X.H₀ a≠some (.frz o v))/\∀ ps,X.H₀ a≠some (.tbl ps):=by
 refine⟨λ xs e=>?_,λ o v e=>?_,λ ps e=>?_⟩
 ·have:=I.base.tups a xs e;rw[h] at this;cases this
 ·have:=I.base.frzs a o v e;rw[h] at this;cases this
 ·obtain⟨m,this⟩:=I.base.tbls a ps e;rw[h] at this;cases this
theorem Inv.uP(I:Inv X pins σ H s)(h:H a=some (.lst l)):∃ o,Inv X pins σ (upd H a (.frz o (.frz o (.lst l)))) s:=by have f:Fz (.lst l):=trivial;obtain⟨o,ho⟩:=(I.hok a _ h).obj f;obtain⟨b1,b2,b3⟩:=rU I h;exact⟨o,Inv.swap I h (λ _ z=>nomatch z) (λ _ z=>nomatch z) b1 b2 b3 ⟨ho,ho,(I.hok a _ h).adk f⟩⟩
theorem Inv.oN(I0:Inv X pins σ0 H0 s0)(h0:H0 a=some (.lst l))(I:Inv X pins σ H s)(h:H a=some (.frz o (.frz o (.lst l)))):Inv X pins σ (upd H a (.lst l)) s:=by have f:Fz (.lst l):=trivial;obtain⟨b1,b2,b3⟩:=rU I0 h0;exact Inv.swap I h (λ _ z=>nomatch z) (λ _ z=>nomatch z) b1 b2 b3 ((I.hok a _ h).2.2.adk f)
def aaP(t:TE):TE:=λ σ H Q=>∃ a l,H a=some (.lst l)/\∀ o,t σ (upd H a (.frz o (.frz o (.lst l)))) λ v H'=>H' a=some (.frz o (.frz o (.lst l)))/\Q v (upd H' a (.lst l))
theorem wu(h:PE X e t):PE X e (aaP t):=by intro pins s σ H Q I ⟨a,l,ha,q⟩;obtain⟨o,I1⟩:=Inv.uP I ha;exact thn (h pins s σ _ _ I1 (q o)) λ v s1 ⟨x,H',I2,r,e,q2⟩=>⟨x,_,Inv.oN I ha I2 e,r,q2⟩
def abQ(t:TS):TS:=λ D σ H=>∃ a l,H a=some (.lst l)/\∀ o,t
 {nx:=λ σ' H'=>H' a=some (.frz o (.frz o (.lst l)))/\D.nx σ' (upd H' a (.lst l)),rt:=λ v H'=>H' a=some (.frz o (.frz o (.lst l)))/\D.rt v (upd H' a (.lst l)),
  bk:=λ σ' H'=>H' a=some (.frz o (.frz o (.lst l)))/\D.bk σ' (upd H' a (.lst l)),ct:=λ σ' H'=>H' a=some (.frz o (.frz o (.lst l)))/\D.ct σ' (upd H' a (.lst l))} σ (upd H a (.frz o (.frz o (.lst l))))
theorem vS{st:Stmt}{t:TS}(h:PS X st t):PS X st (abQ t):=by
 intro pins s σ H D I ⟨a,l,ha,q⟩;obtain⟨o,I1⟩:=Inv.uP I ha;refine thn (h pins s σ _ _ I1 (q o)) λ f s1 hf=>?_;cases f with
 | next=>obtain⟨σ',H',I2,e,q2⟩:=hf;exact⟨σ',_,Inv.oN I ha I2 e,q2⟩
 | brk=>obtain⟨σ',H',I2,e,q2⟩:=hf;exact⟨σ',_,Inv.oN I ha I2 e,q2⟩
 | cont=>obtain⟨σ',H',I2,e,q2⟩:=hf;exact⟨σ',_,Inv.oN I ha I2 e,q2⟩
 | ret u=>obtain⟨v,σ',H',I2,r,e,q2⟩:=hf;exact⟨v,σ',_,Inv.oN I ha I2 e,r,q2⟩
section
variable {K:FG}{H:Hp}{a:Addr}{o:Obj}{l:List V}
theorem Kp.bT(h:H a=some (.frz o (.frz o (.lst l)))):(∀ b xs,H b=some (.tup xs)->upd H a (.lst l) b=some (.tup xs))/\(∀ b ob ys,H b=some (.frz ob (.lst ys))->upd H a (.lst l) b=some (.frz ob (.lst ys)))/\∀ b ob ys,H b=some (.frz ob (.dK ys))->upd H a (.lst l) b=some (.frz ob (.dK ys)):=by
 refine⟨λ b xs e=>?_,λ b ob ys e=>?_,λ b ob ys e=>?_⟩<;>
 ·rw[ah (λ z=>by rw[z,h] at e;cases e)];exact e
theorem SqT.bT(h:H a=some (.frz o (.frz o (.lst l))))(r:SqT K H b vs):SqT K (upd H a (.lst l)) b vs:=by
 rcases r with (r | ⟨ob,r⟩) | r
 ·exact .inl (.inl ((Kp.bT h).1 _ _ r))
 ·refine .inl (.inr ⟨ob,?_⟩);rw[ah (λ z=>by rw[z,h] at r;cases r)];exact r
 ·exact .inr r
theorem SqF.bT(h:H a=some (.frz o (.frz o (.lst l))))(r:SqF K H b vs):SqF K (upd H a (.lst l)) b vs:=by
 rcases r with ⟨ob,r⟩ | r
 ·exact .inl ⟨ob,(Kp.bT h).2.1 _ _ _ r⟩
 ·exact .inr r
mutual
theorem ay.bT(h:H a=some (.frz o (.frz o (.lst l)))):∀ {d:PyData} {v:V},ay K H d v->ay K (upd H a (.lst l)) d v
 | .none,v,r=>by simp only[ay] at r ⊢;exact r
 | .bool b,v,r=>by simp only[ay] at r ⊢;exact r
 | .int i,v,r=>by simp only[ay] at r ⊢;exact r
 | .str x,v,r=>by simp only[ay] at r ⊢;exact r
 | .list ds,v,r=>by simp only[ay] at r ⊢;obtain⟨b,vs,e,q,r⟩:=r;exact⟨b,vs,e,SqF.bT h q,aQ.bT h r⟩
 | .tuple ds,v,r=>by simp only[ay] at r ⊢;obtain⟨b,vs,e,q,r⟩:=r;exact⟨b,vs,e,SqT.bT h q,aQ.bT h r⟩
 | .dict kvs,v,r=>by simp only[ay] at r ⊢;obtain⟨b,ob,m,e,q,r⟩:=r;exact⟨b,ob,m,e,(Kp.bT h).2.2 _ _ _ q,fY.bT h r⟩
theorem aQ.bT(h:H a=some (.frz o (.frz o (.lst l)))):∀ {ds:List PyData} {vs:List V},aQ K H ds vs->aQ K (upd H a (.lst l)) ds vs
 | [],vs,r=>by simp only[aQ] at r ⊢;exact r
 | d::ds,vs,r=>by simp only[aQ] at r ⊢;obtain⟨v,q,e,h1,h2⟩:=r;exact⟨v,q,e,ay.bT h h1,aQ.bT h h2⟩
theorem fY.bT(h:H a=some (.frz o (.frz o (.lst l)))):∀ {ds:List (PyData×PyData)} {m:List (Key×V)},fY K H ds m->fY K (upd H a (.lst l)) ds m
 | [],m,r=>by simp only[fY] at r ⊢;exact r
 | (key,d)::ds,m,r=>by simp only[fY] at r ⊢;obtain⟨k',v,q,e,ek,h1,h2⟩:=r;exact⟨k',v,q,e,ek,ay.bT h h1,fY.bT h h2⟩
end
theorem aA.bT(h:H a=some (.frz o (.frz o (.lst l)))):∀ {w:W} {v:V},aA K H w v->aA K (upd H a (.lst l)) w v
 | .d _,_,r=>ay.bT h r
 | .m _,_,r=>r
 | .t _,_,r=>r
theorem cB.bT(h:H a=some (.frz o (.frz o (.lst l))))(m:cB K H M)(e:M a=some (.flst ws0)):cB K (upd H a (.lst l)) (ax M a (.lst ws0)):=λ b mo q=>by
 by_cases hb:b=a
 ·subst hb;rw[aa] at q;cases q;obtain⟨o',l',e',pr⟩:=m _ _ e;rw[h] at e';cases e';exact⟨l,ao,Paired.fC pr λ _ _ z=>aA.bT h z⟩
 ·rw[ab hb] at q;have r:=m b mo q;cases mo with
  | lst ws=>obtain⟨vs,e,r⟩:=r;exact⟨vs,by rw[ah hb];exact e,Paired.fC r λ _ _ z=>aA.bT h z⟩
  | dic kvs=>obtain⟨l,e,r⟩:=r;exact⟨l,by rw[ah hb];exact e,Paired.fC r λ p q z=>⟨z.1,aA.bT h z.2⟩⟩
  | dct kvs=>obtain⟨l,e,r⟩:=r;exact⟨l,by rw[ah hb];exact e,Paired.fC r λ p q z=>⟨z.1,aA.bT h z.2⟩⟩
  | fdic kvs=>obtain⟨o,l,e,r⟩:=r;exact⟨o,l,by rw[ah hb];exact e,Paired.fC r λ p q z=>⟨z.1,aA.bT h z.2⟩⟩
  | fdct kvs=>obtain⟨o,l,e,r⟩:=r;exact⟨o,l,by rw[ah hb];exact e,Paired.fC r λ p q z=>⟨z.1,aA.bT h z.2⟩⟩
  | ins C fs=>obtain⟨dx,l,e,r⟩:=r;exact⟨dx,l,by rw[ah hb];exact e,Paired.fC r λ p q z=>⟨z.1,aA.bT h z.2⟩⟩
  | tup ws=>obtain⟨vs,e,r⟩:=r;exact⟨vs,by rw[ah hb];exact e,Paired.fC r λ _ _ z=>aA.bT h z⟩
  | flst ws=>obtain⟨o,vs,e,r⟩:=r;exact⟨o,vs,by rw[ah hb];exact e,Paired.fC r λ _ _ z=>aA.bT h z⟩
  | exc C fs =>
   obtain⟨φ,dct,e,p,r⟩:=r;refine⟨φ,dct,by rw[ah hb];exact e,p,?_⟩;rcases r with r | ⟨dx,o',l',e1,e2,r⟩
   ·exact .inl r
   ·exact .inr ⟨dx,o',l',e1,by rw[ah (λ z=>by rw[z,h] at e2;cases e2)];exact e2,Paired.fC r λ p q z=>⟨z.1,aA.bT h z.2⟩⟩
  | code q pos =>
   obtain⟨ps,e,ht,hc⟩:=r;refine⟨ps,by rw[ah hb];exact e,ht,?_⟩;rcases hc with hc | ⟨c,o',vs,t,e1,e2,e3⟩
   ·exact .inl hc
   ·exact .inr ⟨c,o',vs,t,e1,by rw[ah (λ z=>by rw[z,h] at e2;cases e2)];exact e2,e3⟩
theorem Abs.bT(h:H a=some (.frz o (.frz o (.lst l))))(A:Abs K H σ τ M)(e:M a=some (.flst ws0)):Abs K (upd H a (.lst l)) σ τ (ax M a (.lst ws0)):=
 ⟨A.len,λ i w q=>let ⟨v,q1,r⟩:=A.val i w q; ⟨v,q1,aA.bT h r⟩,cB.bT h A.mem e⟩
end
def fm(t:TD)(τ:DS)(M:MH)(Q:QD):Prop:=∃ a ws,M a=some (.lst ws)/\t τ (ax M a (.flst ws)) λ v M'=>M' a=some (.flst ws)/\Q v (ax M' a (.lst ws))
theorem gI(e:H a=some (.lst l))(kp':Kp (upd H a (.frz o (.frz o (.lst l)))) H'):Kp H (upd H' a (.lst l)):=⟨λ b xs z=>by
  have hb:b≠a:=λ y=>by rw[y,e] at z;cases z
  rw[ah hb];exact kp'.tup b xs (by rw[ah hb];exact z),λ b ob u z=>by
  have hb:b≠a:=λ y=>by rw[y,e] at z;cases z
  rw[ah hb];exact kp'.frz b ob u (by rw[ah hb];exact z)⟩
def dH(t:TSd)(D:Ed)(τ:DS)(M:MH):Prop:=∃ a ws,M a=some (.lst ws)/\t
 {nx:=λ τ' M'=>M' a=some (.flst ws)/\D.nx τ' (ax M' a (.lst ws)),rt:=λ w M'=>M' a=some (.flst ws)/\D.rt w (ax M' a (.lst ws)),
  bk:=λ τ' M'=>M' a=some (.flst ws)/\D.bk τ' (ax M' a (.lst ws)),ct:=λ τ' M'=>M' a=some (.flst ws)/\D.ct τ' (ax M' a (.lst ws))} τ (ax M a (.flst ws))
abbrev fW(o:Obj)(l:List V):HO:=.frz o (.frz o (.lst l))
theorem gL(ok:HOk P w H h)(e:H a=some (fW o l)):∃ its:List Value,Vals l its/\h.IsList a its.toArray:=by obtain⟨ho,_,z,its,n,r,h1⟩:=ok a _ e;exact⟨its,r,⟨_,h1,rfl,n,rfl⟩⟩
def Itf(a:Addr)(o:Obj)(l:List V):It:=
 ⟨λ i H=>H a=some (fW o l)/\i<l.length,λ i H x H'=>H'=H/\l[i]? =some x,λ i H=>H a=some (fW o l)/\l.length<=i⟩
theorem kX{P:Program}{w:World}{K:FG}{tg:Expr}(a it:Addr)(o:Obj)(l:List V):Turn P w K tg (Itf a o l) [it] it (λ i h=>h.IsListIter it a i) where
 mem:=by simp
 obj:=λ i h st b hb=>by
  have e:b=it:=by simpa using hb
  subst e;obtain⟨o,e,c,d⟩:=st;exact⟨o,e,λ v z=>by rw[d] at z;cases z⟩
 keep:=λ i h h' st k=>st.at λ o e=>k it (by simp) o e
 item:=by intro X hP hw hK hc i pins s σ H E I hf st ⟨hg,hi⟩;subst hP hw hK;obtain⟨its,rv,p⟩:=gL I.hok hg;obtain⟨u,hu,ru⟩:=rv.get (List.getElem?_eq_getElem hi);obtain⟨f0,f1,f2,f3,f4,f5⟩:=hf it (by simp);refine wpAny_pyNext_list_item st p (x:=u) (by simpa using hu) λ h' st' sb=>?_;have I1:Inv X pins σ H {s with heap:=h'}:=I.turned (t':=s.toks) (λ b o hb e=>(sb.2 b hb).trans e) f0 f1 f3 f4 f5;obtain⟨o,e,c,d⟩:=id st';exact⟨u,rfl,su (s:={s with heap:=h'}) e c d (by decide) ⟨_,H,I1,ru,⟨rfl,List.getElem?_eq_getElem hi⟩,st',λ b hb=>(hf b hb).1⟩⟩
 done:=by intro X hP hw hK hc i pins s σ H E I hf st ⟨hg,hi⟩;subst hP hw hK;obtain⟨its,rv,p⟩:=gL I.hok hg;obtain⟨f0,f1,f2,f3,f4,f5⟩:=hf it (by simp);have hl:=rv.length;exact wpAny_pyNext_list_end (I.ok.hd hc) st p (by simp;omega) λ h' eb=>⟨rfl,I.turned (t':=s.toks) (λ b o hb e=>eb b o hb e) f0 f1 f3 f4 f5⟩
 self:=λ _ _ _ _ _ st h=>wpAny_pyIter_listiter st h
def acD(td:TE):TI:=λ σ H R=>td σ H λ x H1=>∃ a o l,x=.ref a/\H1 a=some (fW o l)/\R (Itf a o l) H1
theorem wZ{td:TE}(ho:PE X o td):PI X tg o (acD td):=by
 intro pins s σ H R I h;refine thn (ho pins s σ H _ I h) λ v s1 hq86=>?_;obtain⟨x,H1,I1,r1,a,ob,l,ex,hg,q⟩:=hq86;subst ex;cases r1;obtain⟨its,rv,p⟩:=gL I1.hok hg;refine wpAny_pyIter_list p ?_;refine⟨s1.heap.objs.size,[s1.heap.objs.size],_,_,H1,rfl,I1.kept (t':=s1.toks) λ b o e=>Heap.get?_push_of_some _ e,kX a _ ob l,⟨_,Heap.get?_push_size _ rfl,rfl,rfl⟩,λ b hb=>?_,q⟩;have e:b=s1.heap.objs.size:=by simpa using hb
 subst e;exact I1.pf (Nat.le_refl _) (I1.hok.fresh (Nat.le_refl _))
def cw(td:TD)(τ:DS)(M:MH)(R:List W->MH->Prop):Prop:=td τ M λ w M1=>∃ a ws,w=.m a/\M1 a=some (.flst ws)/\R ws M1
end D
namespace D
open L2
theorem cR{x1}(h:Jd (PAd X es t)):Jd (PD X (.Tuple es x1 pos) (ig t)):=⟨have h:=h.h;fE (wt h) λ σ H Q h=>by obtain⟨τ,M,Qd,A,h,k⟩:=h;refine⟨τ,M,_,A,h,λ vs H1 ws M1 kp r1 m1 hq81=>?_⟩;obtain⟨hz,q1⟩:=hq81;refine⟨by rw[<- r1.length];exact hz,λ p hp=>?_⟩;have kp2:Kp H1 (upd H1 p (.tup vs)):=Kp.new hp;exact k _ _ (.m p) _ (kp.trans kp2) rfl (m1.put (mo:=.tup ws) kp2 ⟨vs,ao,aI.keep kp2 r1⟩) (q1 p (m1.free hp))⟩
theorem gK(hc:X.calm=true)(h:Jd (xZ X es gs))(hn:(assignEach es X.env).length=n:=by rfl)(hst:(assignEach es X.env).findIdx? (·.1)=none:=by rfl):Jd (PGd X (.Tuple es k pos) (gTM n gs)):=⟨have h:=h.h;
 agC (uy hc h hn hst) λ v σ H Q hq82=>by obtain⟨w,τ,M,Qd,r,A,⟨a,ws,ew,hm,hl,q⟩,kk⟩:=hq82;subst ew;obtain⟨vs,e,rw⟩:=A.mem _ _ hm;exact⟨a,vs,r,.inl (.inl e),by rw[<- rw.length];exact hl,ws,τ,M,Qd,rw,A,q,kk⟩⟩
theorem dk(h:Jd (PD X e t)):Jd (PD X e (fm t)):=⟨have h:=h.h;fE (wu h) λ σ H Q hq83=>by obtain⟨τ,M,Qd,A,⟨a,ws,hm,q⟩,k⟩:=hq83;obtain⟨l,e,pr⟩:=A.mem _ _ hm;refine⟨a,l,e,λ o=>?_⟩;have kp:Kp H (upd H a (.frz o (.frz o (.lst l)))):=Kp.set e (λ _ z=>nomatch z) (λ _ _ z=>nomatch z);have m1:cB X.K (upd H a (.frz o (.frz o (.lst l)))) (ax M a (.flst ws)):=A.mem.put (mo:=.flst ws) kp ⟨o,l,ao,aI.keep kp pr⟩;refine⟨τ,_,_,A.go kp m1,q,λ v H' w M' kp' r' m' hq84=>?_⟩;obtain⟨h1,q1⟩:=hq84;have e':=kp'.frz a o _ ao;exact⟨e',k _ _ w _ (gI e kp') (aA.bT e' r') (cB.bT e' m' h1) q1⟩⟩
theorem dA{st:Stmt}{t:TSd}(h:Jd (PSd X st t)):Jd (PSd X st (dH t)):=⟨have h:=h.h;rY (vS h) λ D σ H hq85=>by
 obtain⟨τ,M,Dd,A,⟨a,ws,hm,q⟩,k1,k2,k3,k4⟩:=hq85;obtain⟨l,e,pr⟩:=A.mem _ _ hm;refine⟨a,l,e,λ o=>?_⟩;have kp:Kp H (upd H a (.frz o (.frz o (.lst l)))):=Kp.set e (λ _ z=>nomatch z) (λ _ _ z=>nomatch z);have m1:cB X.K (upd H a (.frz o (.frz o (.lst l)))) (ax M a (.flst ws)):=A.mem.put (mo:=.flst ws) kp ⟨o,l,ao,aI.keep kp pr⟩;refine⟨τ,_,_,A.go kp m1,q,?_,?_,?_,?_⟩
 ·rintro σ' H' τ' M' kp' A' ⟨h1,q1⟩;have e':=kp'.frz a o _ ao;exact⟨e',k1 _ _ _ _ (gI e kp') (Abs.bT e' A' h1) q1⟩
 ·rintro v H' w M' kp' r' m' ⟨h1,q1⟩;have e':=kp'.frz a o _ ao;exact⟨e',k2 _ _ _ _ (gI e kp') (aA.bT e' r') (cB.bT e' m' h1) q1⟩
 ·rintro σ' H' τ' M' kp' A' ⟨h1,q1⟩;have e':=kp'.frz a o _ ao;exact⟨e',k3 _ _ _ _ (gI e kp') (Abs.bT e' A' h1) q1⟩
 ·rintro σ' H' τ' M' kp' A' ⟨h1,q1⟩;have e':=kp'.frz a o _ ao;exact⟨e',k4 _ _ _ _ (gI e kp') (Abs.bT e' A' h1) q1⟩⟩
theorem bD(ho:Jd (PD X o td)):Jd (PId X tg o (cw td)):=⟨have ho:=ho.h;aaM (wZ ho) λ σ H R hq87=>by obtain⟨τ,M,Rd,A,h,k⟩:=hq87;refine⟨τ,M,_,A,h,λ v H1 w M1 kp r m hq88=>?_⟩;obtain⟨a,ws,ew,hm,q⟩:=hq88;subst ew;obtain⟨ob,l,e,pr⟩:=m _ _ hm;refine⟨a,ob,l,r,e,k _ H1 _ M1 kp m (λ H2 kp2 i=>?_) q⟩;have hl:=pr.length;have e2:=kp2.frz a ob _ e;refine⟨λ hi=>⟨e2,by omega⟩,λ hi=>⟨e2,by omega⟩,λ x H' hi hq89=>?_⟩;obtain⟨eH,ex⟩:=hq89;subst eH;have hi2:i<ws.length:=hi;obtain⟨x',ex',rx⟩:=aI.get (aI.keep kp2 pr) (List.getElem?_eq_getElem hi2);rw[ex'] at ex;cases ex;exact⟨Kp.refl _,λ M m=>m,ws[i],List.getElem?_eq_getElem hi2,rx⟩⟩
theorem af7(h:us.length=0):us=[]:=by exact List.eq_nil_of_length_eq_zero h
theorem vG(h:us.length=1):∃ a1:Value,us=[a1]:=by
 cases us with
 | nil=>simp at h
 | cons a r =>
  have e:r=[]:=af7 (by simpa using h);subst e;exact⟨a,rfl⟩
theorem xi(h:us.length=2):∃ a1 a2:Value,us=[a1,a2]:=by
 cases us with
 | nil=>simp at h
 | cons a r =>
  obtain⟨b1,e⟩:=vG (us:=r) (by simpa using h);subst e;exact⟨a,b1,rfl⟩
theorem aeN(h:us.length=3):∃ a1 a2 a3:Value,us=[a1,a2,a3]:=by
 cases us with
 | nil=>simp at h
 | cons a r =>
  obtain⟨b1,b2,e⟩:=xi (us:=r) (by simpa using h);subst e;exact⟨a,b1,b2,rfl⟩
theorem afZ(h:us.length=4):∃ a1 a2 a3 a4:Value,us=[a1,a2,a3,a4]:=by
 cases us with
 | nil=>simp at h
 | cons a r =>
  obtain⟨b1,b2,b3,e⟩:=aeN (us:=r) (by simpa using h);subst e;exact⟨a,b1,b2,b3,rfl⟩
section
variable {X:Cx}{K:FG}
end
section
variable {X:Cx}{K:FG}
end
section
variable {X:Cx}{K:FG}
end
section
variable {K:FG}
def tw(di:TId)(g:TGd)(tt:TTd)(te:TD)(k:Nat)(fr:List Nat)(τ:DS)(M:MH)(Q:QD):Prop:=di τ M λ ws M1=>∃ P:Nat->List W->DS->MH->Prop,P 0 [] (yP k fr τ) M1 /\
 (∀ i w acc τ M,ws[i]? =some w->P i acc τ M->acc.length<sizeLine/\g w τ M λ τ2 M2=>tt τ2 M2 λ b M3=>if b=true then te τ2 M3 λ y M4=>P (i+1) (acc++[y]) τ2 M4 else P (i+1) acc τ2 M3) /\
 ∀ acc τ M,P ws.length acc τ M->∀ p,M p=none->Q (.m p) (ax M p (.lst acc))
theorem wD(h:up K (tw di g tt te k fr) σ H Q) :
  tLC (upI K di) (upG K g) (upT K tt) (up K te) k fr σ H Q:=by
 obtain⟨τ,M,Qd,A,h,kk⟩:=h;refine⟨τ,M,_,A,h,λ J H1 ws M1 kp m1 it hq90=>?_⟩;obtain⟨P,p0,pt,pe⟩:=hq90;refine⟨λ i n ys σ' H'=>n=ws.length-i/\i<=ws.length/\Kp H1 H'/\∃ acc τ M,aI K H' acc ys/\Abs K H' σ' τ M/\P i acc τ M,⟨ws.length,by simp,Nat.zero_le _,Kp.refl _,[],_,M1,Paired.nil,nF (A.go kp m1) k fr,p0⟩,?_⟩;rintro i n ys σ2 H2 ⟨rfl,hi,kp2,acc,τ2,M2,ra,A2,p2⟩;obtain⟨go,stop,yld⟩:=it H2 kp2 i
 by_cases hlt:i<ws.length
 ·have hlen:=ra.length;refine .inr ⟨go hlt,?_,λ x H3 y=>?_⟩
  ·obtain⟨w,hw⟩:∃ w,ws[i]? =some w:=⟨ws[i],by simp[hlt]⟩;have:=(pt i w acc τ2 M2 hw p2).1;omega
  obtain⟨kp3,mk,w,ew,rw⟩:=yld x H3 hlt y;refine⟨w,τ2,M2,_,rw,A2.go kp3 (mk _ A2.mem),(pt i w acc τ2 M2 ew p2).2,λ σ4 H4 τ4 M4 kp4 A4 q4=>⟨τ4,M4,_,A4,q4,λ b H5 M5 kp5 m5 q5=>?_⟩⟩;have kq:=(kp3.trans kp4).trans kp5;cases b with
  | false =>
   rw[if_neg Bool.false_ne_true] at q5;show(if false=true then _ else _);rw[if_neg Bool.false_ne_true];exact⟨ws.length-(i+1),by omega,rfl,hlt,kp2.trans kq,acc,τ4,M5,aI.keep kq ra,A4.go kp5 m5,q5⟩
  | true =>
   rw[if_pos rfl] at q5;show(if true=true then _ else _);rw[if_pos rfl];refine⟨τ4,M5,_,A4.go kp5 m5,q5,λ v H6 wv M6 kp6 r6 m6 q6=>?_⟩;refine⟨ws.length-(i+1),by omega,rfl,hlt,kp2.trans (kq.trans kp6),acc++[wv],τ4,M6,aI.append (aI.keep (kq.trans kp6) ra) (.cons r6 .nil),A4.go (kp5.trans kp6) m6,q6⟩
 ·have hl:i=ws.length:=by omega
  subst hl;refine .inl ⟨stop (Nat.le_refl _),λ p hp=>?_⟩;have kp9:Kp H2 (upd H2 p (.lst ys)):=Kp.new hp;exact kgo kk (kp.trans kp2) _ _ (.m p) _ kp9 rfl (A2.mem.put (mo:=.lst acc) kp9 ⟨_,ao,aI.keep kp9 ra⟩) (pe acc τ2 M2 p2 p (A2.mem.free hp))
variable {X:Cx}{sc:Scope}{own:List Str}{fr:List Nat}{di:TId}{g:TGd}{tt:TTd}{te:TD}{tg iter elt:Expr}{ifs:List Expr}{pos:Pos}
theorem abC(hc:X.calm=true)(L:lI X sc own fr)(hi:PId X tg iter di)
  (hg:∀ cl C s H ex pl,PGd (blk X sc (lcN X own fr) cl C s H ex pl) tg g)(ht:∀ cl C s H ex pl,sx (blk X sc (lcN X own fr) cl C s H ex pl) ifs tt)(he:∀ cl C s H ex pl,PD (blk X sc (lcN X own fr) cl C s H ex pl) elt te)
  (hs:∀ x,foldedSetIterable iter X.env x=pure x:=by intro _;rfl):PD X (.ListComp elt [⟨tg,iter,ifs,0⟩] sc pos) (tw di g tt te own.length fr):=
 fE (aeV hc L hi hg ht he hs) λ σ H Q h=>wD h
end
section
variable {X:Cx}{tg iter elt:Expr}{pos:Pos}{sc:Scope}{own:List Str}{fr:List Nat}{di:TId}{g:TGd}{tt:TTd}{te:TD}{ifs:List Expr}
theorem pV(hN:X.N.Nodup)(hi':X.N[i]? =some x)(hx:Loc X.env.scope x)(hc:X.calm=true)(L:lI X sc own fr)(hi:PId X tg iter di)
  (hg:∀ cl C s H ex pl,PGd (blk X sc (lcN X own fr) cl C s H ex pl) tg g)(ht:∀ cl C s H ex pl,sx (blk X sc (lcN X own fr) cl C s H ex pl) ifs tt)(he:∀ cl C s H ex pl,PD (blk X sc (lcN X own fr) cl C s H ex pl) elt te)
  (hsw:swapsWith (.ListComp elt [⟨tg,iter,ifs,0⟩] sc pos) (some (.Name x pos')) spos.line X.env=pure true:=by rfl)
  (hs:∀ x,foldedSetIterable iter X.env x=pure x:=by intro _;rfl)(hf:X.fn x=true\/X.env.scope.names.lookup x=some .local:=by first | exact .inl rfl | exact .inr rfl | assumption) :
  PSd X (.Assign [.Name x pos'] (.ListComp elt [⟨tg,iter,ifs,0⟩] sc pos) spos) (dW (tw di g tt te own.length fr) (gN i)):=rY (yB hN hi' hx hc L hi hg ht he hsw hs hf) λ D σ H hq91=>by
 obtain⟨τ,M,Dd,A,h,k1,_⟩:=hq91;have z:up X.K (tw di g tt te own.length fr) σ H (λ v H'=>D.nx (σ.set i (some v)) H'):=⟨τ,M,_,A,h,λ v H1 w M1 kp r m q=>k1 _ H1 _ M1 kp ((A.go kp m).set i r) q⟩;exact wD z
end
theorem lS(hc:X.calm=true)(L:lI X sc own fr)(hi:Jd (PId X tg iter di))
  (hg:∀ cl C s H ex pl,Jd (PGd (blk X sc (lcN X own fr) cl C s H ex pl) tg g))(ht:∀ cl C s H ex pl,Jd (sx (blk X sc (lcN X own fr) cl C s H ex pl) ifs tt))(he:∀ cl C s H ex pl,Jd (PD (blk X sc (lcN X own fr) cl C s H ex pl) elt te))
  (hs:∀ x,foldedSetIterable iter X.env x=pure x:=by intro _;rfl):Jd (PD X (.ListComp elt [⟨tg,iter,ifs,0⟩] sc pos) (tw di g tt te own.length fr)):=
 ⟨D.abC hc L hi.h (λ cl C s H ex pl=>(hg cl C s H ex pl).h) (λ cl C s H ex pl=>(ht cl C s H ex pl).h) (λ cl C s H ex pl=>(he cl C s H ex pl).h) hs⟩
theorem o7(hN:X.N.Nodup)(hi':X.N[i]? =some x)(hx:Loc X.env.scope x)(hc:X.calm=true)(L:lI X sc own fr)(hi:Jd (PId X tg iter di))
  (hg:∀ cl C s H ex pl,Jd (PGd (blk X sc (lcN X own fr) cl C s H ex pl) tg g))(ht:∀ cl C s H ex pl,Jd (sx (blk X sc (lcN X own fr) cl C s H ex pl) ifs tt))(he:∀ cl C s H ex pl,Jd (PD (blk X sc (lcN X own fr) cl C s H ex pl) elt te))
  (hsw:swapsWith (.ListComp elt [⟨tg,iter,ifs,0⟩] sc pos) (some (.Name x pos')) spos.line X.env=pure true:=by rfl)
  (hs:∀ x,foldedSetIterable iter X.env x=pure x:=by intro _;rfl)(hf:X.fn x=true\/X.env.scope.names.lookup x=some .local:=by first | exact .inl rfl | exact .inr rfl | assumption) :
  Jd (PSd X (.Assign [.Name x pos'] (.ListComp elt [⟨tg,iter,ifs,0⟩] sc pos) spos) (dW (tw di g tt te own.length fr) (gN i))):=⟨D.pV hN hi' hx hc L hi.h (λ cl C s H ex pl=>(hg cl C s H ex pl).h) (λ cl C s H ex pl=>(ht cl C s H ex pl).h) (λ cl C s H ex pl=>(he cl C s H ex pl).h) hsw hs hf⟩
end D
namespace XO
open PySem.W Builtin.ObjectAttr
section
variable {prog:Program}{w:World}{A:Around}{E:VP}{s:Shared}{K:Frag}{x C:Addr}{name:Str}{v:Value}
end
section
variable {prog:Program}{w:World}{A:Around}{E:VP}{s:Shared}{K:Frag}{x C:Addr}{name:Str}{v:Value}{ox:Obj}{od:Option Obj}
end
section
variable {prog:Program}{w:World}{A:Around}{E:VP}{K:Frag}{C f:Addr}{h:Heap}{g:Array GenState}{d:Drawn}{t:Nat}{os:OsState}
end
end XO
namespace L2
open XO
end L2
namespace D
open L2 XO
section
variable {P:Program}{w:World}{K:FG}{mg:Str->Option Value}{base:Heap}
end
end D
namespace XO
open PySem.W
section
variable {prog:Program}{w:World}{A:Around}{E:VP}{s:Shared}{K:Frag}{env:PySem.Env}
end
end XO
namespace L2
open XO
section
variable {P:Program}{w:World}{K:FG}{mg:Str->Option Value}{base:Heap}{C f:Addr}{fd:FuncData}{qual:Str}{st:Stmt}
end
end L2
namespace D
open L2 XO
end D
namespace L2
open XO
end L2
namespace D
open L2 XO
section
variable {X:Cx}{pos np hpos:Pos}{body suite:List Stmt}{b0:Stmt}{hs:List ExceptHandler}{h0:ExceptHandler}{tb:XE->TSd}{th rest:Addr->TSd}{ts:TSd}
end
section
variable {X:Cx}{pos p p' apos cpos np hpos:Pos}{k:Nat}{f C:Addr}{fd:FuncData}{ps fs:List Str}{sp:SpX}{x m n:Str}{e o:Expr}{es:List Expr}{t:TAd}{td:TD}{E:XE}
variable {body suite:List Stmt}{b0:Stmt}{hs:List ExceptHandler}{h0:ExceptHandler}{tb:XE->TSd}{th rest:Addr->TSd}{ts:TSd}
end
section
variable {X:Cx}{K:FG}
theorem qo(hs:SqT K H a vs)(ra:aI K H ws vs):ItD K (Itt K a) H ws:=λ H1 kp i=>by
 have hl:=ra.length;refine⟨λ hi=>?_,λ hi=>⟨vs,SqT.keep kp hs,by omega⟩,λ x H' hi y=>?_⟩
 ·exact⟨vs,vs[i]'(by omega),SqT.keep kp hs,by simp⟩
 ·obtain⟨e,y⟩:=y;subst e;have ev:=y vs (SqT.keep kp hs);have hi2:i<ws.length:=hi;obtain⟨x',ex',rx⟩:=aI.get (aI.keep kp ra) (List.getElem?_eq_getElem hi2);rw[ex'] at ev;cases ev;exact⟨Kp.refl _,λ M m=>m,ws[i],List.getElem?_eq_getElem hi2,rx⟩
def i4(ws:List W)(M:MH)(Q:QD):Prop:=∃ a xs,ws=[.m a]/\M a=some (.lst xs)/\∀ p,M p=none->Q (.m p) (ax M p (.tup xs))
theorem uQ:fK K (λ xs H Q=>∃ p ys,xs=[.ref p]/\((SqL K H p ys/\∀ l,H l=none->Q (.ref l) (upd H l (.tup ys)))\/(SqT K H p ys/\Q (.ref p) H))) i4:=by intro vs H ws M Qd Q r m ⟨a,xs,e,hm,q⟩ k;subst e;obtain⟨v,e1,r1⟩:=eB r;have ev:v=.ref a:=r1;subst ev;obtain⟨ys,ea,ra⟩:=m _ _ hm;refine⟨a,ys,e1,.inl ⟨.of ea,λ l hl=>?_⟩⟩;have kp:Kp H (upd H l (.tup ys)):=Kp.new hl;exact k _ _ (.m l) _ kp rfl (m.put (mo:=.tup xs) kp ⟨ys,ao,aI.keep kp ra⟩) (q l (m.free hl))
end
section
variable {X:Cx}{K:FG}
def acJ(d:PyData)(ds:List PyData):Bool:=oY d&&oY (.list ds)
def inA(d:PyData)(ds:List PyData):Bool:=ds.any λ y=>PyData.eqv y d
theorem vi(hr:kF k A)(h:SeqAt.shaped d=true):A.units+1+min (PyData.depthAll ds) d.depth<cLine:=by have h1:=SeqAt.depth_of_shaped h;have h2:min (PyData.depthAll ds) d.depth<=d.depth:=Nat.min_le_right _ _;have:=hr.un;omega
theorem aeC(hr:kF k X.A):OpR X (compareOp .In) (λ x y H Q=>∃ d ds,pP X.K H d x/\(pP X.K H (.list ds) y\/ay X.K H (.tuple ds) y)/\acJ d ds=true/\Q (.bl (inA d ds)) H):=by
 intro pins s σ H x y v u Q I rx ry h;obtain⟨d,ds,h1,h2,o,q⟩:=h;simp only[acJ,oY,Bool.and_eq_true,Bool.not_eq_true'] at o;obtain⟨⟨o1,o2⟩,o3,o4⟩:=o;obtain⟨as,r1⟩:=eD I d h1 rx o2;have c3:=SeqAt.canLay_of_shaped o3;rcases h2 with h2 | h2
 ·obtain⟨bs,r2⟩:=eD I (.list ds) h2 ry o4;exact SeqAt.in_list_reads r2 r1 c3 (SeqAt.canLay_of_shaped o1) (vi hr o1) ⟨.bl _,H,I,rfl,q⟩
 ·obtain⟨bs,r2⟩:=dQ I (.tuple ds) h2 ry o4;exact SeqAt.in_tuple_reads r2 r1 c3 (SeqAt.canLay_of_shaped o1) (vi hr o1) ⟨.bl _,H,I,rfl,q⟩
def abY(neg:Bool)(w w':W)(M:MH)(Q:QD):Prop:=∃ d ds,wg M w d/\(wg M w' (.list ds)\/w'=.d (.tuple ds))/\acJ d ds=true/\Q (.d (.bool (xor neg (inA d ds)))) M
theorem aaZ:OpD K (λ x y H Q=>∃ d ds,pP K H d x/\(pP K H (.list ds) y\/ay K H (.tuple ds) y)/\acJ d ds=true/\Q (.bl (inA d ds)) H) (abY false):=by
 intro x y H w w' M Qd Q r1 r2 m ⟨d,ds,g1,g2,o,q⟩ k;refine⟨d,ds,g1.sound r1 m,?_,o,k _ H (.d (.bool _)) M (Kp.refl H) (by simp[aA,ay]) m q⟩;rcases g2 with g2 | rfl
 ·exact .inl (g2.sound r2 m)
 ·exact .inr r2
end
def aht(td:TE):TI:=λ σ H R=>td σ H λ x H1=>∃ a l,x=.ref a/\H1 a=some (.lst l)/\∀ ob,R (Itf a ob l) (upd H1 a (fW ob l))
theorem acR(ho:PE X o td):PI X tg o (aht td):=by
 intro pins s σ H R I h;refine thn (ho pins s σ H _ I h) λ v s1 hq92=>?_;obtain⟨x,H1,I0,r1,a,l,ex,hg0,q⟩:=hq92;subst ex;cases r1;obtain⟨ob,I1⟩:=Inv.uP I0 hg0;have hg:upd H1 a (fW ob l) a=some (fW ob l):=ao;obtain⟨its,rv,p⟩:=gL I1.hok hg;refine wpAny_pyIter_list p ?_;refine⟨s1.heap.objs.size,[s1.heap.objs.size],_,_,upd H1 a (fW ob l),rfl,I1.kept (t':=s1.toks) λ b o e=>Heap.get?_push_of_some _ e,kX a _ ob l,⟨_,Heap.get?_push_size _ rfl,rfl,rfl⟩,λ b hb=>?_,q ob⟩;have e:b=s1.heap.objs.size:=by simpa using hb
 subst e;exact I1.pf (Nat.le_refl _) (I1.hok.fresh (Nat.le_refl _))
def jf(td:TD)(τ:DS)(M:MH)(R:List W->MH->Prop):Prop:=td τ M λ w M1=>∃ a ws,w=.m a/\M1 a=some (.lst ws)/\R ws (ax M1 a (.flst ws))
theorem gm(ho:Jd (PD X o td)):Jd (PId X tg o (jf td)):=⟨have ho:=ho.h;aaM (acR ho) λ σ H R hq93=>by obtain⟨τ,M,Rd,A,h,k⟩:=hq93;refine⟨τ,M,_,A,h,λ v H1 w M1 kp r m hq94=>?_⟩;obtain⟨a,ws,ew,hm,q⟩:=hq94;subst ew;obtain⟨l,e,pr⟩:=m _ _ hm;refine⟨a,l,r,e,λ ob=>?_⟩;have kp1:Kp H1 (upd H1 a (fW ob l)):=Kp.set e (λ _ z=>nomatch z) (λ _ _ z=>nomatch z);have pr1:aI X.K (upd H1 a (fW ob l)) ws l:=aI.keep kp1 pr;refine k _ _ _ (ax M1 a (.flst ws)) (kp.trans kp1) (m.put (mo:=.flst ws) kp1 ⟨ob,l,ao,pr1⟩) (λ H2 kp2 i=>?_) q;have hl:=pr1.length;have e2:=kp2.frz a ob _ ao;refine⟨λ hi=>⟨e2,by omega⟩,λ hi=>⟨e2,by omega⟩,λ x H' hi hq95=>?_⟩;obtain⟨eH,ex⟩:=hq95;subst eH;have hi2:i<ws.length:=hi;obtain⟨x',ex',rx⟩:=aI.get (aI.keep kp2 pr1) (List.getElem?_eq_getElem hi2);rw[ex'] at ex;cases ex;exact⟨Kp.refl _,λ M m=>m,ws[i],List.getElem?_eq_getElem hi2,rx⟩⟩
end D
namespace PySem.SeqAt
open MeetsSeq MeetsSeq2 MeetsSeq3 SeqRoads2
end PySem.SeqAt
namespace ZT
end ZT
namespace D
open L2
section
variable {X:Cx}{K:FG}{a b:Expr}{p pos:Pos}{t:TAd}
end
section
variable {X:Cx}{K:FG}
theorem tI:fc X (.type "str") (λ xs H Q=>(∃ z,xs=[.str z]/\Q (.str z) H)\/∃ i:Int,xs=[.int i]/\i.natAbs.log2<1920/\Q (.str (Str.ofString (toString i))) H):=by
 intro pins s σ H xs us Q I r h;rcases h with ⟨z,rfl,q⟩ | ⟨i,rfl,hi,q⟩
 ·obtain⟨u,rfl,t,rfl⟩:=vals1 r;exact PySem.P.str_of_str ⟨.str z,H,I,⟨_,rfl⟩,q⟩
 ·obtain⟨u,rfl,t,rfl⟩:=vals1 r;exact PySem.P.str_of_int hi ⟨.str _,H,I.tok _,⟨_,rfl⟩,q⟩
def aey(ws:List W)(M:MH)(Q:QD):Prop:=(∃ z,ws=[.d (.str z)]/\Q (.d (.str z)) M)\/∃ i:Int,ws=[.d (.int i)]/\i.natAbs.log2<1920/\Q (.d (.str (Str.ofString (toString i)))) M
theorem ad1:fK K (λ xs H Q=>(∃ z,xs=[.str z]/\Q (.str z) H)\/∃ i:Int,xs=[.int i]/\i.natAbs.log2<1920/\Q (.str (Str.ofString (toString i))) H) aey:=by
 intro vs H ws M Qd Q r m h k;rcases h with ⟨z,e,q⟩ | ⟨i,e,hi,q⟩
 ·subst e;obtain⟨v,e1,r1⟩:=eB r;simp only[aA,ay] at r1;subst r1;exact .inl ⟨z,e1,k _ H (.d (.str z)) M (Kp.refl H) (by simp[aA,ay]) m q⟩
 ·subst e;obtain⟨v,e1,r1⟩:=eB r;simp only[aA,ay] at r1;subst r1;exact .inr ⟨i,e1,hi,k _ H (.d (.str _)) M (Kp.refl H) (by simp[aA,ay]) m q⟩
end
section
variable {X:Cx}{K:FG}
end
section
variable {X:Cx}{e st:Expr}{te:TE}{ts:TO}{pos p2:Pos}
end
section
variable {X:Cx}{K:FG}{e st:Expr}{te:TD}{ts:TOd}{pos p2:Pos}
end
section
variable {X:Cx}{e st:Expr}{a:Addr}{x:Str}{kvs:List (Str×PyData)}{pos p p2:Pos}{te:TD}{ts:TOd}
end
end D
namespace XO
open PySem.W
section
variable {prog:Program}{w:World}{A:Around}{E:VP}{K:Frag}{C:Addr}{h:Heap}{g:Array GenState}{d:Drawn}{t:Nat}{os:OsState}
end
end XO
namespace D
open L2 XO
section
variable {X:Cx}{pos p cpos np hpos:Pos}{k:Nat}{f C:Addr}{x:Str}{e:Expr}{es:List Expr}{t:TAd}{E:XE}
variable {body suite:List Stmt}{b0:Stmt}{hs:List ExceptHandler}{th rest:Addr->TSd}{ts:TSd}
end
section
variable {X:Cx}{K:FG}
variable {o e:Expr}{td te:TD}{apos cpos:Pos}
end
section
variable {X:Cx}{e st:Expr}{te:TE}{ts:TO}{pos p2:Pos}
end
section
variable {X:Cx}{e st:Expr}{te:TD}{ts:TOd}{pos p2:Pos}
end
section
variable {X:Cx}{K:FG}
end
section
variable {X:Cx}{pos p cpos apos np hpos p2:Pos}{k:Nat}{f C:Addr}{x y:Str}{e o st:Expr}{es:List Expr}{t:TAd}{E:XE}{body suite:List Stmt}{b0:Stmt}{hs:List ExceptHandler}{rest:Addr->TSd}{ts:TSd}{fd:FuncData}{ps:List Str}{sp:SpX}{td te:TD}{to:TOd}
end
end D
namespace ZS
end ZS
namespace D
open L2
section
variable {X:Cx}{K:FG}
end
end D
namespace RT
end RT
namespace D
open L2
theorem aen(I:Inv X pins σ H s)(e:s.heap.get? a=some o)(c:o.data=.seq its n):sysModules≠a:=by intro h;subst h;obtain⟨_,mm,o',es,ep,h1,h2,_⟩:=I.ok.mod.bm;have e2:=I.bk _ _ h1;rw[e] at e2;cases e2;rw[c] at h2;cases h2
section
variable {X:Cx}{K:FG}
variable {o e:Expr}{td:TD}{apos cpos:Pos}
variable {a:Expr}{ta:TA}{p p2 pos pos2:Pos}
end
end D
namespace L2
open PySem.W (envX kla_obj kla_fn)
def wL(X:Cx)(q:Str)(sc:Scope)(N':List Str)(cl:List (Str×Addr))(f c:Addr)(s:Shared)(H:Hp)(pins:PN):Cx:=
 {X with A:=X.A.deeper (envX q sc s.heap.objs.size f (.ref c) cl),N:=N',s₀:=s,H₀:=H,env:=envX q sc s.heap.objs.size f (.ref c) cl,outer:=X.stack,stack:=envX q sc s.heap.objs.size f (.ref c) cl::X.stack,ex:=[],fn:=λ _=>false,calm:=true,pn:=X.pn++pins,xe:=λ _ _=>False}
structure m9(X:Cx)(sc:Scope)(x:Str)(fr:List Nat):Prop where
 kind:sc.kind=.function
 co:sc.isCoroutine=false
 gen:sc.isGenerator=false
 cell:∀ y∈sc.names,y.2 ≠ .cell
 free:∀ y∈sc.names,y.2=.free->(X.env.kindOf y.1=some .cell\/X.env.kindOf y.1=some .free)
 own:sc.names.lookup x=some .local
 fr:aez X.N sc fr=true
def vp(X:Cx)(x:Str)(fr:List Nat):List Str:=x::fr.map λ j=>X.N.getD j Str.empty
def aeO(v:V)(fr:List Nat)(σ:St):St:=some v::fr.map λ j=>(σ[j]?).getD none
section
variable {X:Cx}{pins:PN}{σ:St}{H:Hp}{s:Shared}{sc:Scope}{x q:Str}{fr:List Nat}{cl:List (Str×Addr)}{f c:Addr}
theorem adC(L:m9 X sc x fr)(hc:X.calm=true)(I:Inv X pins σ H s)(c1:∀ n c,cl.lookup n=some c->X.env.cells.lookup n=some c)(c2:∀ n,(n,NameKind.free)∈sc.names->∃ c,cl.lookup n=some c):(wL X q sc (vp X x fr) cl f c s H pins).Ok where
 mod:=I.ok.mod
 kind:=L.kind
 glob:=rfl
 blt:=rfl
 above:=Nat.le_refl _
 inj:=λ x y c a b=>I.ok.inj x y c (c1 _ _ a) (c1 _ _ b)
 has:=λ y hy=>by
  have hy:sc.names.lookup y=some .cell\/sc.names.lookup y=some .free:=hy;rcases hy with hy | hy
  ·exact absurd rfl (L.cell _ (PySem.mem_of_lookup hy))
  ·exact c2 y (PySem.mem_of_lookup hy)
 cab:=λ x c z=>absurd (show false=true from z) Bool.false_ne_true
 hd:=λ _=>I.ok.hd hc
 frames:=Around.frames_deeper I.ok.frames
 stk:=.inr ⟨rfl,rfl⟩
 exf:=λ b z=>nomatch z
 bs:=I.bs
 bsz:=Nat.le_trans I.ok.bsz I.sz
 noex:=λ b o e z=>nomatch z
 exfs:=λ b z=>nomatch z
 oZ:=I.stack
 frf:=I.o6
theorem abX(L:m9 X sc x fr)(hc:X.calm=true)(I:Inv X pins σ H s)(c1:∀ n c,cl.lookup n=some c->X.env.cells.lookup n=some c)(c2:∀ n,(n,NameKind.free)∈sc.names->∃ c,cl.lookup n=some c)
  {h1:Heap}{tk:Nat}{v:V}{u:Value}(rv:RelV v u)(hn:h1.Ns s.heap.objs.size (λ y=>[(x,u)].reverse.lookup y))(k:∀ b o,s.heap.get? b=some o->h1.get? b=some o) :
  Inv (wL X q sc (vp X x fr) cl f c s H pins) [] (aeO v fr σ) H {s with heap:=h1,toks:=tk}:=by
 have ok:=adC (q:=q) (f:=f) (c:=c) L hc I c1 c2;refine⟨ok,rfl,I.bare,Un.kept k,⟨_,hn,λ i y v' e1 e2 e3=>?_⟩,λ y c e=>?_,I.hok.fresh (Nat.le_refl _),λ y c e=>I.freeC y c (c1 _ _ e),λ p hp=>?_,I.hok.kept k,?_⟩
 ·cases i with
  | zero =>
   have e1':some x=some y:=e1;have e2':some (some v)=some (some v'):=e2;cases e1';cases e2';exact⟨u,rv,.inl ⟨L.own,by simp⟩⟩
  | succ i =>
   have e1':(fr.map λ j=>X.N.getD j Str.empty)[i]? =some y:=e1;have e2':(fr.map λ j=>(σ[j]?).getD none)[i]? =some (some v'):=e2;rw[List.getElem?_map] at e1' e2';cases hq:fr[i]? with
   | none=>rw[hq] at e1';cases e1'
   | some j =>
    rw[hq] at e1' e2';obtain⟨z,hz,hzf⟩:=qL L.fr (List.mem_of_getElem? hq);have ex:z=y:=by have:=Option.some.inj e1';rw[<- this];simp[List.getD,hz]
    subst ex;have ev:σ[j]? =some (some v'):=by
     have z':(σ[j]?).getD none=some v':=Option.some.inj e2';cases w:σ[j]? with
     | none=>rw[w] at z';cases z'
     | some o=>rw[w] at z';exact congrArg some z'
    have hm:(z,NameKind.free)∈sc.names:=PySem.mem_of_lookup hzf;have hk:=L.free _ hm rfl;have vis:Vis X.env.scope z:=by
     rcases hk with w | w
     ·exact .inr (.inl w)
     ·exact .inr (.inr w)
    obtain⟨m0,hn0,hl⟩:=I.loc;obtain⟨u',r,l⟩:=hl j z v' hz ev vis;refine⟨u',r,.inr ⟨.inr hzf,?_⟩⟩;obtain⟨c',hc'⟩:=c2 z hm;rcases l with ⟨w,_⟩ | ⟨_,c'',hc'',hcell⟩
    ·rcases hk with q' | q'
     ·exact absurd (show X.env.kindOf z=some .local from w) (by rw[q'];decide)
     ·exact absurd (show X.env.kindOf z=some .local from w) (by rw[q'];decide)
    ·have:c'=c'':=Option.some.inj ((c1 _ _ hc').symm.trans hc'');subst this;obtain⟨o,ho,hd⟩:=hcell;exact⟨c',hc',o,k _ _ ho,hd⟩
 ·obtain⟨w,o,ho,hd⟩:=I.cell y c (c1 _ _ e);exact⟨w,o,k _ _ ho,hd⟩
 ·have hp':p∈X.pn++pins:=by simpa [wL] using hp
  obtain⟨a1,a2,a3,a4,a5⟩:=I.pin p hp';refine⟨k _ _ a1,a2,Nat.ne_of_lt (Heap.lt_size a1),λ z=>?_,a5⟩;rcases List.mem_cons.mp (I.iO _ z) with e | e
  ·exact a3 e
  ·exact a4 e
 ·show(aeO v fr σ).length=(vp X x fr).length;simp[aeO,vp]
def acr(H:Hp)(q x:Str)(params:Arguments)(body:Expr)(sc:Scope)(cl:List (Str×Addr))(pm:Value)(f:Addr):Prop:=
 ∃ c ctv oc vs t,H f=some (.frz (kla_obj "<lambda>" q params body sc cl pm c ctv) (.own 0))/\H c=some (.frz oc (.own 0))/\oc.data=.fields vs/\vs[1]? =some (.str q t)
theorem abg{k:Nat}{E:VP}{params:Arguments}{body:Expr}{pm:Value}{te:TE}{v:V}{u:Value}{Q:VK}(hr:cW (k+1) X.A)(hc:X.calm=true)(L:m9 X sc x fr)(c1:∀ n c,cl.lookup n=some c->X.env.cells.lookup n=some c)(c2:∀ n,(n,NameKind.free)∈sc.names->∃ c,cl.lookup n=some c)
  (hb:∀ cdv ctv u,bindArgs (kla_fn "<lambda>" q params body sc cl pm cdv ctv) ⟨[u],[]⟩=pure [(x,u)])
  (he:∀ c s H pl,cW k (wL X q sc (vp X x fr) cl f c s H pl).A->PE (wL X q sc (vp X x fr) cl f c s H pl) body te)
  (I:Inv X pins σ H s)(hf:acr H q x params body sc cl pm f)(rv:RelV v u)(h:te (aeO v fr σ) H Q):wpAny (model X.prog X.w) X.A (call (.ref f) [u]) (EP X pins σ Q) E s:=by
 obtain⟨c,ctv,oc,vs,t,h1,h2,h3,h4⟩:=hf;obtain⟨g1,_⟩:=I.hok f _ h1;obtain⟨g2,_⟩:=I.hok c _ h2;refine wpAny_call (W.kla_callFunE hr.depth g1 rfl L.co L.gen rfl ⟨c,oc,vs,t,rfl,g2,h3,h4⟩ ?_);rw[hb];refine wpAny_pure (wpAny_newFunctionEnv L.cell (λ y hy=>by rw[List.mem_singleton.mp hy];exact L.own) (λ h₁ hns hsb=>⟨(I.nolimit).fresh _ hsb,?_⟩) L.kind);have hk₁:∀ b o,s.heap.get? b=some o->h₁.get? b=some o:=λ b o e=>hsb.extBut b o (Nat.ne_of_lt (Heap.lt_size e)) (Heap.get?_push_of_some _ e);have J:=abX (q:=q) (f:=f) (c:=c) (tk:=s.toks+1) L hc I c1 c2 rv hns hk₁;have hr':cW k (wL X q sc (vp X x fr) cl f c s H pins).A:=hr.deeper _;refine W.kla_codeExpr (wpAny_mono (he c s H pins hr' [] _ _ _ _ J h) (λ u' s' hh=>?_) λ _ _ z=>z.elim);obtain⟨v',H',J',r',q'⟩:=hh;exact I.after ⟨v',H',J'.os,J'.bare,J'.base,J'.hok,r',q'⟩
end
section
variable {X:Cx}{pins:PN}{σ:St}{H:Hp}{s:Shared}
theorem Inv.abO{P:Addr}{ps more:Array Value}{h':Heap}{t':Nat}(I:Inv X pins σ H s)(hP:H P=some (.tbl ps))(k:∀ b u,b≠P->s.heap.get? b=some u->h'.get? b=some u)(e:h'.get? P=some {cls:=.none,data:=.fields (ps++more)}) :
  Inv X pins σ (upd H P (.tbl (ps++more))) {s with heap:=h',toks:=t'}:=by
 have nn:∀ b,H b=none->b≠P:=λ b n=>Ne.symm (aF hP n);have nt:∀ b xs,H b=some (.tup xs)->b≠P:=λ b xs q=>sh q hP (λ z=>nomatch z);have nf:∀ b o u,H b=some (.frz o u)->b≠P:=λ b o u q=>sh q hP (λ z=>nomatch z);have no:∀ b y,H b=some (.own y)->b≠P:=λ b y q=>sh q hP (λ z=>nomatch z);refine I.un ⟨λ b o q n _ _=>k b o (nn b n) q,λ b o q n _ _=>⟨o.slots,k b o (nn b n) q⟩,λ b o _ n _=>by rw[ah (nn b n)];exact n,λ b o q _=>?_,λ b xs q=>by rw[ah (nt b xs q)];exact q,λ b o u q=>by rw[ah (nf b o u q)];exact q,λ b qs q=>?_⟩ λ b u q=>?_
 ·by_cases hb:b=P
  ·subst hb;exact⟨_,e⟩
  ·exact⟨o,k b o hb q⟩
 ·by_cases hb:b=P
  ·subst hb;rw[hP] at q;cases q;exact⟨more,ao⟩
  ·exact⟨#[],by rw[ah hb,q];simp⟩
 ·by_cases hb:b=P
  ·subst hb;rw[ao] at q;cases q;exact e
  ·rw[ah hb] at q;exact(I.hok b u q).tE (λ c v hc r=>k c v (by rcases hc with z | z;rw[z];exact hb;exact no c _ z) r) (λ c r=>by rw[ah (no c _ r)];exact r) λ c xs r=>by rw[ah (nt c xs r)];exact r
theorem Inv.hold{D:Addr}{ob:Obj}(I:Inv X pins σ H s)(e:s.heap.get? D=some ob)(hn:H D=none)
  (h0:X.s₀.heap.objs.size<=D)(hL:D≠X.env.locals)(hc:∀ x c,X.env.cells.lookup x=some c->c≠D)(hp:∀ p∈X.pn++pins,p.1≠D):Inv X pins σ (upd H D (.frz ob (.own 0))) s:=by
 have ne:∀ b u,H b=some u->b≠D:=λ b u q=>aF q hn;refine I.step (h':=s.heap) (g':=s.gens) (d':=s.drawn) (t':=s.toks) (ch:=[D]) (λ b hb=>?_) (λ b o _ _ _ q _=>q) (λ b o _ _ _ q _=>⟨o.slots,q⟩) (λ b o hb q n=>?_) (λ b o _ q=>⟨o,q⟩)
  (λ b xs q=>by rw[ah (ne b _ q)];exact q) (λ b o u q=>by rw[ah (ne b _ q)];exact q) (λ b ps q=>⟨#[],by rw[ah (ne b _ q),q];simp⟩) (λ m hm=>hm) (λ b u q=>?_) I.bare
 ·have e:b=D:=by simpa using hb
  subst e;exact⟨.inr h0,hL,hc,hp⟩
 ·rw[ah (λ z=>hb (by simp[z]))];exact n
 ·by_cases hb:b=D
  ·subst hb;rw[ao] at q;cases q;exact⟨e,ob,e⟩
  ·rw[ah hb] at q;exact(I.hok b u q).tE (λ _ _ _ q=>q) (λ c r=>by rw[ah (ne c _ r)];exact r) λ c xs r=>by rw[ah (ne c _ r)];exact r
def afy(X:Cx)(sc:Scope)(cl:List (Str×Addr)):Prop:=(∀ n c,cl.lookup n=some c->X.env.cells.lookup n=some c)/\∀ n,(n,NameKind.free)∈sc.names->∃ c,cl.lookup n=some c
abbrev lV(ps:Array Value)(lpos:Pos)(c:Addr):Array Value:=ps ++ #[rawInt lpos.line,rawInt lpos.col,.ref c]
def agR(X:Cx)(P:Addr)(q:Str)(params:Arguments)(body:Expr)(sc:Scope)(lpos:Pos):TE:=λ σ H Q=>∃ ps,H P=some (.tbl ps)/\TriplesOk ps.toList /\
 ((codeAmong lpos ps.toList=none/\∀ c f oc vs t ctv cl,afy X sc cl->H c=none->H f=none->c≠f->oc.data=.fields vs->vs[1]? =some (.str q t) ->
   Q (.ref f) (upd (upd (upd H c (.frz oc (.own 0))) P (.tbl (lV ps lpos c))) f (.frz (kla_obj "<lambda>" q params body sc cl ((X.mg "__name__").getD .none) c ctv) (.own 0)))) \/
∃ c o vs t,codeAmong lpos ps.toList=some (.ref c)/\H c=some (.frz o (.own 0))/\o.data=.fields vs/\vs[1]? =some (.str q t)/\∀ f ctv cl,afy X sc cl->H f=none ->
   Q (.ref f) (upd H f (.frz (kla_obj "<lambda>" q params body sc cl ((X.mg "__name__").getD .none) c ctv) (.own 0))))
theorem adL{P cd:Addr}{params:Arguments}{body:Expr}{sc:Scope}{lpos:Pos}{x:Str}{fr:List Nat}(L:m9 X sc x fr)(hcode:X.env.code=.ref cd)(hcd:W.codeHdIn X.K cd P=true)(hdef:defaultsOf params X.env=([],[]):=by rfl) :
  PE X (.Lambda params body sc lpos) (agR X P (X.env.qual ++ "<lambda>") params body sc lpos):=by
 intro pins s σ H Q I h;obtain⟨ps,hP,ht,h⟩:=h;obtain⟨cl,hcl,c1,c2⟩:=iE (scope:=sc) (env:=X.env) λ y hy hf=>I.ok.has y.1 (L.free y hy hf);refine W.kla_eval hdef ?_;have hg:=I.ok.mod.glob.keeps I.bk;obtain⟨⟨bm,ob,b1,b2,b3,b4,b5,b6⟩,_⟩:=I.ok.mod.bm;have b3':=I.bk _ _ b3;have hPo:s.heap.get? P=some {cls:=.none,data:=.fields ps}:=I.hok P _ hP;have hgP:mainGlobals≠P:=λ z=>by obtain⟨o,es,ep,e,hd,_⟩:=hg;rw[z,hPo] at e;cases e;cases hd
 have hbP:bm≠P:=λ z=>by rw[z,hPo] at b3';cases b3';cases b4
 have hbG:bm≠mainGlobals:=λ z=>by obtain⟨o,es,ep,e,hd,_⟩:=hg;rw[z,e] at b3';cases b3';rw[hd] at b6;cases b6
 have C:=W.codeHd_of_K I.kIn hcd;rcases h with ⟨hnf,h⟩ | ⟨c,o,vs,t,hf,hc,hd,hv,h⟩
 ·refine W.kla_makeFunction (mg:=X.mg) hcl I.ok.glob hg hcode C hPo ht hnf hgP ⟨bm,ob,b1,b2,hbG,hbP,b3',b4,b5,b6⟩ λ c' ctv h' tk hx hge hlt hrec htb=>?_;obtain⟨c₂,oc,vs,t,e2,hoc,hd,hv⟩:=hrec;cases e2;have hcn:H c'=none:=I.hok.fresh hge;have hfn:H h'.objs.size=none:=I.hok.fresh (Nat.le_trans hge (Nat.le_of_lt hlt));have cP:c'≠P:=Ne.symm (aF hP hcn);have I1:=I.abO (t':=tk) hP (λ b u hb e=>hx b u hb e) htb;have I2:=I1.hold hoc (by rw[ah cP];exact hcn) (Nat.le_trans I.sz hge) (λ z=>by obtain⟨m,hn,_⟩:=I.loc;exact absurd (Nat.lt_of_lt_of_le hn.lt hge) (by rw[z];exact Nat.lt_irrefl _))
   (λ y c hy z=>by obtain⟨w,o,ho,_⟩:=I.cell y c hy;exact absurd (Nat.lt_of_lt_of_le (Heap.lt_size ho) hge) (by rw[z];exact Nat.lt_irrefl _))
   (λ p hp z=>by obtain⟨ho,_⟩:=I.pin p hp;exact absurd (Nat.lt_of_lt_of_le (Heap.lt_size ho) hge) (by rw[z];exact Nat.lt_irrefl _))
  have hsw:upd (upd H P (.tbl (lV ps lpos c'))) c' (.frz oc (.own 0))=upd (upd H c' (.frz oc (.own 0))) P (.tbl (lV ps lpos c')):=by
   funext b;unfold upd
   by_cases e1:b=c'
   ·rw[if_pos e1,if_neg (by rw[e1];exact cP),if_pos e1]
   ·rw[if_neg e1,if_neg e1]
  rw[hsw] at I2;have I3:=I2.laid (t':=tk) (o:=.frz (kla_obj "<lambda>" (X.env.qual ++ "<lambda>") params body sc cl ((X.mg "__name__").getD .none) c' ctv) (.own 0)) (h':=h'.push (kla_obj "<lambda>" (X.env.qual ++ "<lambda>") params body sc cl ((X.mg "__name__").getD .none) c' ctv)) (λ b u e=>Heap.get?_push_of_some _ e) (Nat.le_refl _) ⟨Heap.get?_push_size _ rfl,_,Heap.get?_push_size _ rfl⟩;exact⟨.ref _,_,I3,rfl,h c' h'.objs.size oc vs t ctv cl ⟨c1,c2⟩ hcn hfn (Nat.ne_of_lt hlt) hd hv⟩
 ·refine W.kla_makeFunctionHit (mg:=X.mg) hcl I.ok.glob hg hcode C hPo ht hf ⟨bm,ob,b1,b2,hbG,hbP,b3',b4,b5,b6⟩ λ ctv h' tk hk hsz=>?_;have I3:=(I.kept (t':=tk) hk).laid (t':=tk) (o:=.frz (kla_obj "<lambda>" (X.env.qual ++ "<lambda>") params body sc cl ((X.mg "__name__").getD .none) c ctv) (.own 0)) (h':=h'.push (kla_obj "<lambda>" (X.env.qual ++ "<lambda>") params body sc cl ((X.mg "__name__").getD .none) c ctv)) (λ b u e=>Heap.get?_push_of_some _ e) (Nat.le_refl _) ⟨Heap.get?_push_size _ rfl,_,Heap.get?_push_size _ rfl⟩;exact⟨.ref _,_,I3,rfl,h _ ctv cl ⟨c1,c2⟩ (I.hok.fresh hsz)⟩
end
def afc(X:Cx):Cx:={X with A:=X.A.in1}
theorem Inv.in1(I:Inv X pins σ H s):Inv (afc X) pins σ H s:=
 ⟨⟨I.ok.mod,I.ok.kind,I.ok.glob,I.ok.blt,I.ok.above,I.ok.inj,I.ok.has,I.ok.cab,I.ok.hd,I.ok.frames,I.ok.stk,I.ok.exf,I.ok.bs,I.ok.bsz,I.ok.noex,I.ok.exfs,I.ok.oZ,I.ok.frf⟩,I.os,I.bare,I.base,I.loc,I.cell,I.free,I.freeC,I.pin,I.hok,I.len⟩
theorem Inv.agE(I:Inv (afc X) pins σ H s):Inv X pins σ H s:=
 ⟨⟨I.ok.mod,I.ok.kind,I.ok.glob,I.ok.blt,I.ok.above,I.ok.inj,I.ok.has,I.ok.cab,I.ok.hd,I.ok.frames,I.ok.stk,I.ok.exf,I.ok.bs,I.ok.bsz,I.ok.noex,I.ok.exfs,I.ok.oZ,I.ok.frf⟩,I.os,I.bare,I.base,I.loc,I.cell,I.free,I.freeC,I.pin,I.hok,I.len⟩
theorem Inv.yo(I:Inv X pins σ H s)(f:jd X pins H it)(k:∀ b o,b≠it->s.heap.get? b=some o->h'.get? b=some o):Inv X pins σ H {s with heap:=h',toks:=t'}:=
 I.turned k f.1 f.2.1 f.2.2.2.1 f.2.2.2.2.1 f.2.2.2.2.2
theorem Inv.ahj(I:Inv X pins σ H s)(fa:jd X pins H a)(fb:jd X pins H b)(ea:s.heap.get? a=some oa)(eb:s.heap.get? b=some ob)(ca:∀ v,oa.data ≠ .cell v)(cb:∀ v,ob.data ≠ .cell v):Inv X ((a,oa)::(b,ob)::pins) σ H s:=
 I.dY λ p hp=>by
  rcases List.mem_cons.mp hp with e | hp
  ·subst e;exact⟨ea,fa.1,fa.2.1,fa.2.2.1,ca⟩
  rcases List.mem_cons.mp hp with e | hp
  ·subst e;exact⟨eb,fb.1,fb.2.1,fb.2.2.1,cb⟩
  ·exact I.pin p (List.mem_append_right _ hp)
theorem Inv.adj(I:Inv X ((a,oa)::(b,ob)::pins) σ H s):Inv X pins σ H s/\(s.heap.get? a=some oa/\H a=none)/\s.heap.get? b=some ob/\H b=none:=
 have pa:=I.pin (a,oa) (List.mem_append_right _ (.head _));have pb:=I.pin (b,ob) (List.mem_append_right _ (.tail _ (.head _)))
 ⟨I.dY λ p hp=>I.pin p (List.mem_append_right _ (.tail _ (.tail _ hp))),⟨pa.1,pa.2.1⟩,pb.1,pb.2.1⟩
end L2
namespace D
open L2
open PySem.W (kla_obj kla_fn)
def aaX(w:W)(fr:List Nat)(τ:DS):DS:=some w::fr.map λ j=>(τ[j]?).getD none
section
variable {X:Cx}{K:FG}
theorem aa9{H:Hp}{σ:St}{τ:DS}{M:MH}{v:V}{w:W}(A:Abs K H σ τ M)(r:aA K H w v)(fr:List Nat):Abs K H (aeO v fr σ) (aaX w fr τ) M:=(nF A 1 fr).set 0 r
theorem aae{M:MH}{a:Addr}{o:MO}(h:M a=some o):ax M a o=M:=by
 funext b
 by_cases e:b=a
 ·rw[e,aa,h]
 ·rw[ab e]
theorem sG{H:Hp}{M:MH}{P c:Addr}{ps:Array Value}{q:Str}{lpos:Pos}{oc:Obj}{vs:Array Value}{t:Tok}(m:cB K H M)(hP:M P=some (.code q lpos))(hT:H P=some (.tbl ps))(ht:TriplesOk ps.toList)(hn:codeAmong lpos ps.toList=none)(hc:H c=none)(hd:oc.data=.fields vs)(hv:vs[1]? =some (.str q t)) :
  Kp H (upd (upd H c (.frz oc (.own 0))) P (.tbl (lV ps lpos c)))/\cB K (upd (upd H c (.frz oc (.own 0))) P (.tbl (lV ps lpos c))) M:=by
 have cP:c≠P:=Ne.symm (aF hT hc);have hT':upd H c (.frz oc (.own 0)) P=some (.tbl ps):=by rw[ah (Ne.symm cP)];exact hT
 have k2:Kp (upd H c (.frz oc (.own 0))) (upd (upd H c (.frz oc (.own 0))) P (.tbl (lV ps lpos c))):=Kp.set hT' (λ _ z=>nomatch z) (λ _ _ z=>nomatch z);refine⟨(Kp.new hc).trans k2,?_⟩;have e:(lV ps lpos c).toList=ps.toList++[rawInt lpos.line,rawInt lpos.col,.ref c]:=by simp[lV]
 have:=(m.new (o:=.frz oc (.own 0)) hc).put (mo:=.code q lpos) k2 ⟨_,ao,by rw[e];exact TriplesOk_snoc _ _ _ _ ht,.inr ⟨c,oc,vs,t,by rw[e];exact codeAmong_snoc _ ht hn,by rw[ah cP,ao],hd,hv⟩⟩;rw[aae hP] at this;exact this
variable {P cd:Addr}{q x:Str}{lpos pos p kpos:Pos}{params:Arguments}{body o:Expr}{sc:Scope}{fr:List Nat}{to tb:TD}{k:Nat}
theorem acr.keep{H H':Hp}{q x:Str}{params:Arguments}{body:Expr}{sc:Scope}{cl:List (Str×Addr)}{pm:Value}{f:Addr}(h:acr H q x params body sc cl pm f)(kp:Kp H H'):acr H' q x params body sc cl pm f:=by obtain⟨c,ctv,oc,vs,t,h1,h2,h3,h4⟩:=h;exact⟨c,ctv,oc,vs,t,kp.frz _ _ _ h1,kp.frz _ _ _ h2,h3,h4⟩
end
end D
namespace L2
def ye(ts:List Addr)(H:Hp):Prop:=∀ b,H b=none\/(∃ o xs,H b=some (.frz o (.lst xs)))\/(b∈ts/\H b=some (.tbl #[]))
theorem uW{P:Program}{w:World}{K:FG}{mg mb:Str->Option Value}{CX:CXT}{k:Nat}{fa a:Addr}{fd:FuncData}{x:Str}{sp:Sp}{s₁:Shared}{vs:List Value}{ns:List Int}
  (KX:K.In s₁.heap)(hns:s₁.heap.Ns mainGlobals mg)(hb:s₁.heap.Ns builtinsNs mb)(hbb:∀ x:Str,x ≠ "__name__" -> mb x=bootBuiltins x)(hlim:s₁.heap.NoLimit)(hbm:BM mg s₁.heap)(hg:s₁.gens = #[])
  (ha:s₁.heap.get? a=some {cls:=.type "list",data:=.seq vs.toArray})(hi:IntsAre vs ns)(hl:ns.length<=sizeLine)(hr:cW k callerA)(ts:List Addr)(hts:∀ T∈ts,(∃ c,W.codeHdIn K c T=true)/\K.lookup T=none/\s₁.heap.get? T=some {cls:=.none,data:=.fields #[]})
  (F:∀ base:Heap,K.In base->base.Ns mainGlobals mg->cX P w K mg base CX k fa fd [x] sp)(hbind:∀ (s:Shared) (u:Value),BindsTo s fd ⟨[u],[]⟩ [(x,u)])
  (hsp:∀ H:Hp,ye ts H->(∀ T∈ts,H T=some (.tbl #[]))->SqL K H a (ns.map V.int)->sp [.ref a] H (λ v _=>v=.bl true) λ _ _ _=>False)
  (hCX:∀ H e s',CX [] H s₁ (λ _ _ _=>False) e s'->False) :
  codeAny (model P w) callerA (.call (.ref fa) ⟨[.ref a],[]⟩) (λ r s'=>r=.ok (.ret (.bool true))/\OldK s₁.heap s'.heap/\s'.os=s₁.os/\AllBare s'.gens) s₁:=by
 have rv:=oK hi;have lenV:=hi.length;have at':∀ T∈ts,T≠a:=λ T hT e=>by have h:=(hts T hT).2.2;rw[e,ha] at h;cases h
 have core:∀ H:Hp,ye ts H->(∀ T∈ts,H T=some (.tbl #[]))->SqL K H a (ns.map V.int)->HOk P w H s₁.heap->(∀ b,H b≠none->b=a\/b∈ts)->(H a≠none->K.lookup a=none) ->
   codeAny (model P w) callerA (.call (.ref fa) ⟨[.ref a],[]⟩) (λ r s'=>r=.ok (.ret (.bool true))/\OldK s₁.heap s'.heap/\s'.os=s₁.os/\AllBare s'.gens) s₁:=by
  intro H hO hTb hS hok hA hK;have gZ:∀ {b:Addr} {o:Obj},s₁.heap.get? b=some o->H b=none->(yL s₁.heap H).get? b=some o:=λ e n=>w5 e n;have noA:∀ {b:Addr} {o:Obj} {es:Array DictEntry} {ep:Nat},s₁.heap.get? b=some o->o.data=.dict es ep->H b=none:=λ {b o es ep} e d=>by
   cases q:H b with
   | none=>rfl
   | some u =>
    rcases hA b (by rw[q];simp) with e' | e'
    ·subst e';rw[ha] at e;cases e;have d':Data.seq vs.toArray _=Data.dict es ep:=d;cases d'
    ·rw[(hts b e').2.2] at e;cases e;have d':Data.fields _=Data.dict es ep:=d;cases d'
  have nsK:∀ {b:Addr} {m:Str->Option Value},s₁.heap.Ns b m->(yL s₁.heap H).Ns b m:=λ {b m} ⟨o,es,ep,e,d,r⟩=>⟨o,es,ep,gZ e (noA e d),d,r⟩;have hKb:K.In (yL s₁.heap H):=λ b o e=>gZ (KX b o e) (by
   cases q:H b with
   | none=>rfl
   | some u =>
    rcases hA b (by rw[q];simp) with e' | e'
    ·subst e';rw[hK (by rw[q];simp)] at e;cases e
    ·rw[(hts b e').2.1] at e;cases e)
  have hM:Mod K mg (yL s₁.heap H):=⟨hKb,nsK hns,⟨mb,nsK hb,hbb⟩,let ⟨mc,h1,h2⟩:=hlim; ⟨mc,nsK h1,h2⟩,let ⟨⟨b,o,h1,h2,h3,h4,h5,h6⟩,mm,hmm⟩:=hbm; ⟨⟨b,o,h1,h2,gZ h3 (by cases q:H b with | none=>rfl | some u=>(rcases hA b (by rw[q];simp) with e' | e'; (subst e';rw[ha] at h3;cases h3;cases h6); (rw[(hts b e').2.2] at h3;cases h3;cases h6))),h4,h5,h6⟩,mm,nsK hmm⟩⟩;have e0:abW P w K mg (yL s₁.heap H) callerA [] s₁ H:=⟨rfl,hM,λ b o e=>aao e,Nat.le_of_eq (vD _ _),trivial,λ b hb=>absurd (show b∈([]:List Addr) from hb) (by simp),hok,.of_eq hg⟩;refine codeAny_mono ((F _ hKb (nsK hns)).run callerA [] s₁ H ⟨[.ref a],[]⟩ [.ref a] [.ref a] _ _ hr e0 (hbind s₁ (.ref a)) (.cons rfl .nil) (hsp H hO hTb hS)) λ r s' h=>?_;cases r with
  | error e=>exact(hCX H e s' h).elim
  | ok fl =>
   cases fl with
   | next=>exact False.elim h
   | brk=>exact False.elim h
   | cont=>exact False.elim h
   | ret u =>
    obtain⟨v,H',os,bare,un,hok',r',q⟩:=h;have q':v=.bl true:=q;subst q';obtain rfl:u=Value.bool true:=r';have old:∀ b o,s₁.heap.get? b=some o->s'.heap.get? b=some o\/∃ more,b∈ts/\s'.heap.get? b=some {cls:=.none,data:=.fields (#[]++more)}:=λ b o e=>?_;refine⟨rfl,⟨λ b o e=>?_,λ b o e=>(old b o e).elim (λ z=>⟨_,z⟩) λ⟨_,_,z⟩=>⟨_,z⟩⟩,os,bare⟩
    ·rcases old b o e with z | ⟨more,hb,z⟩
     ·exact .inl z
     ·obtain⟨⟨c,hc⟩,_,h3⟩:=hts b hb;rw[h3] at e;cases e;exact .inr (.inl ⟨((W.codeHd_of_K KX hc).tab h3).isCodeTable,rfl,#[],more,rfl,z⟩)
    cases q:H b with
    | none=>exact .inl <| un.keep b o e q (by intro z;exact absurd (show b∈([]:List Addr) from z) (by simp)) (by simp)
    | some u =>
     rcases hO b with z | ⟨ob,xs,z⟩ | ⟨hb,z⟩
     ·rw[q] at z;cases z
     ·refine .inl ?_;have z2:=un.frzs b ob _ z;obtain⟨e1,_⟩:=hok b _ z;obtain⟨e2,_⟩:=hok' b _ z2;rw[e] at e1;cases e1;exact e2
     ·obtain⟨more,z2⟩:=un.tbls b _ z;exact .inr ⟨more,hb,hok' b _ z2⟩
 cases hk:K.lookup a with
 | some o =>
  have e:=KX a o hk;rw[ha] at e;cases e;refine core (λ b=>if b∈ts then some (.tbl #[]) else none) (λ b=>?_) (λ T hT=>if_pos hT) (.inr ⟨_,vs.toArray,_,hk,rfl,rfl,rfl,by rw[List.size_toArray,lenV];exact hl,by simpa using rv⟩) (λ b u z=>?_) (λ b z=>?_) λ z=>absurd (if_neg λ h=>at' a h rfl) z
  ·by_cases hb:b∈ts
   ·exact .inr (.inr ⟨hb,if_pos hb⟩)
   ·exact .inl (if_neg hb)
  ·by_cases hb:b∈ts
   ·have z':=(if_pos hb).symm.trans z;cases z';exact(hts b hb).2.2
   ·have z':=(if_neg hb).symm.trans z;cases z'
  ·by_cases hb:b∈ts
   ·exact .inr hb
   ·exact absurd (if_neg hb) z
 | none =>
  refine core (λ b=>if b=a then some (.frz {cls:=.type "list",data:=.seq vs.toArray} (.lst (ns.map V.int))) else if b∈ts then some (.tbl #[]) else none) (λ b=>?_) (λ T hT=>(if_neg (at' T hT)).trans (if_pos hT)) (.inl (.inr ⟨{cls:=.type "list",data:=.seq vs.toArray},if_pos rfl⟩)) (λ b u z=>?_) (λ b z=>?_) λ _=>hk
  ·by_cases hb:b=a
   ·exact .inr (.inl ⟨_,_,if_pos hb⟩)
   ·by_cases hb2:b∈ts
    ·exact .inr (.inr ⟨hb2,(if_neg hb).trans (if_pos hb2)⟩)
    ·exact .inl ((if_neg hb).trans (if_neg hb2))
  ·by_cases hb:b=a
   ·have z':=(if_pos hb).symm.trans z;cases z';subst hb;exact⟨ha,by rw[List.length_map];exact hl,vs,_,rv,ha⟩
   ·have z0:=(if_neg hb).symm.trans z
    by_cases hb2:b∈ts
    ·have z':=(if_pos hb2).symm.trans z0;cases z';exact(hts b hb2).2.2
    ·have z':=(if_neg hb2).symm.trans z0;cases z'
  ·by_cases hb:b=a
   ·exact .inl hb
   ·by_cases hb2:b∈ts
    ·exact .inr hb2
    ·exact absurd ((if_neg hb).trans (if_neg hb2)) z
theorem xO{l:W.OpenLaw}{n k:Nat}{q:Program}{loose:List Str}{XP:(Str->Option Value)->Heap->Prop}{YP:World->Heap->Prop}{d:DefRec}{K:Params->FG}{CX:World->CXT}{sp:World->Sp}{x:Str}
  (hq:importsNone q=true)(hn:l.most=some n)(hn2:n<=sizeLine)(hdf:d.params.defaults=[])(hr:cW k callerA)
  (ts:List Addr)(hT:∀ w:World,∀ T∈ts,(∃ c,W.codeHdIn (K w.params) c T=true)/\(K w.params).lookup T=none)(hY:∀ (w:World) (h:Heap),YP w h->(K w.params).In h/\∀ T∈ts,h.get? T=some {cls:=.none,data:=.fields #[]})
  (F:∀ (w:World) (mg:Str->Option Value) (fa:Addr) (h:Heap),(K w.params).In h->h.Ns mainGlobals mg->mg d.name=some (.ref fa) ->
   ∃ fd:FuncData,(∀ (s:Shared) (u:Value),BindsTo s fd ⟨[u],[]⟩ [(x,u)]) /\
    ∀ base:Heap,(K w.params).In base->base.Ns mainGlobals mg->cX l.prog w (K w.params) mg base (CX w) k fa fd [x] (sp w))
  (hsp:∀ (w:World) (H:Hp) (a:Addr) (ns:List Int),ns.length<=n->ye ts H->(∀ T∈ts,H T=some (.tbl #[]))->SqL (K w.params) H a (ns.map V.int)->sp w [.ref a] H (λ v _=>v=.bl true) λ _ _ _=>False)
  (hCX:∀ (w:World) (H:Hp) (s:Shared) (e:Value) (s':Shared),CX w [] H s (λ _ _ _=>False) e s'->False) :
  W.WalkO q loose XP YP l.row.toRowW d [] (λ f vs=>PySem.call f vs):=by
 refine Att.px hn hdf λ w s₀ s₁ mg mb fa o pm cd doc a vs ns G Y ho hd hcd hmg hobj hints hlen hg=>?_;obtain⟨KX,hTb⟩:=hY w _ Y;obtain⟨fd,hb,hF⟩:=F w mg fa _ KX G.T.g hmg;exact uW KX G.T.g G.T.b G.T.builtins G.T.nolimit (let ⟨bm,ob,b1,b2,b3,b4,b5,b6⟩:=G.T.bmain;let ⟨mm,hmm,_⟩:=(G.T.seer hq).mods; ⟨⟨bm,ob,b1,b2,b3,b4,b5,b6⟩,mm,hmm⟩) hg hobj hints (Nat.le_trans hlen hn2) hr ts (λ T h=>⟨(hT w T h).1,(hT w T h).2,hTb T h⟩) hF hb (λ H hO hB hS=>hsp w H a ns hlen hO hB hS) λ H e s'=>hCX w H s₁ e s'
end L2
namespace D
open L2
section
variable {P:Program}{w:World}{K:FG}{mg:Str->Option Value}{base:Heap}
theorem abz{x qual:Str}{st:Stmt}{f cd:Addr}{N ps:List Str}{k:Nat}{sp:SpD}{t:TSd}(F:Fun K x qual st f fd)(hcd:fd.code=.ref cd)(S:bu N ps (au st))(len:∀ ws M Q,sp ws M Q->ws.length=ps.length)
  (hbody:∀ (A:Around) (outer:List Env) (s:Shared) (H:Hp) (E:XK),cW k (A.deeper (envOfC qual (au st) s.heap.objs.size f (.ref cd)))->o8 (zP CX0 P w K mg base N qual (au st) f (.ref cd) A outer s H E).nox (aS st) t)
  (read:∀ ws M Q,sp ws M Q->t {nx:=λ _ M'=>Q (.d .none) M',rt:=Q} (bO N ws) M):cX P w K mg base CX0 (k+1) f fd ps (dR K sp):=by
 obtain⟨oc,od,kV,doc,pm,an,cdv,ct,osl,e,lk,hcdv⟩:=F.ex;subst e;have e2:cdv=.ref cd:=hcd;subst e2;refine ac5 lk hcdv S (λ vs H Q E h=>?_) (λ A outer s H vs Q E hr h=>?_)
 ·obtain⟨ws,M,Qd,r,_,q,_⟩:=h;rw[<- r.length];exact len _ _ _ q
 ·obtain⟨ws,M,Qd,r,m,q,kk⟩:=h;refine⟨_,(hbody A outer s H E hr).nox,bO N ws,M,_,oR r m,read ws M Qd q,λ σ' H' τ' M' kp A' q'=>?_,λ v H' w' M' kp r' m' q'=>?_,λ σ' H' τ' M' kp A' q'=>q'.elim,λ σ' H' τ' M' kp A' q'=>q'.elim⟩
  ·exact kk _ H' _ M' kp (by simp[aA,ay]) A'.mem q'
  ·exact kk v H' w' M' kp r' m' q'
end
def M1T(T:Addr)(q:Str)(lpos:Pos):MH:=λ b=>if b=T then some (.code q lpos) else none
theorem sI{K:FG}{H:Hp}{a T:Addr}{q:Str}{lpos:Pos}{ns:List Int}{sp:SpD}(hl:ns.length<=63)(hO:L2.ye [T] H)(hT:∀ x∈[T],H x=some (.tbl #[]))(hS:L2.SqL K H a (ns.map V.int))(h:∀ ns:List Int,ns.length<=63->sp [.d (.list (ns.map PyData.int))] (M1T T q lpos) (λ w _=>w=.d (.bool true))) :
  dR K sp [.ref a] H (λ v _=>v=.bl true) λ _ _ _=>False:=by
 refine⟨[.d (.list (ns.map PyData.int))],M1T T q lpos,_,.cons ?_ .nil,λ a o z=>?_,h ns hl,λ v H' w M' kp r m q=>?_⟩
 ·simp only[aA,ay];refine⟨a,_,rfl,?_,aQ.ints ns⟩;rcases hS with (h | h) | h
  ·rcases hO a with z | ⟨ob,xs,z⟩ | ⟨_,z⟩
   ·rw[h] at z;cases z
   ·rw[h] at z;cases z
   ·rw[h] at z;cases z
  ·exact .inl h
  ·exact .inr h
 ·unfold M1T at z
  split at z
  ·cases z
   rename_i e
   subst e;exact⟨#[],hT _ (by simp),trivial,.inl rfl⟩
  ·cases z
 ·subst q;simp only[aA,ay] at r;exact r
def zC(sc scX:Scope)(x:Str)(N:List Str)(fr:List Nat):Bool:=
 (sc.kind==.function)&&!sc.isCoroutine&&!sc.isGenerator&&sc.names.all (λ y=>!(y.2==.cell))&&sc.names.all (λ y=>!(y.2==.free) || scX.names.lookup y.1==some .cell || scX.names.lookup y.1==some .free) &&
  (sc.names.lookup x==some .local)&&aez N sc fr
theorem agn(h:zC sc X.env.scope x X.N fr=true):m9 X sc x fr:=by
 simp only[zC,Bool.and_eq_true,Bool.not_eq_true'] at h;obtain⟨⟨⟨⟨⟨⟨h1,h2⟩,h3⟩,h4⟩,h5⟩,h6⟩,h7⟩:=h;refine⟨eq_of_beq h1,h2,h3,λ y hy e=>?_,λ y hy e=>?_,eq_of_beq h6,h7⟩
 ·have:=List.all_eq_true.mp h4 y hy;simp[e] at this
 ·have:=List.all_eq_true.mp h5 y hy;simp only[e,beq_self_eq_true,Bool.not_true,Bool.false_or,Bool.or_eq_true] at this;rcases this with z | z
  ·exact .inl (eq_of_beq z)
  ·exact .inr (eq_of_beq z)
section
variable {X:Cx}{K:FG}
variable {o e:Expr}{to:TE}{td te:TD}{apos cpos p pos:Pos}
theorem tj(hc:X.calm=true):fc X (.type "list") (λ xs H Q=>∃ a kvs,∃ zs:List Str,xs=[.ref a]/\Rd H a (.dK kvs)/\kvs.map (·.1)=zs.map Sum.inr/\∀ l,H l=none->Q (.ref l) (upd H l (.lst (zs.map V.str)))):=by
 intro pins s σ H xs us Q I r h;obtain⟨a,kvs,zs,rfl,hq,hk,q⟩:=h;obtain⟨u,rfl,rx⟩:=vals1 r;cases rx;obtain⟨hsz,hsys,vs,rel,o,es,ep,hd⟩:=hq.ok I.hok;have hvs:vs.map (·.1)=zs.map Sum.inr:=by
  rw[<- hk];clear hk hd hq hsz
  induction rel with
  | nil=>rfl
  | cons r t ih=>simp only[List.map_cons,ih,r.1]
 have hln:vs.length=zs.length:=by simpa using congrArg List.length hvs
 have hkl:kvs.length=zs.length:=by simpa using congrArg List.length hk
 refine W.kdl_call (W.kdl_dict (knd:=aV X.prog X.w) (kvs:=vs) (ep:=ep) hsys) (I.ok.hd hc) ⟨o,es,hd⟩ (by omega) λ h' tk acc c old hnew hacc=>?_;have hla:acc.toList.length=vs.length:=by rw[Array.length_toList];exact hacc.1
 have hS:StrsAre acc.toList zs:=n0 hvs hla λ j v hj=>hacc.2 j v (by rw[<- Array.getElem?_toList];exact hj);exact⟨.ref _,_,I.laid (t':=tk) old (Nat.le_refl _) (show cF X.prog X.w _ h' _ (.lst (zs.map V.str)) from⟨by rw[List.length_map];omega,acc.toList,c,nZ hS,by rw[Array.toArray_toList];exact hnew⟩),rfl,q _ (I.hok.fresh (Nat.le_refl _))⟩
def uB(ws:List W)(M:MH)(Q:QD):Prop:=∃ a kvs,∃ zs:List Str,ws=[.m a]/\M a=some (.dic kvs)/\kvs.map (·.1)=zs.map Sum.inr/\∀ p,M p=none->Q (.m p) (ax M p (.lst (mE zs)))
theorem yf:fK K (λ xs H Q=>∃ a kvs,∃ zs:List Str,xs=[.ref a]/\Rd H a (.dK kvs)/\kvs.map (·.1)=zs.map Sum.inr/\∀ l,H l=none->Q (.ref l) (upd H l (.lst (zs.map V.str)))) uB:=by
 intro vs H ws M Qd Q r m ⟨a,kvs,zs,e,g,hk,q⟩ k;subst e;obtain⟨v,e1,r1⟩:=eB r;have ev:v=.ref a:=r1;subst ev;obtain⟨l,el,pr⟩:=m _ _ g;refine⟨a,l,zs,e1,.inl el,?_,λ p hp=>?_⟩
 ·rw[<- hk];clear hk el g
  induction pr with
  | nil=>rfl
  | cons r t ih=>simp only[List.map_cons,ih,r.1]
 ·have kp:Kp H (upd H p (.lst (zs.map V.str))):=Kp.new hp;exact k _ _ (.m p) _ kp rfl (m.put (mo:=.lst (mE zs)) kp ⟨_,ao,nV zs⟩) (q p (m.free hp))
end
end D
set_option maxHeartbeats 0
namespace D
open L2
section
variable {X:Cx}{a b:Expr}{rest:List Expr}{pos:Pos}{ta tb:TE}
end
section
variable {X:Cx}{K:FG}{e:Expr}{te:TE}{p pos kpos kp:Pos}{j:Nat}
end
section
variable {X:Cx}{a b o e:Expr}{rest:List Expr}{ta tb td te:TD}{apos cpos p pos kpos kp:Pos}{j:Nat}
end
section
variable {X:Cx}{K:FG}{pins:PN}{σ:St}{H:Hp}{s:Shared}
end
section
variable {K:FG}
end
abbrev PFn(K:FG)(x:Str)(st:Stmt):Prop:=∃ (f:Addr) (oc kV dc pm cd ct:Value) (od an:Option Addr) (sl:Array (Option Value)),W.nsIn K mainGlobals x=some (some (.ref f))/\K.lookup f=some ⟨oc,od,.func (W.fnOf x x (bo st) (aS st) (au st) .none kV dc pm an cd ct),sl⟩/\W.codeIn K cd x=true/\W.keepIn K (.ref f)=true
abbrev PMf(K:FG)(C:Addr)(m x:Str)(st:Stmt):Prop:=∃ (f:Addr) (oc kV dc pm cd ct:Value) (od an:Option Addr) (sl:Array (Option Value)),W.findIn K (.ref C) m=some (some (.ref f))/\W.isFn K (.ref f)=true/\K.lookup f=some ⟨oc,od,.func (W.fnOf m x (bo st) (aS st) (au st) .none kV dc pm an cd ct),sl⟩/\W.codeIn K cd x=true/\W.keepIn K (.ref f)=true
theorem aeB{K:FG}{x:Str}{st:Stmt}{f:Addr}{oc kV dc pm cd ct:Value}{od an:Option Addr}{sl:Array (Option Value)}(a:W.nsIn K mainGlobals x=some (some (.ref f)))(l:K.lookup f=some ⟨oc,od,.func (W.fnOf x x (bo st) (aS st) (au st) .none kV dc pm an cd ct),sl⟩)(c:W.codeIn K cd x=true)(k:W.keepIn K (.ref f)=true):PFn K x st:=⟨_,_,_,_,_,_,_,_,_,_,a,l,c,k⟩
theorem ado{K:FG}{C:Addr}{m x:Str}{st:Stmt}{f:Addr}{oc kV dc pm cd ct:Value}{od an:Option Addr}{sl:Array (Option Value)}(a:W.findIn K (.ref C) m=some (some (.ref f)))(i:W.isFn K (.ref f)=true)(l:K.lookup f=some ⟨oc,od,.func (W.fnOf m x (bo st) (aS st) (au st) .none kV dc pm an cd ct),sl⟩)(c:W.codeIn K cd x=true)(k:W.keepIn K (.ref f)=true):PMf K C m x st:=⟨_,_,_,_,_,_,_,_,_,_,a,i,l,c,k⟩
theorem PFn.fn{K:FG}{h:Heap}{mg:Str->Option Value}{x:Str}{st:Stmt}{ps:List Str}(p:PFn K x st)(X:K.In h)(G:h.Ns mainGlobals mg)
  (b:∀ (kV doc pm:Value) (an:Option Addr) (cdv ct:Value) (us:List Value),us.length=ps.length->bindArgs (W.fnOf x x (bo st) (aS st) (au st) .none kV doc pm an cdv ct) ⟨us,[]⟩=pure (ps.zip us)):∃ f fd,Fn K mg x st ps f fd:=
 let ⟨f,_,_,_,_,_,_,_,_,_,a,l,c,k⟩:=p; ⟨f,_,xv X G a l c k b⟩
theorem PMf.mf{K:FG}{C:Addr}{m x:Str}{st:Stmt}{ps:List Str}(p:PMf K C m x st)
  (b:∀ (kV doc pm:Value) (an:Option Addr) (cdv ct:Value) (us:List Value),us.length=ps.length->bindArgs (W.fnOf m x (bo st) (aS st) (au st) .none kV doc pm an cdv ct) ⟨us,[]⟩=pure (ps.zip us)):∃ f fd,Mf K C m x st ps f fd:=
 let ⟨f,_,_,_,_,_,_,_,_,_,a,i,l,c,k⟩:=p; ⟨f,_,adE a i l c k b⟩
abbrev ZZ(P:Program)(w:World)(K:FG)(mg:Str->Option Value)(base:Heap)(F:Addr->FuncData->Prop)(n:Nat)(ps:List Str)(sp:SpD):Prop:=∃ f fd,F f fd/\cX P w K mg base CX0 n f fd ps (dR K sp)
end D
namespace L2
section
variable {P:Program}{w:World}{K:FG}{mg:Str->Option Value}{base:Heap}
end
end L2
namespace D
open L2
section
variable {P:Program}{w:World}{K:FG}{mg:Str->Option Value}{base:Heap}
end
open XO
section
variable {X:Cx}{K:FG}
end
end D
namespace PySem.AutoSeq1
open PySem.MeetsSeq PySem.MeetsSeq2 PySem.MeetsSeq3 PyProof.Rows
end PySem.AutoSeq1
namespace D
open L2
section
variable {P:Program}{w:World}{K:FG}{mg:Str->Option Value}{base:Heap}
end
end D
namespace PySem.AutoSeq1
open PySem.MeetsSeq PySem.MeetsSeq2 PySem.MeetsSeq3 PyProof.Rows
end PySem.AutoSeq1
namespace D
open L2
section
variable {X:Cx}{K:FG}
end
end D
namespace XO
open PySem.W
section
variable {prog:Program}{w:World}{A:Around}{E:VP}{s:Shared}{K:Frag}{env:PySem.Env}{e h0 C0:Addr}{dct0:Option Addr}{vs0:Array Value}
end
end XO
namespace L2
open XO
section
variable {P:Program}{w:World}{K:FG}{mg:Str->Option Value}{base:Heap}{C f:Addr}{fd:FuncData}{qual:Str}{st:Stmt}
end
end L2
namespace D
open L2 XO
section
variable {X:Cx}{pos p cpos:Pos}{k:Nat}{f C:Addr}{fd:FuncData}{ps fs:List Str}{x:Str}{e:Expr}{es:List Expr}{t:TAd}{E:XE}
variable {body suite:List Stmt}{b0:Stmt}{hs:List ExceptHandler}{th rest:Addr->TSd}{np hpos:Pos}
end
section
variable {X:Cx}{pos p cpos:Pos}{k:Nat}{f C:Addr}{fd:FuncData}{ps fs:List Str}{x:Str}{e:Expr}{es:List Expr}{t:TAd}{E:XE}
variable {suite:List Stmt}{b0:Stmt}{hs:List ExceptHandler}{rest:Addr->TSd}{np hpos:Pos}
end
section
variable {X:Cx}{K:FG}
variable {o e:Expr}{td te:TD}{apos cpos:Pos}
end
section
variable {X:Cx}{o i:Expr}{td ti:TD}{tpos pos:Pos}
end
end D
namespace L2
section
variable {X:Cx}{CX:CXT}{k:Nat}{f C:Addr}{fd:FuncData}{ps:List Str}{sp:Sp}{E:XK}{pins:PN}{σ:St}{H:Hp}{s:Shared}{Q:VK}{us:List Value}{vs:List V}{dvs:List V}{ds:List Value}
end
end L2
namespace D
open L2 XO
section
variable {X:Cx}{pins:PN}{σ:St}{H:Hp}{s:Shared}{a:Addr}{kvs:List (Str×Addr)}
end
section
variable {X:Cx}{e:Expr}{a:Addr}{x:Str}{kvs:List (Str×Addr)}{pos p apos cpos:Pos}{ty:TE}{te:TD}
end
section
variable {X:Cx}{pos p apos:Pos}{k:Nat}{f C:Addr}{fd:FuncData}{ps:List Str}{sp:SpX}{x m dz:Str}{e o:Expr}{es:List Expr}{t:TAd}{td:TD}{E:XE}
end
section
variable {X:Cx}{e o i:Expr}{a:Addr}{x m dz:Str}{kvs:List (Str×Addr)}{pos p apos cpos tpos:Pos}{te td ti:TD}{k:Nat}{f C:Addr}{fd:FuncData}{ps:List Str}{sp:SpX}{es:List Expr}{t:TAd}{E:XE}
end
end D
namespace L2
section
variable {X:Cx}{CX:CXT}{k:Nat}{f C:Addr}{fd:FuncData}{ps:List Str}{sp:Sp}{E:XK}{pins:PN}{σ:St}{H:Hp}{s:Shared}{Q:VK}{us:List Value}{vs:List V}{v:V}{u:Value}{kn:Str}
end
end L2
namespace D
open L2 XO
section
variable {X:Cx}{pos p apos kpos:Pos}{k:Nat}{f C:Addr}{fd:FuncData}{ps:List Str}{sp:SpX}{m kn:Str}{e o g:Expr}{es:List Expr}{t:TAd}{td tk:TD}{E:XE}
end
section
variable {X:Cx}{pos p apos kpos:Pos}{k:Nat}{f C:Addr}{fd:FuncData}{ps:List Str}{sp:SpX}{m kn:Str}{e o g:Expr}{es:List Expr}{t:TAd}{td tk:TD}{E:XE}
end
open S
section
variable {X:Cx}{pins:PN}{σ:St}{H H':Hp}{s:Shared}{h':Heap}
end
section
variable {X:Cx}{o:Expr}{to:TE}{apos cpos p pos:Pos}
end
section
variable {X:Cx}{o:Expr}{td:TD}{apos cpos p pos:Pos}
end
end D
namespace L2
theorem cW.m{j k:Nat}{A:PySem.Around}(r:cW k A)(h:j<=k:=by decide):cW j A:=r.mono h
end L2
namespace D
open L2
abbrev dS(z:Str):TD:=dC (.d (.str z))
abbrev dI(n:Int):TD:=dC (.d (.int n))
section
variable {prog:Program}{w:World}{A:Around}{E:VP}{s:Shared}{x y:Str}{t u v:Tok}{k:Int}{Q:VP}
end
section
variable {X:Cx}{K:FG}
variable {o e e':Expr}{td te tn:TD}{apos cpos:Pos}
end
section
variable {X:Cx}{e f:Expr}{a:Addr}{x:Str}{kvs:List (Str×PyData)}{pos p apos cpos:Pos}{ty tx:TE}{te tf:TD}
end
end D
namespace XO
open PySem.W
section
variable {M:Model}{A:Around}{E:VP}{s:Shared}{base:Heap}{env:PySem.Env}{outer:List PySem.Env}{L e C T:Addr}{dct:Option Addr}{vs:Array Value}
end
end XO
namespace D
open L2 XO
section
variable {X:Cx}{pins:PN}{σ:St}{H:Hp}{s:Shared}{a T:Addr}
end
section
variable {P:Program}{w:World}{K:FG}{mg:Str->Option Value}{base:Heap}
end
end D
namespace L2
open XO D
section
variable {prog:Program}{w:World}{A:Around}{E:VP}{R:Result->Shared->Prop}{s:Shared}
end
section
variable {X:Cx}{pins:PN}{σ:St}{H:Hp}{s:Shared}
end
section
variable {X:Cx}{pins:PN}{σ:St}{H:Hp}{s:Shared}{sc:Scope}{own:List Str}{fr:List Nat}{cl:List (Str×Addr)}{fp:List Addr}{it:Addr}{J:It}{tn:Nat->Heap->Prop}{g:TG}{tt:TT}{te:TE}{W:LcW}{Fin:List V->Hp->Prop}
 {elt tg iter:Expr}{ifs:List Expr}{pos:Pos}{E:VP}
end
end L2
namespace D
open L2 XO
section
variable {K:FG}
end
section
variable {X:Cx}{sc:Scope}{own:List Str}{fr:List Nat}{tg elt iter:Expr}{ifs:List Expr}{pos:Pos}{di:TId}{g:TGd}{tt:TTd}{te:XE->TD}{E:XE}
end
section
variable {P:Program}{w:World}{K:FG}{mg:Str->Option Value}{base:Heap}
end
variable {X:Cx}{sc:Scope}{own:List Str}{fr:List Nat}{tg elt iter:Expr}{ifs:List Expr}{pos:Pos}{di:TId}{g:TGd}{tt:TTd}{te:XE->TD}{E:XE}
end D
namespace D
open L2 S PySem.W
def rp(X:Cx):Cx:=afc (afc X)
section
variable {X:Cx}{pins:PN}{σ:St}{f a kS:Addr}{xs:List V}{us:List Value}{e1:Nat}
theorem Inv.yF{H:Hp}{s:Shared}{D:Addr}{vs:List V}{its:List Value}{n:Nat}(I:Inv X pins σ H s)(e:s.heap.get? D=some (seqObj "list" its.toArray n))(f:jd X pins H D)(hl:vs.length<=sizeLine)(rv:Vals vs its):Inv X pins σ (upd H D (.lst vs)) s:=by
 have hn:=f.1;have ne:∀ b u,H b=some u->b≠D:=λ b u q=>aF q hn;refine I.step (h':=s.heap) (g':=s.gens) (d':=s.drawn) (t':=s.toks) (ch:=[D]) (λ b hb=>?_) (λ b o _ _ _ q _=>q) (λ b o _ _ _ q _=>⟨o.slots,q⟩) (λ b o hb q n=>?_) (λ b o _ q=>⟨o,q⟩)
  (λ b xs q=>by rw[ah (ne b _ q)];exact q) (λ b o u q=>by rw[ah (ne b _ q)];exact q) (λ b ps q=>⟨#[],by rw[ah (ne b _ q),q];simp⟩) (λ m hm=>hm) (λ b u q=>?_) I.bare
 ·have e:b=D:=by simpa using hb
  subst e;exact⟨f.2.2.2.1,f.2.1,f.2.2.2.2.1,f.2.2.2.2.2⟩
 ·rw[ah (λ z=>hb (by simp[z]))];exact n
 ·by_cases hb:b=D
  ·subst hb;rw[ao] at q;cases q;exact⟨hl,its,n,rv,e⟩
  ·rw[ah hb] at q;exact(I.hok b u q).tE (λ _ _ _ q=>q) (λ c r=>by rw[ah (ne c _ r)];exact r) λ c xs r=>by rw[ah (ne c _ r)];exact r
end
section
variable {X:Cx}{pins:PN}{σ:St}{f d:Addr}
theorem xA{lt:Nat->Nat->Bool}{xs:List V}{us:List Value}(rx:Vals xs us):Vals ((df lt us.length).map λ i=>xs.getD i .non) ((df lt us.length).map λ i=>us.getD i Value.none):=by
 have hl:=rx.length;have main:∀ is:List Nat,(∀ i∈is,i<us.length)->Vals (is.map λ i=>xs.getD i .non) (is.map λ i=>us.getD i Value.none):=by
  intro is
  induction is with
  | nil=>intro _;exact .nil
  | cons i is ih =>
   intro hi;refine .cons ?_ (ih λ j hj=>hi j (by simp[hj]));have h1:=hi i (by simp);obtain⟨u,e1,e2⟩:=Vals.get (i:=i) (x:=xs.getD i .non) rx (by simp[List.getD_eq_getElem?_getD,List.getElem?_eq_getElem (show i<xs.length by omega)]);have e3:us.getD i Value.none=u:=by rw[List.getD_eq_getElem?_getD,e1];rfl
   show RelV (xs.getD i .non) (us.getD i Value.none);rw[e3];exact e2
 refine main _ λ i hi=>?_
 simpa using (mT _ _).mem_iff.mp hi
end
open PySem.W (kla_obj kla_fn)
section
variable {X:Cx}{K:FG}
variable {P cd:Addr}{q x:Str}{lpos pos p kpos:Pos}{params:Arguments}{body o:Expr}{sc:Scope}{fr:List Nat}{to tb:TD}{k:Nat}
end
section
variable {X:Cx}{K:FG}
end
open XO
section
variable {X:Cx}{pins:PN}{σ:St}{H:Hp}{s:Shared}{CX:List Env->Hp->Shared->XK->VP}{k:Nat}{f:Addr}{fd:FuncData}{ps:List Str}
end
section
variable {X:Cx}{pos p:Pos}{k:Nat}{f:Addr}{fd:FuncData}{ps:List Str}{sp:SpX}{x:Str}{e:Expr}{es:List Expr}{t:TAd}{E:XE}{d:Int}
end
section
variable {X:Cx}{K:FG}
end
section
variable {X:Cx}{K:FG}
end
section
variable {X:Cx}{o e:Expr}{td te:TD}{apos cpos:Pos}
end
section
variable {X:Cx}{K:FG}
end
section
variable {prog:Program}{w:World}{A:Around}{R:Result->Shared->Prop}{I:Addr}{fp wr:List Addr}{G:Array GenState->Array GenState->Prop}{ks:List Str}{P:Nat->Value->Prop}{St:Nat->Shared->Prop}
end
section
variable {prog:Program}{w:World}{A:Around}{E:VP}{s:Shared}
end
open L2
section
variable {X:Cx}{K:FG}{e:Expr}{to:TE}{td:TD}{p1 p2 pos1 pos2:Pos}
end
section
variable {prog:Program}{w:World}{A:Around}{E:VP}{s:Shared}{a₀:Array Keyed}
theorem yq{vs:List Value}{ns:List Int}(h:IntsAre vs ns):∀ (i:Nat) (n:Int),ns[i]? =some n->∃ t,vs[i]? =some (.int n t):=by
 induction h with
 | nil=>intro i n e;simp at e
 | cons _ _ _ ih =>
  intro i n e;cases i with
  | zero=>cases e;exact⟨_,rfl⟩
  | succ i=>exact ih i n (by simpa using e)
theorem vo{vs:List Value}{ns:List Int}(h:IntsAre vs ns):vs.length=ns.length:=by
 induction h with
 | nil=>rfl
 | cons _ _ _ ih=>rw[List.length_cons,List.length_cons,ih]
end
section
variable {X:Cx}{K:FG}
end
local macro_rules | `(tactic| walk_at "op_gallop")=>`(tactic| unfold $(Lean.mkIdent (Lean.mkPrivateNameCore `PySem.Builtin.List.W1All `PySem.Builtin.gallop)):ident)
def fF:Bool->Keyed->Array Keyed->Nat->Nat->Nat->StateT SortSt Sem (Option Nat):=sortPriv% PySem.Builtin.gallop
section
variable {prog:Program}{w:World}{A:Around}{E:VP}{s:Shared}{st:SortSt}
def dZ(l:Bool)(k:Keyed)(a:Array Keyed)(i:Nat):StateT SortSt Sem (Option Bool):=do
 let x <- elem' a i
 if l=true then lt' x k else do
  let r <- lt' k x
  pure (r.map (!·))
theorem uO{l:Bool}{k:Keyed}{a:Array Keyed}{b n p:Nat}(hb:∀ i,i<n->∀ R:Option Bool->SortSt->Prop,R (some (decide (i<p))) st->wpS (model prog w) A E s (dZ l k a (b+i)) R st)
  (lo hi:Nat)(h1:lo<=p)(h2:p<=hi)(h3:hi<=n):wpS (model prog w) A E s (forIn [0:n] ((none,lo,hi):Option (Option Nat)×Nat×Nat) λ _ c =>
   if c.2.1 >= c.2.2 then pure (ForInStep.done (none,c.2.1,c.2.2)) else (do
    let x <- dZ l k a (b+(c.2.1+(c.2.2-c.2.1) / 2))
    match x with
    | some more=>if more=true then pure (ForInStep.yield (none,c.2.1+(c.2.2-c.2.1) / 2+1,c.2.2)) else pure (ForInStep.yield (none,c.2.1,c.2.1+(c.2.2-c.2.1) / 2))
    | _=>pure (ForInStep.done (some none,c.2.1,c.2.2)))) (λ c t=>t=st/\c=(none,p,p)) st:=by
 refine wpS_forRange (I:=λ x c t=>t=st/\c.1=none/\c.2.1<=p/\p<=c.2.2/\c.2.2<=n/\c.2.2-c.2.1<=n-x) ?_ ?_ ⟨rfl,rfl,h1,h2,h3,by dsimp only;omega⟩
 ·rintro x ⟨c1,c2,c3⟩ t _ hx ⟨et,ec,g1,g2,g3,g4⟩;rw[et];clear et t;dsimp only at ec g1 g2 g3 g4 ⊢;subst ec
  by_cases z:c2 >= c3
  ·rw[if_pos z];refine wpS_pure ⟨rfl,?_⟩;have e1:c2=p:=by omega
   have e2:c3=p:=by omega
   rw[e1,e2]
  ·rw[if_neg z];refine wpS_bind (hb _ (by omega) _ ?_);dsimp only
   by_cases y:c2+(c3-c2) / 2<p
   ·rw[decide_eq_true y,if_pos rfl];exact wpS_pure ⟨rfl,rfl,by dsimp only;omega,by dsimp only;omega,by dsimp only;omega,by dsimp only;omega⟩
   ·rw[decide_eq_false y,if_neg (by decide)];exact wpS_pure ⟨rfl,rfl,by dsimp only;omega,by dsimp only;omega,by dsimp only;omega,by dsimp only;omega⟩
 ·rintro⟨c1,c2,c3⟩ t ⟨et,ec,g1,g2,g3,g4⟩;dsimp only at ec g1 g2 g3 g4;subst ec;refine⟨et,?_⟩;have e1:c2=p:=by omega
  have e2:c3=p:=by omega
  rw[e1,e2]
theorem eJ{l:Bool}{k:Keyed}{a:Array Keyed}{b n h p:Nat}{Q:Option Nat->SortSt->Prop}(hh:h<n)(hp:p<=n)
  (hb:∀ i,i<n->∀ R:Option Bool->SortSt->Prop,R (some (decide (i<p))) st->wpS (model prog w) A E s (dZ l k a (b+i)) R st)
  (q:Q (some p) st):wpS (model prog w) A E s (fF l k a b n h) Q st:=by
 have fin:∀ lo hi:Nat,lo<=p->p<=hi->hi<=n->wpS (model prog w) A E s (forIn [0:n] ((none,lo,hi):Option (Option Nat)×Nat×Nat) λ _ c =>
   if c.2.1 >= c.2.2 then pure (ForInStep.done (none,c.2.1,c.2.2)) else (do
    let x <- dZ l k a (b+(c.2.1+(c.2.2-c.2.1) / 2))
    match x with
    | some more=>if more=true then pure (ForInStep.yield (none,c.2.1+(c.2.2-c.2.1) / 2+1,c.2.2)) else pure (ForInStep.yield (none,c.2.1,c.2.1+(c.2.2-c.2.1) / 2))
    | _=>pure (ForInStep.done (some none,c.2.1,c.2.2)))) (λ c t=>t=st/\c=(none,p,p)) st:=uO hb
 unfold fF
 walk_at "op_gallop"
 dsimp only;refine wpS_bind (hb h hh _ ?_);dsimp only
 by_cases y:h<p
 ·rw[decide_eq_true y,if_pos rfl];refine wpS_bind (wpS_mono (wpS_forRange (I:=λ x c t=>t=st/\c.1=none/\h+c.2.1<p/\c.2.1<c.2.2/\x<=c.2.1+1) (Q:=λ c t=>t=st/\c.1=none/\h+c.2.1<p/\p<=h+min c.2.2 (n-h)) ?_ ?_ ⟨rfl,rfl,by dsimp only;omega,by dsimp only;omega,by dsimp only;omega⟩) ?_)
  ·rintro x ⟨c1,c2,c3⟩ t _ hx ⟨et,ec,g1,g2,g3⟩;rw[et];clear et t;dsimp only at ec g1 g2 g3 ⊢;subst ec
   by_cases z:c3 >= n-h
   ·rw[if_pos z];exact wpS_pure ⟨rfl,rfl,g1,by dsimp only;omega⟩
   ·rw[if_neg z];refine wpS_bind (hb (h+c3) (by omega) _ ?_);dsimp only
    by_cases v:h+c3<p
    ·rw[decide_eq_true v,if_neg (by decide)];exact wpS_pure ⟨rfl,rfl,by dsimp only;omega,by dsimp only;omega,by dsimp only;omega⟩
    ·rw[decide_eq_false v,if_pos (by decide)];exact wpS_pure ⟨rfl,rfl,g1,by dsimp only;omega⟩
  ·rintro⟨c1,c2,c3⟩ t ⟨et,ec,g1,g2,g3⟩;dsimp only at ec g1 g2 g3;exact⟨et,ec,g1,by dsimp only;omega⟩
  ·rintro⟨c1,c2,c3⟩ t ⟨et,ec,g1,g2⟩;dsimp only at ec g1 g2 ⊢;rw[et];subst ec;dsimp only;refine wpS_bind (wpS_mono (fin _ _ (by omega) g2 (by omega)) ?_);rintro c t' ⟨et',rfl⟩;rw[et'];exact wpS_pure q
 ·rw[decide_eq_false y,if_neg (by decide)];refine wpS_bind (wpS_mono (wpS_forRange (I:=λ x c t=>t=st/\c.1=none/\p<=h-c.2.1/\c.2.1<=h/\c.2.1<c.2.2/\x<=c.2.1+1) (Q:=λ c t=>t=st/\c.1=none/\p<=h-c.2.1/\h+1-min c.2.2 (h+1)<=p) ?_ ?_ ⟨rfl,rfl,by dsimp only;omega,by dsimp only;omega,by dsimp only;omega,by dsimp only;omega⟩) ?_)
  ·rintro x ⟨c1,c2,c3⟩ t _ hx ⟨et,ec,g1,g0,g2,g3⟩;rw[et];clear et t;dsimp only at ec g1 g0 g2 g3 ⊢;subst ec
   by_cases z:c3 >= h+1
   ·rw[if_pos z];exact wpS_pure ⟨rfl,rfl,g1,by dsimp only;omega⟩
   ·rw[if_neg z];refine wpS_bind (hb (h-c3) (by omega) _ ?_);dsimp only
    by_cases v:h-c3<p
    ·rw[decide_eq_true v,if_pos rfl];exact wpS_pure ⟨rfl,rfl,g1,by dsimp only;omega⟩
    ·rw[decide_eq_false v,if_neg (by decide)];exact wpS_pure ⟨rfl,rfl,by dsimp only;omega,by dsimp only;omega,by dsimp only;omega,by dsimp only;omega⟩
  ·rintro⟨c1,c2,c3⟩ t ⟨et,ec,g1,g0,g2,g3⟩;dsimp only at ec g1 g0 g2 g3;exact⟨et,ec,g1,by dsimp only;omega⟩
  ·rintro⟨c1,c2,c3⟩ t ⟨et,ec,g1,g2⟩;dsimp only at ec g1 g2 ⊢;rw[et];subst ec;dsimp only;refine wpS_bind (wpS_mono (fin _ _ g2 g1 (by omega)) ?_);rintro c t' ⟨et',rfl⟩;rw[et'];exact wpS_pure q
end
section
variable {α:Type}{bf:α->α->Prop}{as bs out:List α}{ia ib:Nat}
structure Mg(bf:α->α->Prop)(as bs out:List α)(ia ib:Nat):Prop where
 p:(out++(as.drop ia++bs.drop ib)).Perm (as++bs)
 s:out.Pairwise bf
 l:∀ x∈out,∀ y∈as.drop ia++bs.drop ib,bf x y
theorem Mg.start:Mg bf as bs [] 0 0:=⟨by simp,List.Pairwise.nil,λ _ h=>by cases h⟩
theorem pw_cut{as:List α}(h:as.Pairwise bf)(i k:Nat):((as.drop i).take k).Pairwise bf/\∀ x∈(as.drop i).take k,∀ y∈as.drop (i+k),bf x y:=by have h1:(as.drop i).Pairwise bf:=h.drop;rw[<- List.take_append_drop k (as.drop i),List.pairwise_append,List.drop_drop] at h1;exact⟨h1.1,h1.2.2⟩
theorem Mg.iF(h:Mg bf as bs out ia ib)(sa:as.Pairwise bf)(k:Nat)(hx:∀ x∈(as.drop ia).take k,∀ y∈bs.drop ib,bf x y):Mg bf as bs (out++(as.drop ia).take k) (ia+k) ib:=by
 have e:as.drop ia=(as.drop ia).take k++as.drop (ia+k):=by rw[<- List.drop_drop,List.take_append_drop]
 obtain⟨c1,c2⟩:=pw_cut sa ia k;have mem:∀ x∈(as.drop ia).take k,x∈as.drop ia++bs.drop ib:=λ x hx=>List.mem_append_left _ (List.mem_of_mem_take hx);refine⟨?_,?_,λ x hx' y hy=>?_⟩
 ·refine List.Perm.trans ?_ h.p;rw[List.append_assoc];refine List.Perm.append_left _ ?_;rw[<- List.append_assoc,<- e]
 ·rw[List.pairwise_append];exact⟨h.s,c1,λ x hx y hy=>h.l x hx y (mem y hy)⟩
 ·rcases List.mem_append.mp hx' with q | q
  ·refine h.l x q y ?_;rcases List.mem_append.mp hy with z | z
   ·exact List.mem_append_left _ (by rw[e];exact List.mem_append_right _ z)
   ·exact List.mem_append_right _ z
  ·rcases List.mem_append.mp hy with z | z
   ·exact c2 x q y z
   ·exact hx x q y z
theorem Mg.iI(h:Mg bf as bs out ia ib)(sb:bs.Pairwise bf)(k:Nat)(hx:∀ y∈(bs.drop ib).take k,∀ x∈as.drop ia,bf y x):Mg bf as bs (out++(bs.drop ib).take k) ia (ib+k):=by
 have e:bs.drop ib=(bs.drop ib).take k++bs.drop (ib+k):=by rw[<- List.drop_drop,List.take_append_drop]
 obtain⟨c1,c2⟩:=pw_cut sb ib k;have mem:∀ x∈(bs.drop ib).take k,x∈as.drop ia++bs.drop ib:=λ x hx=>List.mem_append_right _ (List.mem_of_mem_take hx);refine⟨?_,?_,λ x hx' y hy=>?_⟩
 ·refine List.Perm.trans ?_ h.p;rw[List.append_assoc];refine List.Perm.append_left _ ?_;refine List.Perm.trans ?_ (List.Perm.append_left _ (List.Perm.of_eq e.symm));rw[<- List.append_assoc,<- List.append_assoc];exact List.Perm.append_right _ List.perm_append_comm
 ·rw[List.pairwise_append];exact⟨h.s,c1,λ x hx y hy=>h.l x hx y (mem y hy)⟩
 ·rcases List.mem_append.mp hx' with q | q
  ·refine h.l x q y ?_;rcases List.mem_append.mp hy with z | z
   ·exact List.mem_append_left _ z
   ·exact List.mem_append_right _ (by rw[e];exact List.mem_append_right _ z)
  ·rcases List.mem_append.mp hy with z | z
   ·exact hx x q y z
   ·exact c2 x q y z
theorem Mg.done(h:Mg bf as bs out ia ib)(sa:as.Pairwise bf)(sb:bs.Pairwise bf)(hx:∀ x∈as.drop ia,∀ y∈bs.drop ib,bf x y):(out++as.drop ia++bs.drop ib).Pairwise bf/\(out++as.drop ia++bs.drop ib).Perm (as++bs):=by rw[List.append_assoc];refine⟨?_,h.p⟩;rw[List.pairwise_append,List.pairwise_append];exact⟨h.s,⟨sa.drop,sb.drop,hx⟩,h.l⟩
theorem Mg.aej(h:Mg bf as bs out ia ib)(sa:as.Pairwise bf)(sb:bs.Pairwise bf)(hx:∀ y∈bs.drop ib,∀ x∈as.drop ia,bf y x):(out++bs.drop ib++as.drop ia).Pairwise bf/\(out++bs.drop ib++as.drop ia).Perm (as++bs):=by
 rw[List.append_assoc];refine⟨?_,(List.Perm.append_left _ List.perm_append_comm).trans h.p⟩;rw[List.pairwise_append,List.pairwise_append];refine⟨h.s,⟨sb.drop,sa.drop,hx⟩,λ x q y z=>h.l x q y ?_⟩;rcases List.mem_append.mp z with z | z
 ·exact List.mem_append_right _ z
 ·exact List.mem_append_left _ z
end
end D
namespace Sw
open D
open L2 S PySem.W
local macro_rules | `(tactic| walk_at "op_setMinGallop")=>`(tactic| unfold $(Lean.mkIdent (Lean.mkPrivateNameCore `PySem.Builtin.List.W1All `PySem.Builtin.setMinGallop)):ident)
def qD:Array Keyed->Array Keyed->StateT SortSt Sem (Array Keyed):=sortPriv% PySem.Builtin.mergeLo
def rO:Array Keyed->Array Keyed->StateT SortSt Sem (Array Keyed):=sortPriv% PySem.Builtin.mergeHi
def acZ:Nat->StateT SortSt Sem Unit:=sortPriv% PySem.Builtin.setMinGallop
def ar(it:Array Keyed)(l:List Nat):Array Keyed:=(l.map (kas_item it)).toArray
section
variable {it:Array Keyed}{l m:List Nat}{i k:Nat}
theorem lX:(ar it l).size=l.length:=by simp[ar]
theorem eO:ar it l++ar it m=ar it (l++m):=by simp[ar]
theorem rW:(ar it l).extract i (i+k)=ar it ((l.drop i).take k):=by simp[ar,List.extract_eq_take_drop,List.map_take,List.map_drop]
theorem qR:(ar it l).extract i l.length=ar it (l.drop i):=by simp only[ar,List.size_toArray,List.extract_toArray,List.extract_eq_take_drop,List.length_map,List.map_drop];rw[List.take_of_length_le (by simp)]
theorem pG(h:i<l.length):l.drop i=l.getD i 0::l.drop (i+1):=by rw[List.drop_eq_getElem_cons h,List.getD_eq_getElem?_getD,List.getElem?_eq_getElem h];rfl
theorem bQ(h:i<l.length):l.getD i 0∈l:=by rw[List.getD_eq_getElem?_getD,List.getElem?_eq_getElem h];exact List.getElem_mem h
theorem j0{x:Nat}(h:x∈(l.drop i).take k):∃ j,j<k/\i+j<l.length/\x=l.getD (i+j) 0:=by obtain⟨j,hj,e⟩:=List.mem_iff_getElem.mp h;simp only[List.length_take,List.length_drop] at hj;refine⟨j,by omega,by omega,?_⟩;rw[<- e,List.getD_eq_getElem?_getD,List.getElem?_eq_getElem (by omega)];simp
end
section
variable {prog:Program}{w:World}{A:Around}{E:VP}{s:Shared}{st:SortSt}{κ:SortKind}{it:Array Keyed}{lt:Nat->Nat->Bool}{N:Nat}
def gh(prog:Program)(w:World)(A:Around)(s:Shared)(κ:SortKind)(it:Array Keyed)(lt:Nat->Nat->Bool)(N:Nat):Prop:=
 ∀ i j,i<N->j<N->∀ C:Bool->Shared->Prop,C (lt i j) s->kas_cmp prog w A κ it i j C s
theorem mR(hc:gh prog w A s κ it lt N)(hk:kindOf st=κ){i j:Nat}(hi:i<N)(hj:j<N){R:Option Bool->SortSt->Prop}(r:R (some (lt i j)) st):wpS (model prog w) A E s (lt' (kas_item it i) (kas_item it j)) R st:=by rw[lt'_eq];refine wpS_bind (wpS_get ?_);rw[hk];refine wpS_bind (wpS_lift (wpAny_attempt (wpAny_mono (hc i j hi hj (λ c s'=>c=lt i j/\s'=s) ⟨rfl,rfl⟩) (λ c s' hc'=>⟨hc'.2,?_⟩) λ _ _ hF=>hF.elim)));rw[hc'.1];exact wpS_pure r
theorem cV{l:List Nat}{i:Nat}(hi:i<l.length){Q:Keyed->SortSt->Prop}(q:Q (kas_item it (l.getD i 0)) st):wpS (model prog w) A E s (elem' (ar it l) i) Q st:=by
 rw[elem'_eq];have e:(ar it l)[i]? =some (kas_item it (l.getD i 0)):=by simp[ar,List.getD_eq_getElem?_getD,List.getElem?_eq_getElem hi]
 rw[e];exact wpS_pure q
structure Lk(st st':SortSt):Prop where
 k:kindOf st'=kindOf st
 a:arrOf st'=arrOf st
 p:pendingOf st'=pendingOf st
 f:failedOf st'=failedOf st
theorem Lk.acj:Lk st st:=⟨rfl,rfl,rfl,rfl⟩
theorem Lk.tr{a b c:SortSt}(h:Lk a b)(q:Lk b c):Lk a c:=⟨q.k.trans h.k,q.a.trans h.a,q.p.trans h.p,q.f.trans h.f⟩
theorem lT{g:Nat}{Q:Unit->SortSt->Prop}(q:∀ st',Lk st st'->Q () st'):wpS (model prog w) A E s (acZ g) Q st:=by
 unfold acZ
 walk_at "op_setMinGallop"
 exact wpS_modify (q _ ⟨rfl,rfl,rfl,rfl⟩)
theorem zZ(f:Nat->Bool):∀ n:Nat,(∀ i j,i<j->j<n->f j=true->f i=true)->∃ p,p<=n/\∀ i,i<n->f i=decide (i<p)
 | 0,_=>⟨0,Nat.le_refl _,λ i h=>by omega⟩
 | n+1,h=>by
  obtain⟨p,hp,e⟩:=zZ f n λ i j hij hj=>h i j hij (by omega)
  by_cases z:f n=true
  ·refine⟨n+1,Nat.le_refl _,λ i hi=>?_⟩;rw[decide_eq_true hi]
   by_cases y:i=n
   ·rw[y];exact z
   ·exact h i n (by omega) (by omega) z
  ·refine⟨p,by omega,λ i hi=>?_⟩
   by_cases y:i=n
   ·subst y;rw[decide_eq_false (by omega)]
    simpa using z
   ·exact e i (by omega)
end
open L2 S PySem.W
local macro_rules | `(tactic| walk_at "op_mergeLo")=>`(tactic| unfold $(Lean.mkIdent (Lean.mkPrivateNameCore `PySem.Builtin.List.W1All `PySem.Builtin.mergeLo)):ident)
local macro_rules | `(tactic| walk_at "whr")=>`(tactic| ((repeat (extract_lets +onlyGivenNames -underBinder -merge a; (fail_if_success (have:_->_:=a));subst a)); (try dsimp (config:={zeta:=false,zetaHave:=false}) only); (repeat (extract_lets +onlyGivenNames -underBinder -merge a; (fail_if_success (have:_->_:=a));subst a))))
structure Two(lt:Nat->Nat->Bool)(N:Nat)(as bs:List Nat):Prop where
 w:fU lt
 sa:as.Pairwise (B lt)
 sb:bs.Pairwise (B lt)
 cr:∀ x∈as,∀ y∈bs,x<y
 na:∀ x∈as,x<N
 nb:∀ x∈bs,x<N
 a0:0<as.length
 b0:0<bs.length
 fi:lt (bs.getD 0 0) (as.getD 0 0)=true
 la:∀ y∈bs,lt y (as.getD (as.length-1) 0)=true
structure Wm(it:Array Keyed)(lt:Nat->Nat->Bool)(as bs:List Nat)(out:Array Keyed)(ia ib:Nat):Prop where
 ex:∃ o:List Nat,out=ar it o/\Mg (B lt) as bs o ia ib
 ha:ia<as.length
 hb:ib<=bs.length
def Rm(it:Array Keyed)(lt:Nat->Nat->Bool)(as bs:List Nat)(out:Array Keyed):Prop:=∃ o:List Nat,out=ar it o/\o.Pairwise (B lt)/\o.Perm (as++bs)
section
variable {it:Array Keyed}{lt:Nat->Nat->Bool}{N:Nat}{as bs:List Nat}{out:Array Keyed}{ia ib k:Nat}
theorem pw_head{l:List Nat}{i:Nat}(w:fU lt)(h:l.Pairwise (B lt))(hi:i<l.length){y:Nat}(r:B lt y (l.getD i 0)):∀ x∈l.drop i,B lt y x:=by
 have h1:(l.drop i).Pairwise (B lt):=h.drop;rw[pG hi] at h1 ⊢;intro x hx;rcases List.mem_cons.mp hx with e | e
 ·rw[e];exact r
 ·exact r.tr w (List.rel_of_pairwise_cons h1 e)
theorem pw_at{l:List Nat}(h:l.Pairwise (B lt)){i j:Nat}(hij:i<j)(hj:j<l.length):B lt (l.getD i 0) (l.getD j 0):=by have:=List.pairwise_iff_getElem.mp h i j (by omega) hj hij;rw[List.getD_eq_getElem?_getD,List.getD_eq_getElem?_getD,List.getElem?_eq_getElem hj,List.getElem?_eq_getElem (show i<l.length by omega)];exact this
theorem Wm.iF(t:Two lt N as bs)(h:Wm it lt as bs out ia ib)(hib:ib<bs.length)(hk:ia+k<as.length)(e:∀ j,j<k->lt (bs.getD ib 0) (as.getD (ia+j) 0)=false):Wm it lt as bs (out++(ar it as).extract ia (ia+k)) (ia+k) ib:=by obtain⟨o,rfl,m⟩:=h.ex;refine⟨⟨_,by rw[rW,eO],m.iF t.sa k λ x hx=>?_⟩,hk,h.hb⟩;obtain⟨j,j1,j2,rfl⟩:=j0 hx;exact pw_head t.w t.sb hib (B.of_le (e j j1) (t.cr _ (bQ j2) _ (bQ hib)))
theorem Wm.iI(t:Two lt N as bs)(h:Wm it lt as bs out ia ib)(hk:ib+k<=bs.length)(e:∀ j,j<k->lt (bs.getD (ib+j) 0) (as.getD ia 0)=true):Wm it lt as bs (out++(ar it bs).extract ib (ib+k)) ia (ib+k):=by obtain⟨o,rfl,m⟩:=h.ex;refine⟨⟨_,by rw[rW,eO],m.iI t.sb k λ y hy=>?_⟩,h.ha,hk⟩;obtain⟨j,j1,j2,rfl⟩:=j0 hy;exact pw_head t.w t.sa h.ha (.inl (e j j1))
theorem uH{l:List Nat}{i:Nat}(h:i<l.length):(ar it l).extract i (i+1) = #[kas_item it (l.getD i 0)]:=by rw[rW,pG h];rfl
theorem Wm.sd(t:Two lt N as bs)(h:Wm it lt as bs out ia ib)(hib:ib<bs.length)(hk:ia+1<as.length)(e:lt (bs.getD ib 0) (as.getD ia 0)=false):Wm it lt as bs (out.push (kas_item it (as.getD ia 0))) (ia+1) ib:=by
 have:=h.iF (k:=1) t hib hk λ j hj=>by rw[show j=0 by omega];exact e
 rw[uH h.ha] at this;exact this
theorem Wm.sv(t:Two lt N as bs)(h:Wm it lt as bs out ia ib)(hib:ib<bs.length)(e:lt (bs.getD ib 0) (as.getD ia 0)=true):Wm it lt as bs (out.push (kas_item it (bs.getD ib 0))) ia (ib+1):=by
 have:=h.iI (k:=1) t hib λ j hj=>by rw[show j=0 by omega];exact e
 rw[uH hib] at this;exact this
theorem Wm.done(t:Two lt N as bs)(h:Wm it lt as bs out ia ib)(hib:ib=bs.length):Rm it lt as bs (out++(ar it as).extract ia as.length++(ar it bs).extract ib bs.length):=by obtain⟨o,rfl,m⟩:=h.ex;refine⟨_,by rw[qR,qR,eO,eO],m.done t.sa t.sb λ x _ y hy=>?_⟩;rw[hib] at hy;simp at hy
theorem Wm.last(t:Two lt N as bs)(h:Wm it lt as bs out ia ib)(hia:ia+1=as.length):Rm it lt as bs (out++(ar it bs).extract ib bs.length++(ar it as).extract ia as.length):=by obtain⟨o,rfl,m⟩:=h.ex;refine⟨_,by rw[qR,qR,eO,eO],m.aej t.sa t.sb λ y hy x hx=>?_⟩;rw[pG h.ha,hia] at hx;simp only[List.drop_length,List.mem_singleton] at hx;rw[hx];have:=t.la y (List.mem_of_mem_drop hy);rw[show as.length-1=ia by omega] at this;exact .inl this
theorem Wm.start(t:Two lt N as bs):Wm it lt as bs #[kas_item it (bs.getD 0 0)] 0 1:=by have:=(Wm.mk ⟨[],rfl,Mg.start⟩ t.a0 (Nat.zero_le _):Wm it lt as bs #[] 0 0).sv t t.b0 t.fi;exact this
end
section
variable {prog:Program}{w:World}{A:Around}{E:VP}{s:Shared}{st:SortSt}{κ:SortKind}{it:Array Keyed}{lt:Nat->Nat->Bool}{N:Nat}{as bs:List Nat}
theorem ahr(hc:gh prog w A s κ it lt N)(t:Two lt N as bs)(hk:kindOf st=κ){ia ib:Nat}(h1:ia<as.length)(h2:ib<bs.length){Q:Option Nat->SortSt->Prop}
  (q:∀ k,ia+k<as.length->(∀ j,j<k->lt (bs.getD ib 0) (as.getD (ia+j) 0)=false)->lt (bs.getD ib 0) (as.getD (ia+k) 0)=true->Q (some k) st) :
  wpS (model prog w) A E s (fF false (kas_item it (bs.getD ib 0)) (ar it as) ia (as.length-ia) 0) Q st:=by
 obtain⟨p,p1,p2⟩:=zZ (λ i=>!lt (bs.getD ib 0) (as.getD (ia+i) 0)) (as.length-ia) λ i j hij hj e=>by
  have e:lt (bs.getD ib 0) (as.getD (ia+j) 0)=false:=by simpa using e
  have:=t.w.tr _ _ _ ((pw_at t.sa (show ia+i<ia+j by omega) (by omega)).le t.w) e;show(!lt (bs.getD ib 0) (as.getD (ia+i) 0))=true;rw[this];rfl
 have hla:lt (bs.getD ib 0) (as.getD (as.length-1) 0)=true:=t.la _ (bQ h2);have hp:ia+p<as.length:=by
  have:=p2 (as.length-ia-1) (by omega);rw[show ia+(as.length-ia-1)=as.length-1 by omega,hla] at this;have:¬ (as.length-ia-1<p):=by simpa using this.symm
  omega
 refine eJ (p:=p) (by omega) p1 (λ i hi R r=>?_) (q p hp (λ j hj=>?_) ?_)
 ·unfold dZ;refine wpS_bind (cV (by omega) ?_);rw[if_neg (by decide)];refine wpS_bind (mR hc hk (t.nb _ (bQ h2)) (t.na _ (bQ (by omega))) (wpS_pure ?_));have:=p2 i hi;show R (some (!lt (bs.getD ib 0) (as.getD (ia+i) 0))) st;rw[this];exact r
 ·have:=p2 j (by omega);rw[decide_eq_true hj] at this
  simpa using this
 ·have:=p2 p (by omega);rw[decide_eq_false (Nat.lt_irrefl _)] at this
  simpa using this
theorem ahf(hc:gh prog w A s κ it lt N)(t:Two lt N as bs)(hk:kindOf st=κ){ia ib:Nat}(h1:ia<as.length)(h2:ib<bs.length){Q:Option Nat->SortSt->Prop}
  (q:∀ k,ib+k<=bs.length->(∀ j,j<k->lt (bs.getD (ib+j) 0) (as.getD ia 0)=true)->(ib+k<bs.length->lt (bs.getD (ib+k) 0) (as.getD ia 0)=false)->Q (some k) st) :
  wpS (model prog w) A E s (fF true (kas_item it (as.getD ia 0)) (ar it bs) ib (bs.length-ib) 0) Q st:=by
 obtain⟨p,p1,p2⟩:=zZ (λ i=>lt (bs.getD (ib+i) 0) (as.getD ia 0)) (bs.length-ib) λ i j hij hj e => 
  t.w.ack ((pw_at t.sb (show ib+i<ib+j by omega) (by omega)).le t.w) e
 refine eJ (p:=p) (by omega) p1 (λ i hi R r=>?_) (q p (by omega) (λ j hj=>?_) λ hlt=>?_)
 ·unfold dZ;refine wpS_bind (cV (by omega) ?_);rw[if_pos rfl];refine mR hc hk (t.nb _ (bQ (by omega))) (t.na _ (bQ h1)) ?_;have:=p2 i hi;rw[this];exact r
 ·have:=p2 j (by omega);rw[this,decide_eq_true hj]
 ·have:=p2 p (by omega);rw[this,decide_eq_false (Nat.lt_irrefl _)]
structure Go(it:Array Keyed)(lt:Nat->Nat->Bool)(as bs:List Nat)(st:SortSt)(low:Nat)(out:Array Keyed)(ia ib:Nat)(st':SortSt):Prop where
 lk:Lk st st'
 m:Wm it lt as bs out ia ib
 a:ia+1<as.length
 b:ib<bs.length
 s:low<=ia+ib
def Be(it:Array Keyed)(lt:Nat->Nat->Bool)(as bs:List Nat)(st:SortSt)(low:Nat)(r:Option (Array Keyed))(out:Array Keyed)(ia ib:Nat)(st':SortSt):Prop:=
 (∃ x,r=some x/\Lk st st'/\Rm it lt as bs x)\/(r=none/\Go it lt as bs st low out ia ib st')
theorem l9{α:Type}{m:StateT SortSt Sem α}{Q:α->SortSt->Prop}(h:∀ Q':α->SortSt->Prop,(∀ a t,Q a t->Q' a t)->wpS (model prog w) A E s m Q' st):wpS (model prog w) A E s m Q st:=h Q λ _ _ h=>h
theorem sF(hc:gh prog w A s κ it lt N)(t:Two lt N as bs)(hk:kindOf st=κ){Q:Array Keyed->SortSt->Prop}(q:∀ out st',Lk st st'->Rm it lt as bs out->Q out st') :
  wpS (model prog w) A E s (qD (ar it as) (ar it bs)) Q st:=by
 have b0:=t.b0;have a0:=t.a0;unfold qD
 walk_at "op_mergeLo"
 refine wpS_bind (wpS_lift (wpAny_rule ⟨rfl,?_⟩))
 walk_at "whr"
 refine wpS_bind (cV t.b0 ?_)
 walk_at "whr"
 simp (config:={zeta:=false,zetaHave:=false}) only[lX]
 split
 ·rename_i z
  exact wpS_pure (q _ _ .acj ((Wm.start t).done t (by simpa using z)))
 ·rename_i z
  split
  ·rename_i y
   exact wpS_pure (q _ _ .acj ((Wm.start t).last t (by simpa using y)))
  ·rename_i y
   have z:¬ 1=bs.length:=by simpa using z
   have y:¬ 1=as.length:=by simpa using y
   refine wpS_bind (wpS_get ?_)
   walk_at "whr"
   refine wpS_bind (wpS_mono (wpS_forRange (I:=λ x c st'=>c.1=none/\Go it lt as bs st (x+1) c.2.1 c.2.2.1 c.2.2.2.1 st') (Q:=λ c st'=>∃ x,c.1=some x/\Lk st st'/\Rm it lt as bs x) ?_ ?_ ?_) ?_)
   ·rintro x ⟨r,out,ia,ib,mg⟩ st1 _ hx ⟨er,G⟩;dsimp only at er G;subst er
    walk_at "whr"
    refine wpS_bind (wpS_mono (wpS_forRange (I:=λ x c st'=>c.1=none/\Go it lt as bs st (ia+ib+x) c.2.1 c.2.2.1 c.2.2.2.1 st') (Q:=λ c st'=>Be it lt as bs st (ia+ib+1) c.1 c.2.1 c.2.2.1 c.2.2.2.1 st') ?_ ?_ ?_) ?_)
    ·rintro x2 ⟨r,out,ia2,ib2,ac,bc⟩ st2 _ hx2 ⟨er,G2⟩;dsimp only at er G2;subst er
     walk_at "whr"
     have hk2:kindOf st2=κ:=G2.lk.k.trans hk;refine wpS_bind (cV G2.b ?_);refine wpS_bind (cV G2.m.ha ?_);refine wpS_bind (mR hc hk2 (t.nb _ (bQ G2.b)) (t.na _ (bQ G2.m.ha)) ?_)
     walk_at "whr"
     split
     ·rename_i e
      refine wpS_bind (cV G2.b ?_)
      walk_at "whr"
      have m2:=G2.m.sv t G2.b e
      split
      ·rename_i e2
       exact wpS_pure (.inl ⟨_,rfl,G2.lk,m2.done t (by simpa using e2)⟩)
      ·rename_i e2
       have e2:¬ ib2+1=bs.length:=by simpa using e2
       have G3:Go it lt as bs st (ia+ib+(x2+1)) _ ia2 (ib2+1) st2:=⟨G2.lk,m2,G2.a,by have:=G2.b;omega,by have:=G2.s;omega⟩
       split
       ·exact wpS_pure (.inr ⟨rfl,G3.lk,G3.m,G3.a,G3.b,by have:=G3.s;dsimp only;omega⟩)
       ·exact wpS_pure ⟨rfl,G3⟩
     ·rename_i e
      refine wpS_bind (cV G2.m.ha ?_)
      walk_at "whr"
      have m2:=G2.m.sd t G2.b G2.a (by simpa using e)
      split
      ·rename_i e2
       exact wpS_pure (.inl ⟨_,rfl,G2.lk,m2.last t (by simpa using e2)⟩)
      ·rename_i e2
       have e2:¬ ia2+1+1=as.length:=by simpa using e2
       have G3:Go it lt as bs st (ia+ib+(x2+1)) _ (ia2+1) ib2 st2:=⟨G2.lk,m2,by have:=G2.a;omega,G2.b,by have:=G2.s;omega⟩
       split
       ·exact wpS_pure (.inr ⟨rfl,G3.lk,G3.m,G3.a,G3.b,by have:=G3.s;dsimp only;omega⟩)
       ·exact wpS_pure ⟨rfl,G3⟩
    ·rintro⟨r,out,ia2,ib2,ac,bc⟩ st2 ⟨er,G2⟩;exact .inr ⟨er,G2.lk,G2.m,G2.a,G2.b,by have:=G2.s;dsimp only at this ⊢;omega⟩
    ·exact⟨rfl,G.lk,G.m,G.a,G.b,Nat.le_refl _⟩
    ·rintro⟨r,out,ia2,ib2,ac,bc⟩ st2 hB;dsimp only[Be] at hB
     walk_at "whr"
     rcases hB with ⟨v,rfl,lk,rm⟩ | ⟨rfl,G2⟩
     ·exact wpS_pure ⟨v,rfl,lk,rm⟩
     walk_at "whr"
     refine wpS_bind (wpS_lift (wpAny_rule ⟨rfl,?_⟩))
     walk_at "whr"
     refine wpS_bind (wpS_mono (wpS_forRange (I:=λ x c st'=>c.1=none/\Go it lt as bs st (ia+ib+1) c.2.1 c.2.2.1 c.2.2.2.1 st') (Q:=λ c st'=>Be it lt as bs st (ia+ib+1) c.1 c.2.1 c.2.2.1 c.2.2.2.1 st') ?_ ?_ ⟨rfl,G2⟩) ?_)
     ·clear G2;rintro x2 ⟨r,out,ia2,ib2,mg,ac,bc⟩ st2 _ hx2 ⟨er,G2⟩;dsimp only at er G2;subst er
      walk_at "whr"
      refine l9 λ Q' q'=>?_
      extract_lets +onlyGivenNames -underBinder -merge jp
      have hjp:∀ u g,wpS (model prog w) A E s (jp u g) Q' st2:=by
       intro u g;unfold jp
       walk_at "whr"
       refine wpS_bind (lT λ st3 lk3=>?_);have G3:Go it lt as bs st (ia+ib+1) out ia2 ib2 st3:=⟨G2.lk.tr lk3,G2.m,G2.a,G2.b,G2.s⟩;clear G2;have hk3:kindOf st3=κ:=G3.lk.k.trans hk;refine wpS_bind (cV G3.b ?_);refine wpS_bind (ahr hc t hk3 G3.m.ha G3.b λ k k1 k2 k3=>?_)
       walk_at "whr"
       extract_lets +onlyGivenNames -underBinder -merge jp
       have hjp:∀ u out ia2,Go it lt as bs st (ia+ib+1) out ia2 ib2 st3->lt (bs.getD ib2 0) (as.getD ia2 0)=true->wpS (model prog w) A E s (jp u out ia2) Q' st3:=by
        clear k1 k2 k3 G3;intro u out ia2 G3 k3;unfold jp
        walk_at "whr"
        refine wpS_bind (cV G3.b ?_)
        walk_at "whr"
        have m4:=G3.m.sv t G3.b k3
        split
        ·rename_i e2
         exact wpS_pure (q' _ _ (.inl ⟨_,rfl,G3.lk,m4.done t (by simpa using e2)⟩))
        ·rename_i e2
         have e2:¬ ib2+1=bs.length:=by simpa using e2
         have b4:ib2+1<bs.length:=by have:=G3.b;omega
         refine wpS_bind (cV G3.m.ha ?_);refine wpS_bind (ahf hc t hk3 G3.m.ha b4 λ k' k1' k2' k3'=>?_)
         walk_at "whr"
         extract_lets +onlyGivenNames -underBinder -merge jp
         have hjp:∀ u out ib3,Wm it lt as bs out ia2 ib3->ib2<=ib3->ib3<bs.length->lt (bs.getD ib3 0) (as.getD ia2 0)=false->wpS (model prog w) A E s (jp u out ib3) Q' st3:=by
          intro u out ib3 m5 h5 b5 e5;unfold jp
          walk_at "whr"
          refine wpS_bind (cV G3.m.ha ?_)
          walk_at "whr"
          have m6:=m5.sd t b5 G3.a e5
          split
          ·rename_i e2
           exact wpS_pure (q' _ _ (.inl ⟨_,rfl,G3.lk,m6.last t (by simpa using e2)⟩))
          ·rename_i e2
           have e2:¬ ia2+1+1=as.length:=by simpa using e2
           have G6:Go it lt as bs st (ia+ib+1) _ (ia2+1) ib3 st3:=⟨G3.lk,m6,by have:=G3.a;omega,b5,by have:=G3.s;omega⟩
           split
           ·exact wpS_pure (q' _ _ (.inr ⟨rfl,G6⟩))
           ·exact wpS_pure (q' _ _ ⟨rfl,G6⟩)
         clear_value jp
         split
         ·walk_at "whr"
          have m5:=m4.iI t k1' k2'
          split
          ·rename_i e5
           exact wpS_pure (q' _ _ (.inl ⟨_,rfl,G3.lk,m5.done t (by simpa using e5)⟩))
          ·rename_i e5
           have e5:¬ ib2+1+k'=bs.length:=by simpa using e5
           have b5:ib2+1+k'<bs.length:=by omega
           exact hjp _ _ _ m5 (by omega) b5 (k3' b5)
         ·rename_i e5
          have e5:k'=0:=by omega
          subst e5;exact hjp _ _ _ m4 (by omega) b4 (k3' b4)
       clear_value jp
       split
       ·walk_at "whr"
        have m4:=G3.m.iF t G3.b k1 k2
        split
        ·rename_i e5
         exact wpS_pure (q' _ _ (.inl ⟨_,rfl,G3.lk,m4.last t (by simpa using e5)⟩))
        ·rename_i e5
         have e5:¬ ia2+k+1=as.length:=by simpa using e5
         split
         ·rename_i e6
          have e6:ia2+k=as.length:=by simpa using e6
          omega
         ·exact hjp _ _ _ ⟨G3.lk,m4,by omega,G3.b,by have:=G3.s;omega⟩ k3
       ·rename_i e5
        have e5:k=0:=by omega
        subst e5;exact hjp _ _ _ G3 k3
      clear_value jp
      split
      ·walk_at "whr"
       exact hjp _ _
      ·exact hjp _ _
     ·rintro⟨r,out,ia2,ib2,mg,ac,bc⟩ st2 ⟨er,G2⟩;exact .inr ⟨er,G2⟩
     ·rintro⟨r,out,ia2,ib2,mg,ac,bc⟩ st2 hB;dsimp only[Be] at hB
      walk_at "whr"
      rcases hB with ⟨v,rfl,lk,rm⟩ | ⟨rfl,G2⟩
      ·exact wpS_pure ⟨v,rfl,lk,rm⟩
      walk_at "whr"
      refine wpS_bind (lT λ st3 lk3=>?_);exact wpS_pure ⟨rfl,G2.lk.tr lk3,G2.m,G2.a,G2.b,by have:=G2.s;have:=G.s;dsimp only;omega⟩
   ·rintro⟨r,out,ia2,ib2,mg⟩ st2 ⟨er,G2⟩
    exfalso
    have:=G2.a;have:=G2.b;have:=G2.s;dsimp only at *;omega
   ·exact⟨rfl,.acj,Wm.start t,by dsimp only;omega,by dsimp only;omega,by dsimp only;omega⟩
   ·rintro⟨r,out,ia2,ib2,mg⟩ st2 ⟨v,er,lk,rm⟩;dsimp only at er;subst er
    walk_at "whr"
    exact wpS_pure (q _ _ lk rm)
end
open L2 S PySem.W
local macro_rules | `(tactic| walk_at "op_mergeHi")=>`(tactic| unfold $(Lean.mkIdent (Lean.mkPrivateNameCore `PySem.Builtin.List.W1All `PySem.Builtin.mergeHi)):ident)
local macro_rules | `(tactic| walk_at "whr")=>`(tactic| ((repeat (extract_lets +onlyGivenNames -underBinder -merge a; (fail_if_success (have:_->_:=a));subst a)); (try dsimp (config:={zeta:=false,zetaHave:=false}) only); (repeat (extract_lets +onlyGivenNames -underBinder -merge a; (fail_if_success (have:_->_:=a));subst a))))
section
variable {it:Array Keyed}{l:List Nat}{i k:Nat}
theorem qB:(ar it l).reverse=ar it l.reverse:=by simp[ar]
theorem ji:(ar it l).extract i k=ar it ((l.take k).drop i):=by simp[ar,List.extract_eq_drop_take,List.map_take,List.map_drop,List.drop_take]
theorem dX(h:k<=l.length):l.reverse.drop (l.length-k)=(l.take k).reverse:=by rw[List.reverse_take]
theorem lJ(h:k<=l.length)(hi:i<=k):(l.reverse.drop (l.length-k)).take (k-i)=((l.take k).drop i).reverse:=by rw[dX h,List.reverse_drop,List.length_take,Nat.min_eq_left h]
theorem mem_mid{x:Nat}(h:x∈(l.take k).drop i):∃ j,i<=j/\j<k/\j<l.length/\x=l.getD j 0:=by obtain⟨j,hj,e⟩:=List.mem_iff_getElem.mp h;simp only[List.length_take,List.length_drop] at hj;refine⟨i+j,by omega,by omega,by omega,?_⟩;rw[<- e,List.getD_eq_getElem?_getD,List.getElem?_eq_getElem (by omega)];simp
end
structure Wh(it:Array Keyed)(lt:Nat->Nat->Bool)(as bs:List Nat)(out:Array Keyed)(na nb:Nat):Prop where
 ex:∃ o:List Nat,out=ar it o/\Mg (λ x y=>B lt y x) as.reverse bs.reverse o (as.length-na) (bs.length-nb)
 ha:na<=as.length
 hb:0<nb
 hb':nb<=bs.length
section
variable {it:Array Keyed}{lt:Nat->Nat->Bool}{N:Nat}{as bs:List Nat}{out:Array Keyed}{na nb k:Nat}
theorem pw_le{l:List Nat}{i j:Nat}(w:fU lt)(h:l.Pairwise (B lt))(hij:i<=j)(hj:j<l.length){y:Nat}(r:B lt (l.getD j 0) y):B lt (l.getD i 0) y:=by
 by_cases e:i=j
 ·rw[e];exact r
 ·exact(pw_at h (by omega) hj).tr w r
theorem Wh.iF(t:Two lt N as bs)(h:Wh it lt as bs out na nb)(hk:k<=na)(e:∀ j,k<=j->j<na->lt (bs.getD (nb-1) 0) (as.getD j 0)=true):Wh it lt as bs (out++((ar it as).extract k na).reverse) k nb:=by
 obtain⟨o,rfl,m⟩:=h.ex;have h1:=h.ha;have h2:=h.hb;have h3:=h.hb';refine⟨⟨_,by rw[ji,qB,eO],?_⟩,by omega,h.hb,h.hb'⟩;have:=m.iF (List.pairwise_reverse.mpr t.sa) (na-k) λ x hx y hy=>?_
 ·rw[lJ h.ha hk,show as.length-na+(na-k)=as.length-k by omega] at this;exact this
 ·rw[lJ h.ha hk] at hx;rw[dX h.hb'] at hy;obtain⟨j,j1,j2,j3,rfl⟩:=mem_mid (List.mem_reverse.mp hx);obtain⟨i,i1,i2,i3,rfl⟩:=mem_mid (i:=0) (by simpa using hy);exact pw_le t.w t.sb (show i<=nb-1 by omega) (by omega) (.inl (e j j1 j2))
theorem Wh.iI(t:Two lt N as bs)(h:Wh it lt as bs out na nb)(hk:k<=nb)(hk0:0<k)(hna:0<na)(e:∀ j,k<=j->j<nb->lt (bs.getD j 0) (as.getD (na-1) 0)=false):Wh it lt as bs (out++((ar it bs).extract k nb).reverse) na k:=by
 obtain⟨o,rfl,m⟩:=h.ex;have h1:=h.ha;have h2:=h.hb;have h3:=h.hb';refine⟨⟨_,by rw[ji,qB,eO],?_⟩,h.ha,hk0,by omega⟩;have:=m.iI (List.pairwise_reverse.mpr t.sb) (nb-k) λ y hy x hx=>?_
 ·rw[lJ h.hb' hk,show bs.length-nb+(nb-k)=bs.length-k by omega] at this;exact this
 ·rw[lJ h.hb' hk] at hy;rw[dX h.ha] at hx;obtain⟨j,j1,j2,j3,rfl⟩:=mem_mid (List.mem_reverse.mp hy);obtain⟨i,i1,i2,i3,rfl⟩:=mem_mid (i:=0) (by simpa using hx);exact pw_le t.w t.sa (show i<=na-1 by omega) (by omega) (B.of_le (e j j1 j2) (t.cr _ (bQ (by omega)) _ (bQ j3)))
theorem tJ{l:List Nat}{i:Nat}(h0:0<i)(h:i<=l.length):((ar it l).extract (i-1) i).reverse = #[kas_item it (l.getD (i-1) 0)]:=by have:=uH (it:=it) (l:=l) (i:=i-1) (by omega);rw[show i-1+1=i by omega] at this;rw[this];rfl
theorem Wh.sd(t:Two lt N as bs)(h:Wh it lt as bs out na nb)(hna:0<na)(e:lt (bs.getD (nb-1) 0) (as.getD (na-1) 0)=true):Wh it lt as bs (out.push (kas_item it (as.getD (na-1) 0))) (na-1) nb:=by
 have:=h.iF (k:=na-1) t (by omega) λ j j1 j2=>by rw[show j=na-1 by omega];exact e
 rw[tJ hna h.ha] at this;exact this
theorem Wh.sv(t:Two lt N as bs)(h:Wh it lt as bs out na nb)(hna:0<na)(hnb:1<nb)(e:lt (bs.getD (nb-1) 0) (as.getD (na-1) 0)=false):Wh it lt as bs (out.push (kas_item it (bs.getD (nb-1) 0))) na (nb-1):=by
 have:=h.iI (k:=nb-1) t (by omega) (by omega) hna λ j j1 j2=>by rw[show j=nb-1 by omega];exact e
 rw[tJ h.hb h.hb'] at this;exact this
theorem zi{X:List Nat}(h:X.Pairwise λ x y=>B lt y x)(p:X.Perm (as.reverse++bs.reverse)){out:Array Keyed}(e:out=ar it X.reverse):Rm it lt as bs out:=
 ⟨_,e,List.pairwise_reverse.mpr h,(List.reverse_perm X).trans (p.trans ((List.reverse_perm as).append (List.reverse_perm bs)))⟩
theorem Wh.done(t:Two lt N as bs)(h:Wh it lt as bs out na nb)(hna:na=0):Rm it lt as bs ((ar it as).extract 0 na++(ar it bs).extract 0 nb++out.reverse):=by
 obtain⟨o,rfl,m⟩:=h.ex;obtain⟨p1,p2⟩:=m.aej (List.pairwise_reverse.mpr t.sa) (List.pairwise_reverse.mpr t.sb) λ y _ x hx=>by rw[hna,dX (Nat.zero_le _)] at hx;simp at hx
 rw[dX h.ha,dX h.hb'] at p1 p2;refine zi p1 p2 ?_;rw[ji,ji,qB,eO,eO];simp
theorem Wh.last(t:Two lt N as bs)(h:Wh it lt as bs out na nb)(hnb:nb=1):Rm it lt as bs ((ar it bs).extract 0 nb++(ar it as).extract 0 na++out.reverse):=by
 obtain⟨o,rfl,m⟩:=h.ex;obtain⟨p1,p2⟩:=m.done (List.pairwise_reverse.mpr t.sa) (List.pairwise_reverse.mpr t.sb) λ x hx y hy=>by rw[dX h.ha] at hx;rw[dX h.hb'] at hy;obtain⟨j,j1,j2,j3,rfl⟩:=mem_mid (i:=0) (by simpa using hx);obtain⟨i,i1,i2,i3,rfl⟩:=mem_mid (i:=0) (by simpa using hy);rw[show i=0 by omega];refine pw_head (i:=0) t.w t.sa t.a0 (.inl t.fi) _ ?_;rw[List.drop_zero];exact bQ j3
 rw[dX h.ha,dX h.hb'] at p1 p2;refine zi p1 p2 ?_;rw[ji,ji,qB,eO,eO];simp
theorem Wh.start(t:Two lt N as bs):Wh it lt as bs #[kas_item it (as.getD (as.length-1) 0)] (as.length-1) bs.length:=by have:=(Wh.mk ⟨[],rfl,by rw[Nat.sub_self,Nat.sub_self];exact Mg.start⟩ (Nat.le_refl _) t.b0 (Nat.le_refl _):Wh it lt as bs #[] as.length bs.length).sd t t.a0 (t.la _ (bQ (by have:=t.b0;omega)));exact this
end
section
variable {prog:Program}{w:World}{A:Around}{E:VP}{s:Shared}{st:SortSt}{κ:SortKind}{it:Array Keyed}{lt:Nat->Nat->Bool}{N:Nat}{as bs:List Nat}
theorem afK(hc:gh prog w A s κ it lt N)(t:Two lt N as bs)(hk:kindOf st=κ){na nb:Nat}(h1:0<na)(h1':na<=as.length)(h2:nb<bs.length){Q:Option Nat->SortSt->Prop}
  (q:∀ k,k<=na->(∀ j,k<=j->j<na->lt (bs.getD nb 0) (as.getD j 0)=true)->(0<k->lt (bs.getD nb 0) (as.getD (k-1) 0)=false)->Q (some k) st) :
  wpS (model prog w) A E s (fF false (kas_item it (bs.getD nb 0)) (ar it as) 0 na (na-1)) Q st:=by
 obtain⟨p,p1,p2⟩:=zZ (λ i=>!lt (bs.getD nb 0) (as.getD (0+i) 0)) na λ i j hij hj e=>by
  have e:lt (bs.getD nb 0) (as.getD (0+j) 0)=false:=by simpa using e
  have:=t.w.tr _ _ _ ((pw_at t.sa (show 0+i<0+j by omega) (by omega)).le t.w) e;show(!lt (bs.getD nb 0) (as.getD (0+i) 0))=true;rw[this];rfl
 refine eJ (p:=p) (by omega) p1 (λ i hi R r=>?_) (q p p1 (λ j hj hj2=>?_) λ hp=>?_)
 ·unfold dZ;refine wpS_bind (cV (by omega) ?_);rw[if_neg (by decide)];refine wpS_bind (mR hc hk (t.nb _ (bQ h2)) (t.na _ (bQ (by omega))) (wpS_pure ?_));have:=p2 i hi;show R (some (!lt (bs.getD nb 0) (as.getD (0+i) 0))) st;rw[this];exact r
 ·have:=p2 j hj2;rw[decide_eq_false (by omega),Nat.zero_add] at this
  simpa using this
 ·have:=p2 (p-1) (by omega);rw[decide_eq_true (by omega),Nat.zero_add] at this
  simpa using this
theorem agt(hc:gh prog w A s κ it lt N)(t:Two lt N as bs)(hk:kindOf st=κ){na nb:Nat}(h1:na<as.length)(h2:0<nb)(h2':nb<=bs.length){Q:Option Nat->SortSt->Prop}
  (q:∀ k,0<k->k<=nb->(∀ j,k<=j->j<nb->lt (bs.getD j 0) (as.getD na 0)=false)->lt (bs.getD (k-1) 0) (as.getD na 0)=true->Q (some k) st) :
  wpS (model prog w) A E s (fF true (kas_item it (as.getD na 0)) (ar it bs) 0 nb (nb-1)) Q st:=by
 obtain⟨p,p1,p2⟩:=zZ (λ i=>lt (bs.getD (0+i) 0) (as.getD na 0)) nb λ i j hij hj e => 
  t.w.ack ((pw_at t.sb (show 0+i<0+j by omega) (by omega)).le t.w) e
 have hp:0<p:=by
  have h0:lt (bs.getD 0 0) (as.getD na 0)=true:=by
   by_cases e:na=0
   ·rw[e];exact t.fi
   ·exact t.w.xp t.fi ((pw_at t.sa (show 0<na by omega) h1).le t.w)
  have:=p2 0 h2;rw[Nat.zero_add,h0] at this
  simpa using this.symm
 refine eJ (p:=p) (by omega) p1 (λ i hi R r=>?_) (q p hp p1 (λ j hj hj2=>?_) ?_)
 ·unfold dZ;refine wpS_bind (cV (by omega) ?_);rw[if_pos rfl];refine mR hc hk (t.nb _ (bQ (by omega))) (t.na _ (bQ h1)) ?_;have:=p2 i hi;rw[this];exact r
 ·have:=p2 j hj2;rw[decide_eq_false (by omega),Nat.zero_add] at this;exact this
 ·have:=p2 (p-1) (by omega);rw[decide_eq_true (by omega),Nat.zero_add] at this;exact this
structure Gh(it:Array Keyed)(lt:Nat->Nat->Bool)(as bs:List Nat)(st:SortSt)(low:Nat)(out:Array Keyed)(na nb:Nat)(st':SortSt):Prop where
 lk:Lk st st'
 m:Wh it lt as bs out na nb
 a:0<na
 b:1<nb
 s:low+na+nb<=as.length+bs.length
def Bh(it:Array Keyed)(lt:Nat->Nat->Bool)(as bs:List Nat)(st:SortSt)(low:Nat)(r:Option (Array Keyed))(out:Array Keyed)(na nb:Nat)(st':SortSt):Prop:=
 (∃ x,r=some x/\Lk st st'/\Rm it lt as bs x)\/(r=none/\Gh it lt as bs st low out na nb st')
theorem sM(hc:gh prog w A s κ it lt N)(t:Two lt N as bs)(hk:kindOf st=κ){Q:Array Keyed->SortSt->Prop}(q:∀ out st',Lk st st'->Rm it lt as bs out->Q out st') :
  wpS (model prog w) A E s (rO (ar it as) (ar it bs)) Q st:=by
 have b0:=t.b0;have a0:=t.a0;unfold rO
 walk_at "op_mergeHi"
 refine wpS_bind (wpS_lift (wpAny_rule ⟨rfl,?_⟩))
 walk_at "whr"
 simp (config:={zeta:=false,zetaHave:=false}) only[lX];refine wpS_bind (cV (by omega) ?_)
 walk_at "whr"
 split
 ·rename_i z
  exact wpS_pure (q _ _ .acj ((Wh.start t).done t (by simpa using z)))
 ·rename_i z
  split
  ·rename_i y
   exact wpS_pure (q _ _ .acj ((Wh.start t).last t (by simpa using y)))
  ·rename_i y
   have z:¬ as.length-1=0:=by simpa using z
   have y:¬ bs.length=1:=by simpa using y
   refine wpS_bind (wpS_get ?_)
   walk_at "whr"
   refine wpS_bind (wpS_mono (wpS_forRange (I:=λ x c st'=>c.1=none/\Gh it lt as bs st (x+1) c.2.2.2.1 c.2.1 c.2.2.1 st') (Q:=λ c st'=>∃ x,c.1=some x/\Lk st st'/\Rm it lt as bs x) ?_ ?_ ?_) ?_)
   ·rintro x ⟨r,na,nb,out,mg⟩ st1 _ hx ⟨er,G⟩;dsimp only at er G;subst er
    walk_at "whr"
    have Ga:=G.m.ha;have Gb:=G.m.hb';refine wpS_bind (wpS_mono (wpS_forRange (I:=λ x c st'=>c.1=none/\Gh it lt as bs st (as.length+bs.length-na-nb+x) c.2.2.2.1 c.2.1 c.2.2.1 st') (Q:=λ c st'=>Bh it lt as bs st (as.length+bs.length-na-nb+1) c.1 c.2.2.2.1 c.2.1 c.2.2.1 st') ?_ ?_ ?_) ?_)
    ·rintro x2 ⟨r,na2,nb2,out,ac,bc⟩ st2 _ hx2 ⟨er,G2⟩;dsimp only at er G2;subst er
     walk_at "whr"
     have hk2:kindOf st2=κ:=G2.lk.k.trans hk;have ha:=G2.a;have hb:=G2.b;have ha':=G2.m.ha;have hb':=G2.m.hb';have hs:=G2.s;refine wpS_bind (cV (by omega) ?_);refine wpS_bind (cV (by omega) ?_);refine wpS_bind (mR hc hk2 (t.nb _ (bQ (by omega))) (t.na _ (bQ (by omega))) ?_)
     walk_at "whr"
     split
     ·rename_i e
      walk_at "whr"
      refine wpS_bind (cV (by omega) ?_)
      walk_at "whr"
      have m2:=G2.m.sd t G2.a e
      split
      ·rename_i e2
       exact wpS_pure (.inl ⟨_,rfl,G2.lk,m2.done t (by simpa using e2)⟩)
      ·rename_i e2
       have e2:¬ na2-1=0:=by simpa using e2
       have G3:Gh it lt as bs st (as.length+bs.length-na-nb+(x2+1)) _ (na2-1) nb2 st2:=⟨G2.lk,m2,by omega,G2.b,by omega⟩
       split
       ·exact wpS_pure (.inr ⟨rfl,G3.lk,G3.m,G3.a,G3.b,by dsimp only;omega⟩)
       ·exact wpS_pure ⟨rfl,G3⟩
     ·rename_i e
      walk_at "whr"
      refine wpS_bind (cV (by omega) ?_)
      walk_at "whr"
      have m2:=G2.m.sv t G2.a G2.b (by simpa using e)
      split
      ·rename_i e2
       exact wpS_pure (.inl ⟨_,rfl,G2.lk,m2.last t (by simpa using e2)⟩)
      ·rename_i e2
       have e2:¬ nb2-1=1:=by simpa using e2
       have G3:Gh it lt as bs st (as.length+bs.length-na-nb+(x2+1)) _ na2 (nb2-1) st2:=⟨G2.lk,m2,G2.a,by omega,by omega⟩
       split
       ·exact wpS_pure (.inr ⟨rfl,G3.lk,G3.m,G3.a,G3.b,by dsimp only;omega⟩)
       ·exact wpS_pure ⟨rfl,G3⟩
    ·rintro⟨r,na2,nb2,out,ac,bc⟩ st2 ⟨er,G2⟩;exact .inr ⟨er,G2.lk,G2.m,G2.a,G2.b,by have:=G2.s;dsimp only at this ⊢;omega⟩
    ·exact⟨rfl,G.lk,G.m,G.a,G.b,by dsimp only;omega⟩
    ·rintro⟨r,na2,nb2,out,ac,bc⟩ st2 hB;dsimp only[Bh] at hB
     walk_at "whr"
     rcases hB with ⟨v,rfl,lk,rm⟩ | ⟨rfl,G2⟩
     ·exact wpS_pure ⟨v,rfl,lk,rm⟩
     walk_at "whr"
     refine wpS_bind (wpS_lift (wpAny_rule ⟨rfl,?_⟩))
     walk_at "whr"
     refine wpS_bind (wpS_mono (wpS_forRange (I:=λ x c st'=>c.1=none/\Gh it lt as bs st (as.length+bs.length-na-nb+1) c.2.2.2.1 c.2.1 c.2.2.1 st') (Q:=λ c st'=>Bh it lt as bs st (as.length+bs.length-na-nb+1) c.1 c.2.2.2.1 c.2.1 c.2.2.1 st') ?_ ?_ ⟨rfl,G2⟩) ?_)
     ·clear G2;rintro x2 ⟨r,na2,nb2,out,mg,ac,bc⟩ st2 _ hx2 ⟨er,G2⟩;dsimp only at er G2;subst er
      walk_at "whr"
      refine l9 λ Q' q'=>?_
      extract_lets +onlyGivenNames -underBinder -merge jp
      have hjp:∀ u g,wpS (model prog w) A E s (jp u g) Q' st2:=by
       intro u g;unfold jp
       walk_at "whr"
       refine wpS_bind (lT λ st3 lk3=>?_);have G3:Gh it lt as bs st (as.length+bs.length-na-nb+1) out na2 nb2 st3:=⟨G2.lk.tr lk3,G2.m,G2.a,G2.b,G2.s⟩;clear G2;have hk3:kindOf st3=κ:=G3.lk.k.trans hk;have b3:=G3.b;have b3':=G3.m.hb';refine wpS_bind (cV (by omega) ?_);refine wpS_bind (afK hc t hk3 G3.a G3.m.ha (by omega) λ k k1 k2 k3=>?_)
       walk_at "whr"
       extract_lets +onlyGivenNames -underBinder -merge jp
       have hjp:∀ u na2 out,Gh it lt as bs st (as.length+bs.length-na-nb+1) out na2 nb2 st3->lt (bs.getD (nb2-1) 0) (as.getD (na2-1) 0)=false->wpS (model prog w) A E s (jp u na2 out) Q' st3:=by
        clear k1 k2 k3 G3;intro u na2 out G3 k3;unfold jp
        walk_at "whr"
        have a3:=G3.a;have a3':=G3.m.ha;have s3:=G3.s;refine wpS_bind (cV (by omega) ?_)
        walk_at "whr"
        have m4:=G3.m.sv t G3.a G3.b k3
        split
        ·rename_i e2
         exact wpS_pure (q' _ _ (.inl ⟨_,rfl,G3.lk,m4.last t (by simpa using e2)⟩))
        ·rename_i e2
         have e2:¬ nb2-1=1:=by simpa using e2
         refine wpS_bind (cV (by omega) ?_);refine wpS_bind (agt hc t hk3 (show na2-1<as.length by omega) (show 0<nb2-1 by omega) (by omega) λ k' k0' k1' k2' k3'=>?_)
         walk_at "whr"
         extract_lets +onlyGivenNames -underBinder -merge jp
         have hjp:∀ u nb3 out,Wh it lt as bs out na2 nb3->nb3<=nb2->1<nb3->lt (bs.getD (nb3-1) 0) (as.getD (na2-1) 0)=true->wpS (model prog w) A E s (jp u nb3 out) Q' st3:=by
          intro u nb3 out m5 h5 b5 e5;unfold jp
          walk_at "whr"
          refine wpS_bind (cV (by omega) ?_)
          walk_at "whr"
          have m6:=m5.sd t G3.a e5
          split
          ·rename_i e2
           exact wpS_pure (q' _ _ (.inl ⟨_,rfl,G3.lk,m6.done t (by simpa using e2)⟩))
          ·rename_i e2
           have e2:¬ na2-1=0:=by simpa using e2
           have G6:Gh it lt as bs st (as.length+bs.length-na-nb+1) _ (na2-1) nb3 st3:=⟨G3.lk,m6,by omega,b5,by omega⟩
           split
           ·exact wpS_pure (q' _ _ (.inr ⟨rfl,G6⟩))
           ·exact wpS_pure (q' _ _ ⟨rfl,G6⟩)
         clear_value jp
         split
         ·walk_at "whr"
          have m5:=m4.iI t k1' k0' G3.a k2'
          split
          ·rename_i e5
           exact wpS_pure (q' _ _ (.inl ⟨_,rfl,G3.lk,m5.last t (by simpa using e5)⟩))
          ·rename_i e5
           have e5:¬ k'=1:=by simpa using e5
           split
           ·rename_i e6
            have e6:k'=0:=by simpa using e6
            omega
           ·exact hjp _ _ _ m5 (by omega) (by omega) k3'
         ·rename_i e5
          have e5:k'=nb2-1:=by omega
          subst e5;exact hjp _ _ _ m4 (by omega) (by omega) k3'
       clear_value jp
       have s3:=G3.s
       split
       ·walk_at "whr"
        have m4:=G3.m.iF t k1 k2
        split
        ·rename_i e5
         exact wpS_pure (q' _ _ (.inl ⟨_,rfl,G3.lk,m4.done t (by simpa using e5)⟩))
        ·rename_i e5
         have e5:¬ k=0:=by simpa using e5
         exact hjp _ _ _ ⟨G3.lk,m4,by omega,G3.b,by omega⟩ (k3 (by omega))
       ·rename_i e5
        have e5:k=na2:=by omega
        subst e5;exact hjp _ _ _ G3 (k3 G3.a)
      clear_value jp
      split
      ·walk_at "whr"
       exact hjp _ _
      ·exact hjp _ _
     ·rintro⟨r,na2,nb2,out,mg,ac,bc⟩ st2 ⟨er,G2⟩;exact .inr ⟨er,G2⟩
     ·rintro⟨r,na2,nb2,out,mg,ac,bc⟩ st2 hB;dsimp only[Bh] at hB
      walk_at "whr"
      rcases hB with ⟨v,rfl,lk,rm⟩ | ⟨rfl,G2⟩
      ·exact wpS_pure ⟨v,rfl,lk,rm⟩
      walk_at "whr"
      refine wpS_bind (lT λ st3 lk3=>?_);exact wpS_pure ⟨rfl,G2.lk.tr lk3,G2.m,G2.a,G2.b,by have:=G2.s;have:=G.s;dsimp only;omega⟩
   ·rintro⟨r,na2,nb2,out,mg⟩ st2 ⟨er,G2⟩
    exfalso
    have:=G2.a;have:=G2.b;have:=G2.s;dsimp only at *;omega
   ·exact⟨rfl,.acj,Wh.start t,by dsimp only;omega,by dsimp only;omega,by dsimp only;omega⟩
   ·rintro⟨r,na2,nb2,out,mg⟩ st2 ⟨v,er,lk,rm⟩;dsimp only at er;subst er
    walk_at "whr"
    exact wpS_pure (q _ _ lk rm)
end
open L2 S PySem.W
section
variable {α:Type}{pre xs:Array α}{lo:Nat}
theorem vA(hl:pre.size=lo){i j:Nat}(hi:i<xs.size)(hj:j<xs.size):(pre++xs).swapIfInBounds (lo+i) (lo+j)=pre++xs.swapIfInBounds i j:=by
 subst hl;apply Array.ext_getElem?;intro k;rw[getElem?_swapIB (by rw[Array.size_append];omega) (by rw[Array.size_append];omega)];have g:∀ (ys:Array α) n,(pre++ys)[pre.size+n]? =ys[n]?:=λ ys n=>by rw[Array.getElem?_append_right (by omega),Nat.add_sub_cancel_left]
 by_cases h:k<pre.size
 ·rw[if_neg (by omega),if_neg (by omega),Array.getElem?_append_left h,Array.getElem?_append_left h]
 ·obtain⟨m,rfl⟩:∃ m,k=pre.size+m:=⟨k-pre.size,by omega⟩;rw[g,g,g,g,getElem?_swapIB hi hj];simp only[Nat.add_left_cancel_iff]
theorem oi(hl:pre.size=lo){i j:Nat}(hj:j<=xs.size):∀ d,2 * d<=j-i->mirror (pre++xs) (lo+i) (lo+j) d=pre++mirror xs i j d
 | 0,_=>rfl
 | d+1,h=>by rw[mirror_succ,mirror_succ,oi hl hj d (by omega),show lo+i+d=lo+(i+d) by omega,show lo+j-1-d=lo+(j-1-d) by omega];exact vA hl (by rw[mirror_size];omega) (by rw[mirror_size];omega)
theorem oW(hl:pre.size=lo){k:Nat}(hk:k<xs.size):∀ d,d<=k->bubble (pre++xs) (lo+k) d=pre++bubble xs k d
 | 0,_=>rfl
 | d+1,h=>by rw[bubble_succ,bubble_succ,oW hl hk d (by omega),show lo+k-d=lo+(k-d) by omega,show lo+(k-d)-1=lo+(k-d-1) by omega];exact vA hl (by rw[bubble_size];omega) (by rw[bubble_size];omega)
end
section
variable {prog:Program}{w:World}{A:Around}{E:VP}{s:Shared}{st:SortSt}{κ:SortKind}{f:Nat->Keyed}{lt:Nat->Nat->Bool}{N lo:Nat}{pre:Array Keyed}{p:Array Nat}
abbrev sA(st:SortSt)(pre:Array Keyed)(f:Nat->Keyed)(p:Array Nat):SortSt:=setArr st (pre++p.map f)
structure Bd(N:Nat)(p:Array Nat):Prop where
 z:p.size=N
 b:∀ x∈p.toList,x<N
theorem Bd.perm{p':Array Nat}(h:Bd N p)(q:p'.Perm p):Bd N p':=⟨q.size_eq.trans h.z,λ x hx=>h.b x ((Array.perm_iff_toList_perm.mp q).mem_iff.mp hx)⟩
theorem Bd.rev(h:Bd N p)(i j:Nat):Bd N (kas_rev p i j):=h.perm (mirror_perm p i j _)
theorem Bd.at(h:Bd N p){i:Nat}(hi:i<N):p.getD i 0<N:=by
 have hz:=h.z;have:p.getD i 0=p[i]:=by simp[Array.getD,show i<p.size by omega]
 rw[this];exact h.b _ (by simp)
def Ans(prog:Program)(w:World)(A:Around)(E:VP)(s:Shared)(κ:SortKind)(f:Nat->Keyed)(lt:Nat->Nat->Bool)(N:Nat):Prop:=
 ∀ i j,i<N->j<N->∀ (st:SortSt) (R:Option Bool->SortSt->Prop),kindOf st=κ->R (some (lt i j)) st->wpS (model prog w) A E s (lt' (f i) (f j)) R st
theorem aeU(hl:pre.size=lo)(b:Bd N p){i:Nat}(hi:i<N):(pre++p.map f)[lo+i]? =some (f (p.getD i 0)):=by
 have hz:=b.z;subst hl;rw[Array.getElem?_append_right (by omega),Nat.add_sub_cancel_left];have:p.getD i 0=p[i]:=by simp[Array.getD,show i<p.size by omega]
 rw[this];simp[show i<p.size by omega]
theorem ltA(hc:Ans prog w A E s κ f lt N)(hk:kindOf st=κ)(hl:pre.size=lo)(b:Bd N p){i j:Nat}(hi:i<N)(hj:j<N){R:Option Bool->SortSt->Prop}(r:R (some (lt (p.getD i 0) (p.getD j 0))) (sA st pre f p)) :
  wpS (model prog w) A E s (ltAt' (lo+i) (lo+j)) R (sA st pre f p):=by
 rw[ltAt'_eq];refine wpS_bind (wpS_get ?_);show wpS _ _ _ _ (do let x <- elem' (pre++p.map f) (lo+i);let y <- elem' (pre++p.map f) (lo+j);lt' x y) R (sA st pre f p);rw[elem'_eq,elem'_eq,aeU hl b hi,aeU hl b hj];exact wpS_bind (wpS_pure (wpS_bind (wpS_pure (hc _ _ (b.at hi) (b.at hj) _ R hk r))))
theorem aff(hl:pre.size=lo){i j:Nat}(hj:j<=p.size){R:Unit->SortSt->Prop}(r:R () (sA st pre f (kas_rev p i j))):wpS (model prog w) A E s (reverseSlice' (lo+i) (lo+j)) R (sA st pre f p):=by
 rw[reverseSlice'_eq];refine wpS_modify ?_;have e:mirror (pre++p.map f) (lo+i) (lo+j) ((lo+j-(lo+i)) / 2)=pre++(kas_rev p i j).map f:=by rw[oi hl (by rw[Array.size_map];exact hj) _ (by omega),show lo+j-(lo+i)=j-i by omega];congr 1;exact kas_swaps_map f (λ k=>i+k) (λ k=>j-1-k) _ p
 show R () (setArr st (mirror (pre++p.map f) (lo+i) (lo+j) ((lo+j-(lo+i)) / 2)));rw[e];exact r
theorem ahs(hl:pre.size=lo){k l:Nat}(hk:k<p.size){R:Unit->SortSt->Prop}(r:R () (sA st pre f (bubble p k (k-l)))):wpS (model prog w) A E s (moveDown' (lo+k) (lo+l)) R (sA st pre f p):=by
 rw[moveDown'_eq];refine wpS_modify ?_;have e:bubble (pre++p.map f) (lo+k) (lo+k-(lo+l))=pre++(bubble p k (k-l)).map f:=by rw[show lo+k-(lo+l)=k-l by omega,oW hl (by rw[Array.size_map];exact hk) _ (by omega)];congr 1;exact kas_swaps_map f (λ i=>k-i) (λ i=>k-i-1) _ p
 show R () (setArr st (bubble (pre++p.map f) (lo+k) (lo+k-(lo+l))));rw[e];exact r
theorem agJ(hc:Ans prog w A E s κ f lt N)(hk:kindOf st=κ)(hl:pre.size=lo)(b:Bd N p){a:Nat}(h1:1<=a)(ha:a<=N){Q:Option (Option Nat)×Nat->SortSt->Prop}(q:Q (none,go lt (kas_asc p (N-a) a)) (sA st pre f p)) :
  wpS (model prog w) A E s (forIn [a:N] ((none,a):Option (Option Nat)×Nat) λ _ __s=>do
   let __x <- ltAt' (lo+__s.snd) (lo+__s.snd-1)
   match __x with
   | some smaller=>if smaller=true then pure (ForInStep.done (none,__s.snd)) else pure (ForInStep.yield (none,__s.snd+1))
   | _=>pure (ForInStep.done (some none,__s.snd))) Q (sA st pre f p):=by
 refine wpS_forRange (I:=λ x c st'=>st'=sA st pre f p/\c=(none,x)/\go lt (kas_asc p (N-a) a)=go lt (kas_asc p (N-x) x)) ?_ ?_ ⟨rfl,rfl,rfl⟩
 ·rintro x c st' hax hx ⟨e1,rfl,e3⟩;rw[e1];dsimp only;rw[show lo+x-1=lo+(x-1) by omega];refine wpS_bind (ltA hc hk hl b hx (by omega) ?_);have ef:N-x=(N-(x+1))+1:=by omega
  rw[ef] at e3;simp only[kas_asc,go] at e3;dsimp only;cases e:lt (p.getD x 0) (p.getD (x-1) 0) with
  | true =>
   rw[e] at e3;simp only[if_true,go] at e3;refine wpS_pure ?_;show Q (none,x) _;rw[<- e3];exact q
  | false =>
   rw[e] at e3;simp only[Bool.false_eq_true,if_false] at e3 ⊢;exact wpS_pure ⟨rfl,rfl,e3⟩
 ·rintro c st' ⟨rfl,rfl,e3⟩;rw[show max a N=N by omega] at e3 ⊢;rw[Nat.sub_self] at e3;have e3:go lt (kas_asc p (N-a) a)=N:=e3;rw[e3] at q;exact q
theorem afL(hc:Ans prog w A E s κ f lt N)(hk:kindOf st=κ)(hl:pre.size=lo)(b:Bd N p){a:Nat}(h1:1<=a)(ha:a<=N){Q:Option (Option Nat)×Nat×Nat->SortSt->Prop}
  (q:∀ p' m u,go lt (kas_desc (N-a) p a 0)=(p',m,u)->Bd N p'->a<=m->m<=N->u+1<=m->Q (none,m,u) (sA st pre f p')) :
  wpS (model prog w) A E s (forIn [a:N] ((none,a,0):Option (Option Nat)×Nat×Nat) λ _ __s=>do
   let __x <- ltAt' (lo+__s.snd.fst) (lo+__s.snd.fst-1)
   match __x with
   | some smaller =>
    if smaller=true then
     if __s.snd.snd > 0 then do
      reverseSlice' (lo+__s.snd.fst-(__s.snd.snd+1)) (lo+__s.snd.fst)
      pure (ForInStep.yield (none,__s.snd.fst+1,0))
     else pure (ForInStep.yield (none,__s.snd.fst+1,0))
    else do
     let __x <- ltAt' (lo+__s.snd.fst-1) (lo+__s.snd.fst)
     match __x with
     | some larger =>
      if larger=true then pure (ForInStep.done (none,__s.snd.fst,__s.snd.snd))
      else pure (ForInStep.yield (none,__s.snd.fst+1,__s.snd.snd+1))
     | _=>pure (ForInStep.done (some none,__s.snd.fst,__s.snd.snd))
   | _=>pure (ForInStep.done (some none,__s.snd.fst,__s.snd.snd))) Q (sA st pre f p):=by
 refine wpS_forRange (I:=λ x c st'=>∃ p' u,st'=sA st pre f p'/\c=(none,x,u)/\Bd N p'/\u+1<=x/\go lt (kas_desc (N-a) p a 0)=go lt (kas_desc (N-x) p' x u)) ?_ ?_ ⟨p,0,rfl,rfl,b,by omega,rfl⟩
 ·rintro x c st' hax hx ⟨p',u,e1,rfl,b',hu,e3⟩;rw[e1];dsimp only;rw[show lo+x-1=lo+(x-1) by omega,show lo+x-(u+1)=lo+(x-(u+1)) by omega];refine wpS_bind (ltA hc hk hl b' hx (by omega) ?_);have ef:N-x=(N-(x+1))+1:=by omega
  rw[ef] at e3;simp only[kas_desc,go] at e3;dsimp only;cases e:lt (p'.getD x 0) (p'.getD (x-1) 0) with
  | true =>
   rw[e] at e3;simp only[if_true] at e3 ⊢
   by_cases hq:u > 0
   ·rw[if_pos hq] at e3 ⊢;refine wpS_bind (aff hl (by have:=b'.z;omega) (wpS_pure ⟨_,_,rfl,rfl,b'.rev _ _,by omega,e3⟩))
   ·rw[if_neg hq] at e3 ⊢;exact wpS_pure ⟨_,_,rfl,rfl,b',by omega,e3⟩
  | false =>
   rw[e] at e3;simp only[Bool.false_eq_true,if_false,go] at e3 ⊢;refine wpS_bind (ltA hc hk hl b' (by omega) hx ?_);dsimp only;cases e':lt (p'.getD (x-1) 0) (p'.getD x 0) with
   | true =>
    rw[e'] at e3;simp only[if_true,go] at e3 ⊢;exact wpS_pure (q _ _ _ e3 b' hax (by omega) hu)
   | false =>
    rw[e'] at e3;simp only[Bool.false_eq_true,if_false] at e3 ⊢;exact wpS_pure ⟨_,_,rfl,rfl,b',by omega,e3⟩
 ·rintro c st' ⟨p',u,rfl,rfl,b',hu,e3⟩;rw[show max a N=N by omega] at e3 hu ⊢;rw[Nat.sub_self] at e3;exact q _ _ _ e3 b' ha (Nat.le_refl _) hu
end
open L2 S PySem.W
local macro_rules | `(tactic| walk_at "whr")=>`(tactic| ((repeat (extract_lets +onlyGivenNames -underBinder -merge a; (fail_if_success (have:_->_:=a));subst a)); (try dsimp (config:={zeta:=false,zetaHave:=false}) only); (repeat (extract_lets +onlyGivenNames -underBinder -merge a; (fail_if_success (have:_->_:=a));subst a))))
section
variable {prog:Program}{w:World}{A:Around}{E:VP}{s:Shared}{st:SortSt}{κ:SortKind}{f:Nat->Keyed}{lt:Nat->Nat->Bool}{N lo:Nat}{pre:Array Keyed}{p:Array Nat}
theorem zu(lt:Nat->Nat->Bool)(p:Array Nat):∀ f n,n<=go lt (kas_asc p f n)/\go lt (kas_asc p f n)<=n+f
 | 0,n=>⟨Nat.le_refl _,Nat.le_refl _⟩
 | f+1,n=>by
  simp only[kas_asc,go]
  split
  ·exact⟨Nat.le_refl _,Nat.le_add_right _ _⟩
  ·have:=zu lt p f (n+1);omega
theorem aeE(hc:Ans prog w A E s κ f lt N)(hk:kindOf st=κ)(hl:pre.size=lo)(b:Bd N p)(hN:1<=N){Q:Option Nat->SortSt->Prop}
  (q:Q (some (go lt (kas_count N p)).1) (sA st pre f (go lt (kas_count N p)).2)):wpS (model prog w) A E s (countRun' lo N) Q (sA st pre f p):=by
 rw[countRun'_eq]
 walk_at "whr"
 refine wpS_bind (agJ hc hk hl b (Nat.le_refl 1) hN ?_)
 walk_at "whr"
 unfold kas_count at q;rw[dE] at q;have hn:=zu lt p (N-1) 1;generalize go lt (kas_asc p (N-1) 1)=n at q hn
 split
 ·rename_i e
  rw[if_pos e] at q;exact wpS_pure q
 ·rename_i e
  rw[if_neg e] at q;have e:¬ n=N:=by simpa using e
  extract_lets +onlyGivenNames -underBinder -merge jp
  have hjp:∀ p1 u,Bd N p1->Q (some (go lt (kas_descPart n N p1)).1) (sA st pre f (go lt (kas_descPart n N p1)).2)->wpS (model prog w) A E s (jp u) Q (sA st pre f p1):=by
   clear q b;intro p1 u b q;unfold jp
   walk_at "whr"
   refine wpS_bind (wpS_lift (wpAny_rule ⟨rfl,?_⟩))
   walk_at "whr"
   refine wpS_bind (afL hc hk hl b (by omega) (by omega) λ p2 m u2 e2 b2 hm hm2 hu=>?_)
   walk_at "whr"
   unfold kas_descPart at q;rw[dE,e2] at q
   extract_lets +onlyGivenNames -underBinder -merge jp
   have hjp:∀ p1 u,Bd N p1->Q (some (go lt (kas_tail3 m N p1)).1) (sA st pre f (go lt (kas_tail3 m N p1)).2)->wpS (model prog w) A E s (jp u) Q (sA st pre f p1):=by
    clear q b b2 e2;intro p1 u b q;unfold jp
    walk_at "whr"
    refine wpS_bind (aff (i:=0) hl (by have:=b.z;omega) ?_)
    walk_at "whr"
    refine wpS_bind (agJ hc hk hl (b.rev _ _) (by omega) hm2 ?_)
    walk_at "whr"
    unfold kas_tail3 at q;rw[dE] at q;exact wpS_pure q
   clear_value jp
   dsimp only at q
   split
   ·rename_i e3
    rw[if_pos e3] at q;rw[show lo+m-(u2+1)=lo+(m-(u2+1)) by omega];refine wpS_bind (aff hl (by have:=b2.z;omega) ?_);exact hjp _ _ (b2.rev _ _) q
   ·rename_i e3
    rw[if_neg e3] at q;exact hjp _ _ b2 q
  clear_value jp
  split
  ·rename_i e3
   rw[if_pos e3] at q;rw[show lo+n-1=lo+(n-1) by omega];refine wpS_bind (ltA (i:=0) hc hk hl b (by omega) (by omega) ?_)
   walk_at "whr"
   simp only[go] at q
   split
   ·rename_i e4
    rw[if_pos e4] at q;exact wpS_pure q
   ·rename_i e4
    rw[if_neg e4] at q;refine wpS_bind (aff (i:=0) hl (by have:=b.z;omega) ?_);exact hjp _ _ (b.rev _ _) q
  ·rename_i e3
   rw[if_neg e3] at q;exact hjp _ _ b q
theorem mQ(lt:Nat->Nat->Bool)(p:Array Nat)(k:Nat):∀ f l r,l<=r->go lt (kas_place p k f l r)<=r
 | 0,l,r,h=>h
 | f+1,l,r,h=>by
  simp only[kas_place]
  split
  ·exact h
  ·simp only[go]
   split
   ·have:=mQ lt p k f l ((l+r) / 2) (by omega);omega
   ·exact mQ lt p k f _ r (by omega)
theorem zF(lt:Nat->Nat->Bool){N:Nat}:∀ (f:Nat) (p:Array Nat) (k:Nat),k+f<=N->Un p N k->Un (go lt (kas_bin f p k)) N (k+f)
 | 0,p,k,hf,u=>u
 | f+1,p,k,hf,u=>by
  simp only[kas_bin];rw[dE];have h1:=mQ lt p k k 0 k (Nat.zero_le _);generalize go lt (kas_place p k k 0 k)=l at h1;have hs:=u.size;have ek:k-(k-l)=l:=by omega
  have lo:=u.lo;have hk:=u.hi k (Nat.le_refl _) (by omega);have G:∀ i,g (bubble p k (k-l)) i=if i=l then g p k else if l<i/\i<=k then g p (i-1) else g p i:=λ i=>by rw[adm (by omega) (by omega),ek]
  have r:=zF lt (N:=N) f (bubble p k (k-l)) (k+1) (by omega) ⟨(bubble_size _ _ _).trans hs,λ i hi=>?_,λ i hi hi2=>?_⟩
  ·rw[show k+1+f=k+(f+1) by omega] at r;exact r
  ·rw[G]
   split
   ·omega
   ·split
    ·have:=lo (i-1) (by omega);omega
    ·have:=lo i (by omega);omega
  ·rw[G,if_neg (by omega),if_neg (by omega)];exact u.hi i (by omega) hi2
theorem ahb(hc:Ans prog w A E s κ f lt N)(hk:kindOf st=κ)(hl:pre.size=lo)(b:Bd N p){n ok:Nat}(hn:n<=N){Q:Bool->SortSt->Prop}
  (q:Q true (sA st pre f (go lt (kas_bin (n-max ok 1) p (max ok 1))))):wpS (model prog w) A E s (binarySort' lo n ok) Q (sA st pre f p):=by
 rw[binarySort'_eq]
 walk_at "whr"
 refine wpS_bind (wpS_mono (wpS_forRange (I:=λ x c st'=>∃ p',st'=sA st pre f p'/\c.1=none/\Bd N p'/\go lt (kas_bin (n-max ok 1) p (max ok 1))=go lt (kas_bin (n-x) p' x)) (Q:=λ c st'=>c.1=none/\st'=sA st pre f (go lt (kas_bin (n-max ok 1) p (max ok 1)))) ?_ ?_ ⟨p,rfl,rfl,b,rfl⟩) ?_)
 ·rintro k c st' hk1 hk2 ⟨p',e1,e0,b',e2⟩;rw[e1]
  walk_at "whr"
  refine wpS_bind (wpS_mono (wpS_forRange (I:=λ x c st'=>st'=sA st pre f p'/\c.1=none/\c.2.1<=c.2.2/\c.2.2<=k/\go lt (kas_place p' k k 0 k)=go lt (kas_place p' k (k-x) c.2.1 c.2.2)) (Q:=λ c st'=>st'=sA st pre f p'/\c.1=none/\c.2.1=go lt (kas_place p' k k 0 k)) ?_ ?_ ⟨rfl,rfl,Nat.zero_le _,Nat.le_refl _,rfl⟩) ?_)
  ·rintro x ⟨c0,l,r⟩ st2 _ hx ⟨f1,f2,f3,f4,f5⟩;rw[f1];dsimp only at f2 f3 f4 f5;subst f2
   walk_at "whr"
   rw[show k-x=(k-(x+1))+1 by omega] at f5;simp only[kas_place] at f5
   split
   ·rename_i z
    rw[if_pos z] at f5;exact wpS_pure ⟨rfl,rfl,f5.symm⟩
   ·rename_i z
    rw[if_neg z] at f5
    walk_at "whr"
    refine wpS_bind (ltA hc hk hl b' (by omega) (by omega) ?_)
    walk_at "whr"
    simp only[go] at f5
    split
    ·rename_i z2
     rw[if_pos z2] at f5
     walk_at "whr"
     exact wpS_pure ⟨rfl,rfl,by dsimp only;omega,by dsimp only;omega,f5⟩
    ·rename_i z2
     rw[if_neg z2] at f5
     walk_at "whr"
     exact wpS_pure ⟨rfl,rfl,by dsimp only;omega,by dsimp only;omega,f5⟩
  ·rintro⟨c0,l,r⟩ st2 ⟨f1,f2,f3,f4,f5⟩;refine⟨f1,f2,?_⟩;rw[f5,show k-max 0 k=0 by omega];rfl
  ·rintro⟨c0,l,r⟩ st2 ⟨f1,f2,f3⟩;rw[f1];dsimp only at f2 f3;subst f2
   walk_at "whr"
   refine wpS_bind (ahs hl (by have:=b'.z;omega) (wpS_pure ⟨_,rfl,rfl,b'.perm (bubble_perm _ _ _),?_⟩));rw[e2,show n-k=(n-(k+1))+1 by omega];simp only[kas_bin];rw[dE,f3]
 ·rintro c st' ⟨p',rfl,e0,b',e2⟩;refine⟨e0,?_⟩;rw[e2,show n-max (max ok 1) n=0 by omega];rfl
 ·rintro c st' ⟨e0,rfl⟩
  walk_at "whr"
  rw[e0];exact wpS_pure q
end
open L2 S PySem.W
local macro_rules | `(tactic| walk_at "op_mergeAt")=>`(tactic| unfold $(Lean.mkIdent (Lean.mkPrivateNameCore `PySem.Builtin.List.W1All `PySem.Builtin.mergeAt)):ident)
local macro_rules | `(tactic| walk_at "whr")=>`(tactic| ((repeat (extract_lets +onlyGivenNames -underBinder -merge a; (fail_if_success (have:_->_:=a));subst a)); (try dsimp (config:={zeta:=false,zetaHave:=false}) only); (repeat (extract_lets +onlyGivenNames -underBinder -merge a; (fail_if_success (have:_->_:=a));subst a))))
section
variable {α:Type}
theorem oI(L X:List α)(k:Nat):(L++X).drop (L.length+k)=X.drop k:=by rw[List.drop_append,List.drop_eq_nil_of_le (by omega),Nat.add_sub_cancel_left];rfl
theorem ur(L X:List α)(k:Nat):(L++X).take (L.length+k)=L++X.take k:=by rw[List.take_append,List.take_of_length_le (by omega),Nat.add_sub_cancel_left]
theorem qJ:∀ (m:List α) (L:List α) (base k:Nat),base+k+m.length<=L.length ->
  (m.zipIdx k).foldl (λ(l:List α) (x:α×Nat)=>l.set (base+x.2) x.1) L=L.take (base+k)++(m++L.drop (base+k+m.length))
 | [],L,base,k,h=>by simp
 | p::m,L,base,k,h=>by
  simp only[List.length_cons] at h;rw[List.zipIdx_cons,List.foldl_cons,qJ m (L.set (base+k) p) base (k+1) (by rw[List.length_set];omega)];have e1:(L.set (base+k) p).take (base+(k+1))=L.take (base+k)++[p]:=by rw[show base+(k+1)=base+k+1 by omega,List.take_succ,List.take_set,List.set_eq_of_length_le (by simp;omega),List.getElem?_set_self (by omega)];rfl
  have e2:(L.set (base+k) p).drop (base+(k+1)+m.length)=L.drop (base+k+(p::m).length):=by rw[List.drop_set_of_lt (by omega),List.length_cons,show base+(k+1)+m.length=base+k+(m.length+1) by omega]
  rw[e1,e2];simp
theorem yH(m:List α)(a:Array α)(base:Nat)(h:base+m.length<=a.size) :
  (m.zipIdx.foldl (λ(l:Array α) (x:α×Nat)=>l.setIfInBounds (base+x.2) x.1) a)=(a.toList.take base++(m++a.toList.drop (base+m.length))).toArray:=by
 have main:∀ (zs:List (α×Nat)) (a:Array α),(zs.foldl (λ(l:Array α) (x:α×Nat)=>l.setIfInBounds (base+x.2) x.1) a).toList=zs.foldl (λ(l:List α) (x:α×Nat)=>l.set (base+x.2) x.1) a.toList:=by
  intro zs
  induction zs with
  | nil=>intro a;rfl
  | cons z zs ih=>intro a;rw[List.foldl_cons,List.foldl_cons,ih];simp
 apply Array.toList_inj.mp;rw[main,qJ m a.toList base 0 (by simpa using h)];simp
end
section
variable {prog:Program}{w:World}{A:Around}{E:VP}{s:Shared}{st:SortSt}{κ:SortKind}{it:Array Keyed}{lt:Nat->Nat->Bool}{N:Nat}{L as bs R:List Nat}
theorem abh{o P:List Nat}{base:Nat}(h:base+o.length<=P.length) :
  ((ar it o).toList.zipIdx.foldl (λ(l:Array Keyed) (x:Keyed×Nat)=>l.setIfInBounds (base+x.2) x.1) (ar it P))=ar it (P.take base++(o++P.drop (base+o.length))):=by
 rw[yH _ _ _ (by simpa [ar] using h)];simp[ar,List.map_take,List.map_drop]
theorem jb{L as R:List Nat}{j:Nat}(h:j<as.length):(L++(as++R)).getD (L.length+j) 0=as.getD j 0:=by simp[List.getD_eq_getElem?_getD,List.getElem?_append_right,List.getElem?_append_left h]
structure Nb(lt:Nat->Nat->Bool)(N:Nat)(as bs:List Nat):Prop where
 w:fU lt
 sa:as.Pairwise (B lt)
 sb:bs.Pairwise (B lt)
 cr:∀ x∈as,∀ y∈bs,x<y
 na:∀ x∈as,x<N
 nb:∀ x∈bs,x<N
 a0:0<as.length
 b0:0<bs.length
theorem agp(hc:gh prog w A s κ it lt N)(t:Nb lt N as bs)(hk:kindOf st=κ){Q:Option Nat->SortSt->Prop}
  (q:∀ k,k<=as.length->(∀ j,j<k->lt (bs.getD 0 0) (as.getD j 0)=false)->(k<as.length->lt (bs.getD 0 0) (as.getD k 0)=true)->Q (some k) st) :
  wpS (model prog w) A E s (fF false (kas_item it (bs.getD 0 0)) (ar it (L++(as++R))) L.length as.length 0) Q st:=by
 have b0:=t.b0;obtain⟨p,p1,p2⟩:=zZ (λ i=>!lt (bs.getD 0 0) (as.getD i 0)) as.length λ i j hij hj e=>by
  have e:lt (bs.getD 0 0) (as.getD j 0)=false:=by simpa using e
  have:=t.w.tr _ _ _ ((pw_at t.sa hij hj).le t.w) e;show(!lt (bs.getD 0 0) (as.getD i 0))=true;rw[this];rfl
 refine eJ (p:=p) t.a0 p1 (λ i hi R r=>?_) (q p p1 (λ j hj=>?_) λ hp=>?_)
 ·unfold dZ;refine wpS_bind (cV (by simp;omega) ?_);rw[jb hi,if_neg (by decide)];refine wpS_bind (mR hc hk (t.nb _ (bQ b0)) (t.na _ (bQ hi)) (wpS_pure ?_));have:=p2 i hi;show R (some (!lt (bs.getD 0 0) (as.getD i 0))) st;rw[this];exact r
 ·have:=p2 j (by omega);rw[decide_eq_true hj] at this
  simpa using this
 ·have:=p2 p hp;rw[decide_eq_false (Nat.lt_irrefl _)] at this
  simpa using this
theorem agj(hc:gh prog w A s κ it lt N)(t:Nb lt N as bs)(hk:kindOf st=κ){x:Nat}(hx:x∈as){Q:Option Nat->SortSt->Prop}
  (q:∀ k,k<=bs.length->(∀ j,j<k->lt (bs.getD j 0) x=true)->(∀ j,k<=j->j<bs.length->lt (bs.getD j 0) x=false)->Q (some k) st) :
  wpS (model prog w) A E s (fF true (kas_item it x) (ar it (L++(bs++R))) L.length bs.length (bs.length-1)) Q st:=by
 have b0:=t.b0;obtain⟨p,p1,p2⟩:=zZ (λ i=>lt (bs.getD i 0) x) bs.length λ i j hij hj e => 
  t.w.ack ((pw_at t.sb hij hj).le t.w) e
 refine eJ (p:=p) (by omega) p1 (λ i hi R r=>?_) (q p p1 (λ j hj=>?_) λ j hj hj2=>?_)
 ·unfold dZ;refine wpS_bind (cV (by simp;omega) ?_);rw[jb hi,if_pos rfl];refine mR hc hk (t.nb _ (bQ hi)) (t.na _ hx) ?_;have:=p2 i hi;rw[this];exact r
 ·have:=p2 j (by omega);rw[decide_eq_true hj] at this;exact this
 ·have:=p2 j hj2;rw[decide_eq_false (by omega)] at this;exact this
theorem ae5(t:Nb lt N as bs){k m:Nat}{o:List Nat}(hk:k<=as.length)(hm:m<=bs.length)(k2:∀ j,j<k->lt (bs.getD 0 0) (as.getD j 0)=false)(m2:∀ j,m<=j->j<bs.length->lt (bs.getD j 0) (as.getD (as.length-1) 0)=false)
  (o1:o.Pairwise (B lt))(o2:o.Perm (as.drop k++bs.take m)):(as.take k++(o++bs.drop m)).Pairwise (B lt)/\(as.take k++(o++bs.drop m)).Perm (as++bs):=by
 have a0:=t.a0;have b0:=t.b0;have ca:∀ x∈as.take k,∀ y∈bs,B lt x y:=λ x hx y hy=>by obtain⟨j,j1,j2,rfl⟩:=j0 (i:=0) (by simpa using hx);rw[Nat.zero_add] at j2 ⊢;have:=pw_head (i:=0) t.w t.sb b0 (B.of_le (k2 j j1) (t.cr _ (bQ j2) _ (bQ b0))) y;exact this (by simpa using hy)
 have cb:∀ y∈bs.drop m,∀ x∈as,B lt x y:=λ y hy x hx=>by
  obtain⟨j,j1,j2,rfl⟩:=j0 (k:=bs.length) (show y∈(bs.drop m).take bs.length by rw[List.take_of_length_le (by simp)];exact hy);obtain⟨i,i1,e⟩:=List.mem_iff_getElem.mp hx;have e:as.getD i 0=x:=by rw[List.getD_eq_getElem?_getD,List.getElem?_eq_getElem i1];exact e
  rw[<- e];exact pw_le t.w t.sa (show i<=as.length-1 by omega) (by omega) (B.of_le (m2 _ (by omega) j2) (t.cr _ (bQ (by omega)) _ (bQ j2)))
 have pa:(as.take k++as.drop k).Pairwise (B lt):=by rw[List.take_append_drop];exact t.sa
 have pb:(bs.take m++bs.drop m).Pairwise (B lt):=by rw[List.take_append_drop];exact t.sb
 rw[List.pairwise_append] at pa pb;constructor
 ·rw[List.pairwise_append,List.pairwise_append];refine⟨pa.1,⟨o1,pb.2.1,λ x hx y hy=>?_⟩,λ x hx y hy=>?_⟩
  ·rcases List.mem_append.mp (o2.mem_iff.mp hx) with z | z
   ·exact cb y hy x (List.mem_of_mem_drop z)
   ·exact pb.2.2 x z y hy
  ·rcases List.mem_append.mp hy with z | z
   ·rcases List.mem_append.mp (o2.mem_iff.mp z) with z | z
    ·exact pa.2.2 x hx y z
    ·exact ca x hx y (List.mem_of_mem_take z)
   ·exact ca x hx y (List.mem_of_mem_drop z)
 ·refine(List.Perm.append_left _ (o2.append_right _)).trans (List.Perm.of_eq ?_);rw[List.append_assoc,List.take_append_drop,<- List.append_assoc,List.take_append_drop]
theorem abD{σ:Type}{M:Model}{st st2:σ}{Q:PUnit->σ->Prop}(h:∀ st0,st0=st2->Q ⟨⟩ st0):wpS M A E s (set st2:StateT σ Sem PUnit) Q st:=by
 unfold wpS;rw[StateT.run_set];exact wpAny_pure ⟨rfl,h _ rfl⟩
theorem sy(hc:gh prog w A s κ it lt N)(t:Nb lt N as bs)(hk:kindOf st=κ)(hf:failedOf st=none)(ha:arrOf st=ar it (L++(as++(bs++R)))){i pw pw':Nat}
  (h1:(pendingOf st)[i]? =some (L.length,as.length,pw))(h2:(pendingOf st)[i+1]? =some (L.length+as.length,bs.length,pw')){Q:Bool->SortSt->Prop}
  (q:∀ st' o,PyProof.Rows.kindOf st'=κ->failedOf st'=none->arrOf st'=ar it (L++(o++R))->pendingOf st'=((pendingOf st).setIfInBounds i (L.length,as.length+bs.length,pw)).eraseIdxIfInBounds (i+1)->o.Pairwise (B lt)->o.Perm (as++bs)->Q true st') :
  wpS (model prog w) A E s (mergeAt' i) Q st:=by
 have b0:=t.b0;have a0:=t.a0;unfold mergeAt'
 walk_at "op_mergeAt"
 refine wpS_bind (wpS_get ?_)
 walk_at "whr"
 rw[h1,h2]
 walk_at "whr"
 refine wpS_bind (abD λ st0 e0=>?_);have k0:PyProof.Rows.kindOf st0=κ:=by rw[e0];exact hk
 have f0:failedOf st0=none:=by rw[e0];exact hf
 have a0':arrOf st0=ar it (L++(as++(bs++R))):=by rw[e0];exact ha
 have p0:pendingOf st0=((pendingOf st).setIfInBounds i (L.length,as.length+bs.length,pw)).eraseIdxIfInBounds (i+1):=by rw[e0]
 clear e0;dsimp only[PyProof.Rows.arrOf] at ha;rw[ha];have eb:(L++(as++(bs++R))).getD (L.length+as.length) 0=bs.getD 0 0:=by have:=jb (L:=L++as) (as:=bs) (R:=R) b0;rw[List.length_append,Nat.add_zero,List.append_assoc] at this;exact this
 refine wpS_bind (cV (by simp;omega) ?_);rw[eb];refine wpS_bind (agp hc t k0 λ k k1 k2 k3=>?_)
 walk_at "whr"
 split
 ·rename_i e
  have e:k=as.length:=by
   have:as.length-k=0:=by simpa using e
   omega
  have j3:=ae5 t (k:=k) (m:=0) (o:=[]) k1 (Nat.zero_le _) k2 (λ j _ hj=>?_) .nil (by rw[e];simp)
  ·rw[e] at j3;simp only[List.take_length,List.nil_append,List.drop_zero] at j3;refine wpS_pure (q _ (as++bs) k0 f0 ?_ p0 j3.1 j3.2);rw[a0',List.append_assoc]
  ·have k2':=k2 (as.length-1) (by omega);have:lt (bs.getD 0 0) (as.getD (as.length-1) 0)=false:=k2'
   by_cases z:j=0
   ·rw[z];exact this
   ·exact t.w.tr _ _ _ this ((pw_at t.sb (show 0<j by omega) hj).le t.w)
 ·rename_i e
  have e:¬ as.length-k=0:=by simpa using e
  have k3:=k3 (by omega);have ea:(L++(as++(bs++R))).getD (L.length+k+(as.length-k)-1) 0=as.getD (as.length-1) 0:=by rw[show L.length+k+(as.length-k)-1=L.length+(as.length-1) by omega];exact jb (by omega)
  refine wpS_bind (cV (by simp;omega) ?_);rw[ea];have eP:L++(as++(bs++R))=(L++as)++(bs++R):=by rw[List.append_assoc]
  have eL:L.length+as.length=(L++as).length:=by rw[List.length_append]
  have hla:as.getD (as.length-1) 0∈as:=bQ (by omega);rw[show ar it (L++(as++(bs++R)))=ar it ((L++as)++(bs++R)) by rw[eP]];rw[eL];refine wpS_bind (agj hc t k0 hla λ m m1 m2 m3=>?_);have hm0:0<m:=by
   by_cases z:m=0
   ·exfalso
    have h0:=m3 0 (by omega) b0;have:lt (bs.getD 0 0) (as.getD (as.length-1) 0)=true:=by
     by_cases z:k=as.length-1
     ·rw[<- z];exact k3
     ·exact t.w.xp k3 ((pw_at t.sa (show k<as.length-1 by omega) (by omega)).le t.w)
    rw[this] at h0;cases h0
   ·omega
  walk_at "whr"
  split
  ·rename_i z
   have z:m=0:=by simpa using z
   omega
  ·walk_at "whr"
   have ex:(ar it ((L++as)++(bs++R))).extract (L.length+k) (L++as).length=ar it (as.drop k):=by rw[ji,List.take_left' rfl,oI]
   have ey:(ar it ((L++as)++(bs++R))).extract (L++as).length ((L++as).length+m)=ar it (bs.take m):=by rw[rW,List.drop_left' rfl,List.take_append_of_le_length m1]
   rw[ex,ey];have T:Two lt N (as.drop k) (bs.take m):=by
    refine⟨t.w,t.sa.drop,t.sb.take,λ x hx y hy=>t.cr x (List.mem_of_mem_drop hx) y (List.mem_of_mem_take hy),λ x hx=>t.na x (List.mem_of_mem_drop hx),λ x hx=>t.nb x (List.mem_of_mem_take hx),by simp;omega,by simp;omega,?_,λ y hy=>?_⟩
    ·have a1:(bs.take m).getD 0 0=bs.getD 0 0:=by simp[List.getD_eq_getElem?_getD,List.getElem?_take,hm0]
     have a2:(as.drop k).getD 0 0=as.getD k 0:=by simp[List.getD_eq_getElem?_getD]
     rw[a1,a2];exact k3
    ·obtain⟨j,j1,j2,rfl⟩:=j0 (i:=0) (by simpa using hy);have a2:(as.drop k).getD ((as.drop k).length-1) 0=as.getD (as.length-1) 0:=by simp only[List.getD_eq_getElem?_getD,List.getElem?_drop,List.length_drop];rw[show k+(as.length-k-1)=as.length-1 by omega]
     rw[a2,Nat.zero_add];exact m2 j j1
   extract_lets +onlyGivenNames -underBinder -merge jp
   have hjp:∀ out st2,Lk st0 st2->Rm it lt (as.drop k) (bs.take m) out->wpS (model prog w) A E s (jp out) Q st2:=by
    intro out st2 lk rm;unfold jp;obtain⟨o,rfl,o1,o2⟩:=rm
    walk_at "whr"
    refine wpS_bind (wpS_modify ?_);refine wpS_bind (wpS_get ?_)
    walk_at "whr"
    have e4:failedOf st2=none:=lk.f.trans f0;have e5:arrOf st2=ar it (L++(as++(bs++R))):=lk.a.trans a0';have ol:=o2.length_eq;simp only[List.length_append,List.length_drop,List.length_take] at ol;obtain⟨j1,j2⟩:=ae5 t k1 m1 k2 m3 o1 o2;rw[show(failedOf st2).isNone=true by rw[e4];rfl];refine wpS_pure (q _ _ (lk.k.trans k0) e4 ?_ (lk.p.trans p0) j1 j2);show((ar it o).toList.zipIdx.foldl (λ(l:Array Keyed) (x:Keyed×Nat)=>l.setIfInBounds (L.length+k+x.2) x.1) (arrOf st2))=_;rw[e5,abh (by simp;omega)];congr 1;have d1:(L++(as++(bs++R))).take (L.length+k)=L++as.take k:=by rw[ur,List.take_append_of_le_length k1]
    have d2:(L++(as++(bs++R))).drop (L.length+k+o.length)=bs.drop m++R:=by rw[ol,eP,show L.length+k+(as.length-k+min m bs.length)=(L++as).length+m by rw[List.length_append];omega,oI,List.drop_append_of_le_length m1]
    rw[d1,d2];simp
   clear_value jp
   split
   ·exact wpS_bind (sF hc T k0 λ out st' lk rm=>hjp out st' lk rm)
   ·exact wpS_bind (sM hc T k0 λ out st' lk rm=>hjp out st' lk rm)
end
open L2 S PySem.W
theorem nh{α β:Type}(f:α->β):∀ (l:List α) (i:Nat),(l.eraseIdx i).map f=(l.map f).eraseIdx i
 | [],_=>rfl
 | _::_,0=>rfl
 | a::l,i+1=>by simp[List.eraseIdx_cons_succ,nh f l i]
def pd:Nat->List (List Nat)->List (Nat×Nat)
 | _,[]=>[]
 | a,r::rs=>(a,r.length)::pd (a+r.length) rs
theorem rF:∀ (r1 r2:List (List Nat)) (a:Nat),pd a (r1++r2)=pd a r1++pd (a+r1.flatten.length) r2
 | [],_,a=>by simp[pd]
 | r::r1,r2,a=>by simp only[List.cons_append,pd,List.flatten_cons,List.length_append];rw[rF r1 r2,Nat.add_assoc]
theorem vn:∀ (rs:List (List Nat)) (a:Nat),(pd a rs).length=rs.length
 | [],_=>rfl
 | r::rs,a=>by simp only[pd,List.length_cons,vn rs]
structure Sr(κ:SortKind)(it:Array Keyed)(lt:Nat->Nat->Bool)(rs:List (List Nat))(T:List Nat)(st:SortSt):Prop where
 k:PyProof.Rows.kindOf st=κ
 f:failedOf st=none
 a:arrOf st=ar it (rs.flatten++T)
 p:(pendingOf st).toList.map (λ x=>(x.1,x.2.1))=pd 0 rs
 s:∀ r∈rs,0<r.length/\r.Pairwise (B lt)
 c:rs.Pairwise λ r1 r2=>∀ x∈r1,∀ y∈r2,x<y
 m:rs.flatten.Perm (List.range rs.flatten.length)
section
variable {prog:Program}{w:World}{A:Around}{E:VP}{s:Shared}{st:SortSt}{κ:SortKind}{it:Array Keyed}{lt:Nat->Nat->Bool}{N:Nat}{rs:List (List Nat)}{T:List Nat}
theorem Sr.pz(S:Sr κ it lt rs T st):(pendingOf st).size=rs.length:=by
 have:=congrArg List.length S.p
 simpa [vn] using this
theorem ahG{i:Nat}(h:i+1<rs.length):∃ r1 as bs r2,rs=r1++as::bs::r2/\r1.length=i:=by refine⟨rs.take i,rs[i],rs[i+1],rs.drop (i+2),?_,by simp;omega⟩;rw[<- List.drop_eq_getElem_cons,<- List.drop_eq_getElem_cons,List.take_append_drop]
theorem kO(hc:gh prog w A s κ it lt N)(wk:fU lt)(S:Sr κ it lt rs T st)(hN:rs.flatten.length<=N){i:Nat}(h:i+1<rs.length){Q:Bool->SortSt->Prop}
  (q:∀ rs' st',Sr κ it lt rs' T st'->rs'.length+1=rs.length->rs'.flatten.length=rs.flatten.length->Q true st'):wpS (model prog w) A E s (mergeAt' i) Q st:=by
 obtain⟨r1,as,bs,r2,rfl,hi⟩:=ahG h;have mem:∀ r∈r1++as::bs::r2,∀ x∈r,x<N:=λ r hr x hx=>by have:x∈(r1++as::bs::r2).flatten:=List.mem_flatten.mpr ⟨r,hr,hx⟩;have:=S.m.mem_iff.mp this;rw[List.mem_range] at this;omega
 have sa:=S.s as (by simp);have sb:=S.s bs (by simp);have c:=S.c;rw[List.pairwise_append,List.pairwise_cons,List.pairwise_cons] at c;have t:Nb lt N as bs:=⟨wk,sa.2,sb.2,c.2.1.1 bs (by simp),mem as (by simp),mem bs (by simp),sa.1,sb.1⟩;have p:=S.p;rw[rF] at p;simp only[pd,Nat.zero_add] at p;have l1:(pd 0 r1).length=i:=by rw[vn];exact hi
 have g1:=congrArg (·[i]?) p;have g2:=congrArg (·[i+1]?) p;rw[List.getElem?_append_right (by omega),l1,Nat.sub_self,List.getElem?_cons_zero,List.getElem?_map] at g1;rw[List.getElem?_append_right (by omega),l1,Nat.add_sub_cancel_left,List.getElem?_cons_succ,List.getElem?_cons_zero,List.getElem?_map] at g2;obtain⟨⟨s1,n1,w1⟩,e1,e1'⟩:=Option.map_eq_some_iff.mp g1;obtain⟨⟨s2,n2,w2⟩,e2,e2'⟩:=Option.map_eq_some_iff.mp g2;cases e1';cases e2';rw[Array.getElem?_toList] at e1 e2;have a:=S.a;have fl:(r1++as::bs::r2).flatten++T=r1.flatten++(as++(bs++(r2.flatten++T))):=by simp
 rw[fl] at a;refine sy hc t S.k S.f a e1 e2 λ st' o k f a' p' o1 o2=>q (r1++o::r2) st' ⟨k,f,?_,?_,λ r hr=>?_,?_,?_⟩ (by simp;omega) ?_
 ·rw[a'];simp
 ·rw[p',rF];simp only[Array.toList_setIfInBounds,Array.toList_eraseIdxIfInBounds,pd,Nat.zero_add];rw[nh,List.map_set,p,List.set_append_right _ _ (by omega),l1,Nat.sub_self,List.set_cons_zero,List.eraseIdx_append_of_length_le (by omega),l1,Nat.add_sub_cancel_left,List.eraseIdx_cons_succ,List.eraseIdx_cons_zero];have ol:=o2.length_eq;rw[List.length_append] at ol;rw[ol,Nat.add_assoc]
 ·rcases List.mem_append.mp hr with z | z
  ·exact S.s r (by simp[z])
  ·rcases List.mem_cons.mp z with z | z
   ·subst z;have ol:=o2.length_eq;rw[List.length_append] at ol;exact⟨by have:=sa.1;omega,o1⟩
   ·exact S.s r (by simp[z])
 ·rw[List.pairwise_append,List.pairwise_cons];refine⟨c.1,⟨λ r hr x hx y hy=>?_,c.2.1.2.2⟩,λ r hr r' hr' x hx y hy=>?_⟩
  ·rcases List.mem_append.mp (o2.mem_iff.mp hx) with z | z
   ·exact c.2.1.1 r (by simp[hr]) x z y hy
   ·exact c.2.1.2.1 r hr x z y hy
  ·rcases List.mem_cons.mp hr' with z | z
   ·subst z;rcases List.mem_append.mp (o2.mem_iff.mp hy) with z | z
    ·exact c.2.2 r hr as (by simp) x hx y z
    ·exact c.2.2 r hr bs (by simp) x hx y z
   ·exact c.2.2 r hr r' (by simp[z]) x hx y hy
 ·have pp:(r1++o::r2).flatten.Perm (r1++as::bs::r2).flatten:=by simp only[List.flatten_append,List.flatten_cons];refine List.Perm.append_left _ ?_;rw[<- List.append_assoc];exact o2.append_right _
  rw[pp.length_eq];exact pp.trans S.m
 ·have ol:=o2.length_eq;simp only[List.length_append] at ol;simp;omega
theorem jX(a n:Nat):List.range (a+n)=List.range a++(List.range n).map (a + ·):=by rw[List.range_add]
theorem range_drop{a N:Nat}(h:a<=N):(List.range N).drop a=(List.range (N-a)).map (a + ·):=by rw[show N=a+(N-a) by omega,jX,List.drop_left' (by simp),show a+(N-a)-a=N-a by omega]
structure Nr(lt:Nat->Nat->Bool)(N lo n:Nat)(p:Array Nat)(r:List Nat):Prop where
 l:r.length=n
 s:r.Pairwise (B lt)
 e:p.toList.map (lo + ·)=r++(List.range N).drop (lo+n)
 p:r.Perm ((List.range n).map (lo + ·))
theorem aat{p:Array Nat}{n lo M:Nat}(hn:n<=M)(u:Un p M n)(pm:p.toList.Perm (List.range M))(up:Up (λ i j=>lt (lo+i) (lo+j)) p n):Nr lt (lo+M) lo n p ((p.toList.take n).map (lo + ·)):=by
 have hz:=u.size;have gt:∀ i,(h:i<p.size)->g p i=p.toList[i]'(by simpa using h):=λ i h=>by rw[sX];simp[h]
 have ed:p.toList.drop n=(List.range M).drop n:=by
  apply List.ext_getElem
  ·simp[hz]
  ·intro i h1 h2;simp only[List.length_drop,Array.length_toList] at h1;have:=u.hi (n+i) (by omega) (by omega);rw[gt _ (by omega)] at this;simp only[List.getElem_drop,List.getElem_range];exact this
 refine⟨by simp;omega,?_,?_,?_⟩
 ·rw[List.pairwise_map,List.pairwise_iff_getElem];intro i j hi hj hij;simp only[List.length_take,Array.length_toList] at hi hj;have:=up i j hij (by omega);rw[gt i (by omega),gt j (by omega)] at this;simp only[List.getElem_take];rcases this with z | ⟨z1,z2,z3⟩
  ·exact .inl z
  ·exact .inr ⟨z1,z2,by omega⟩
 ·rw[range_drop (show lo+n<=lo+M by omega),show lo+M-(lo+n)=M-n by omega];have:=congrArg (List.map (lo + ·)) ed;rw[range_drop hn,List.map_map] at this
  conv=>lhs;rw[<- List.take_append_drop n p.toList,List.map_append,this]
  congr 1;apply List.map_congr_left;intro x _;show lo+(n+x)=lo+n+x;omega
 ·refine List.Perm.map _ ?_;have e2:p.toList.take n++(List.range M).drop n=p.toList:=by rw[<- ed,List.take_append_drop]
  have e3:List.range n++(List.range M).drop n=List.range M:=by have:=List.take_append_drop n (List.range M);rw[List.take_range,Nat.min_eq_left hn] at this;exact this
  have:(p.toList.take n++(List.range M).drop n).Perm (List.range n++(List.range M).drop n):=by rw[e2,e3];exact pm
  exact(List.perm_append_right_iff _).mp this
end
open L2 S PySem.W
local macro_rules | `(tactic| walk_at "whr")=>`(tactic| ((repeat (extract_lets +onlyGivenNames -underBinder -merge a; (fail_if_success (have:_->_:=a));subst a)); (try dsimp (config:={zeta:=false,zetaHave:=false}) only); (repeat (extract_lets +onlyGivenNames -underBinder -merge a; (fail_if_success (have:_->_:=a));subst a))))
section
variable {prog:Program}{w:World}{A:Around}{E:VP}{s:Shared}{st:SortSt}{κ:SortKind}{it:Array Keyed}{lt:Nat->Nat->Bool}{N:Nat}{rs:List (List Nat)}{T:List Nat}
theorem sk{st:SortSt}{x:Array Keyed}(h:arrOf st=x):st=setArr st x:=by rw[<- h]
theorem Sr.more{r:List Nat}{lo n:Nat}{p:Array Nat}{st':SortSt}(S:Sr κ it lt rs (r++T) st)(hl:rs.flatten.length=lo)(h:Nr lt N lo n p r)(h1:1<=n)(hk:PyProof.Rows.kindOf st'=PyProof.Rows.kindOf st)(hf:failedOf st'=failedOf st)(ha:arrOf st'=arrOf st)
  (hp:(pendingOf st').toList.map (λ x=>(x.1,x.2.1))=(pendingOf st).toList.map (λ x=>(x.1,x.2.1))++[(lo,n)]):Sr κ it lt (rs++[r]) T st':=by
 refine⟨hk.trans S.k,hf.trans S.f,?_,?_,λ x hx=>?_,?_,?_⟩
 ·rw[ha,S.a];simp
 ·rw[hp,S.p,rF,hl,Nat.zero_add];simp[pd,h.l]
 ·rcases List.mem_append.mp hx with z | z
  ·exact S.s x z
  ·rw[List.mem_singleton] at z;subst z;exact⟨by rw[h.l];exact h1,h.s⟩
 ·rw[List.pairwise_append];refine⟨S.c,List.pairwise_singleton _ _,λ r1 hr1 r2 hr2 x hx y hy=>?_⟩;rw[List.mem_singleton] at hr2;subst hr2;have m1:=S.m.mem_iff.mp (List.mem_flatten.mpr ⟨r1,hr1,hx⟩);rw[List.mem_range,hl] at m1;obtain⟨j,_,rfl⟩:=List.mem_map.mp (h.p.mem_iff.mp hy);omega
 ·simp only[List.flatten_append,List.flatten_cons,List.flatten_nil,List.append_nil,List.length_append];rw[hl,h.l,jX];have m:=S.m;rw[hl] at m;exact m.append h.p
theorem kT{α β:Type}(f:α->α)(g:α->β)(h:∀ x,g (f x)=g x):∀ (l:List α) (i:Nat),(l.modify i f).map g=l.map g
 | [],0=>rfl
 | [],_+1=>rfl
 | a::l,0=>by simp[List.modify_cons,h]
 | a::l,i+1=>by simp[List.modify_cons,kT f g h l i]
theorem afk(b:Bool)(i:Nat):(if b=true then i-1 else i)<=i:=by split<;>omega
theorem rL{lo:Nat}(h:fU lt):fU λ i j=>lt (lo+i) (lo+j):=⟨λ a b=>h.aaV _ _,λ a b c=>h.tr _ _ _⟩
theorem gh.shift{lo:Nat}(hc:gh prog w A s κ it lt N)(hl:lo<=N):Ans prog w A E s κ (λ i=>kas_item it (lo+i)) (λ i j=>lt (lo+i) (lo+j)) (N-lo):=
 λ i j hi hj st R hk r=>mR hc hk (by omega) (by omega) r
theorem pZ(hc:gh prog w A s κ it lt N)(wk:fU lt)(hN:2<=N)(S:Sr κ it lt [] (List.range N) st){Q:Unit->SortSt->Prop}
  (q:∀ st' r,arrOf st'=ar it r->failedOf st'=none->r.Pairwise (B lt)->r.Perm (List.range N)->Q () st'):wpS (model prog w) A E s sortRuns' Q st:=by
 rw[sortRuns'_eq]
 walk_at "whr"
 refine wpS_bind (wpS_get ?_)
 walk_at "whr"
 have hz:(arrOf st).size=N:=by rw[S.a,lX];simp
 rw[hz];refine wpS_bind (wpS_mono (wpS_forRange (I:=λ x c st'=>c.1=none/\∃ rs,Sr κ it lt rs ((List.range N).drop rs.flatten.length) st'/\c.2=rs.flatten.length/\x<=rs.flatten.length/\rs.flatten.length<=N) (Q:=λ c st'=>c.1=none/\∃ rs,Sr κ it lt rs [] st'/\rs.flatten.length=N) ?_ ?_ ?_) ?_)
 ·rintro x ⟨c1,c2⟩ st1 _ hx ⟨e0,rs,S1,e1,h1,h2⟩;dsimp only at e0 e1;subst e0;rw[e1];clear e1 c2;generalize hlo:rs.flatten.length=lo at S1 h1 h2 ⊢
  walk_at "whr"
  split
  ·rename_i z
   refine wpS_pure ⟨rfl,rs,?_,by omega⟩;have:(List.range N).drop lo=[]:=by apply List.drop_eq_nil_of_le;rw[List.length_range];omega
   rw[this] at S1;exact S1
  ·rename_i z
   refine l9 λ Q' q'=>?_;have ea:arrOf st1=ar it rs.flatten++(List.toArray (List.range (N-lo))).map (λ i=>kas_item it (lo+i)):=by rw[S1.a,range_drop h2];simp[ar]
   refine Eq.mpr (congrArg (wpS (model prog w) A E s _ _) (sk ea)) ?_;have hpre:(ar it rs.flatten).size=lo:=by rw[lX];exact hlo
   have A1:Ans prog w A E s κ (λ i=>kas_item it (lo+i)) (λ i j=>lt (lo+i) (lo+j)) (N-lo):=hc.shift h2;have b1:Bd (N-lo) (List.toArray (List.range (N-lo))):=⟨by simp,λ x hx=>by simpa using hx⟩;have eg:∀ i,i<N-lo->g (List.toArray (List.range (N-lo))) i=i:=λ i hi=>by rw[sX];simp[hi]
   obtain⟨d1,d2,d3,d4,d5⟩:=rq (rL (lo:=lo) wk) (show 1<=N-lo by omega) (p:=List.toArray (List.range (N-lo))) ⟨by simp,λ i hi=>by rw[eg i (by omega)];exact hi,λ i _ hi=>eg i hi⟩ (by simp);refine wpS_bind (aeE A1 S1.k hpre b1 (by omega) ?_);generalize go (λ i j=>lt (lo+i) (lo+j)) (kas_count (N-lo) (List.toArray (List.range (N-lo))))=mp at d1 d2 d3 d4 d5 ⊢;obtain⟨m,p2⟩:=mp;dsimp only at d1 d2 d3 d4 d5
   walk_at "whr"
   extract_lets +onlyGivenNames -underBinder -merge jp
   have hjp:∀ u n p3,1<=n->n<=N-lo->Un p3 (N-lo) n->p3.toList.Perm (List.range (N-lo))->Up (λ i j=>lt (lo+i) (lo+j)) p3 n->wpS (model prog w) A E s (jp u n) Q' (sA st1 (ar it rs.flatten) (λ i=>kas_item it (lo+i)) p3):=by
    clear d1 d2 d3 d4 d5 m p2;intro u n p3 d1 d2 d3 d4 d5;unfold jp
    walk_at "whr"
    have nr:=aat (lt:=lt) (lo:=lo) d2 d3 d4 d5;rw[show lo+(N-lo)=N by omega] at nr;generalize (p3.toList.take n).map (lo + ·)=r at nr;have S2:Sr κ it lt rs (r++(List.range N).drop (lo+n)) (sA st1 (ar it rs.flatten) (λ i=>kas_item it (lo+i)) p3):=by
     refine⟨S1.k,S1.f,?_,S1.p,S1.s,S1.c,S1.m⟩;show ar it rs.flatten++p3.map (λ i=>kas_item it (lo+i))=_;have:p3.map (λ i=>kas_item it (lo+i))=ar it (r++(List.range N).drop (lo+n)):=by rw[<- nr.e];simp[ar,Function.comp_def];apply Array.toList_inj.mp;simp
     rw[this,eO]
    generalize sA st1 (ar it rs.flatten) (λ i=>kas_item it (lo+i)) p3=st2 at S2;refine wpS_bind (wpS_get ?_)
    walk_at "whr"
    extract_lets +onlyGivenNames -underBinder -merge jp
    have hjp:∀ u rs2 st3,Sr κ it lt rs2 (r++(List.range N).drop (lo+n)) st3->rs2.flatten.length=lo->wpS (model prog w) A E s (jp u) Q' st3:=by
     intro u rs2 st3 S3 h3;unfold jp
     walk_at "whr"
     refine wpS_bind (wpS_modify ?_)
     walk_at "whr"
     have fl:(rs2++[r]).flatten.length=lo+n:=by simp only[List.flatten_append,List.flatten_cons,List.flatten_nil,List.append_nil,List.length_append,h3,nr.l]
     refine wpS_pure (q' _ _ ⟨rfl,rs2++[r],?_,?_,?_,?_⟩)
     ·rw[fl];exact S3.more h3 nr d1 rfl rfl rfl (by show((pendingOf st3).push (lo,n,0)).toList.map _=_;simp)
     ·rw[fl]
     ·rw[fl];omega
     ·rw[fl];omega
    clear_value jp
    split
    ·rename_i s1 n1 _ _
     walk_at "whr"
     refine wpS_bind (wpS_mono (wpS_forRange (I:=λ x c st'=>c.1=none/\∃ rs2,Sr κ it lt rs2 (r++(List.range N).drop (lo+n)) st'/\rs2.flatten.length=lo) (Q:=λ c st'=>c.1=none/\∃ rs2,Sr κ it lt rs2 (r++(List.range N).drop (lo+n)) st'/\rs2.flatten.length=lo) ?_ (λ _ _ h=>h) ⟨rfl,rs,S2,hlo⟩) ?_)
     ·rintro x2 c st3 _ _ ⟨e3,rs2,S3,h3⟩
      walk_at "whr"
      refine wpS_bind (wpS_get ?_)
      walk_at "whr"
      split
      ·rename_i e4
       split at e4
       ·rename_i e5
        split
        ·exact wpS_pure ⟨rfl,rs2,S3,h3⟩
        ·refine wpS_bind (kO hc wk S3 (by omega) (by have:=S3.pz;omega) λ rs4 st4 S4 _ h4=>?_)
         walk_at "whr"
         rw[if_neg (by decide)];exact wpS_pure ⟨rfl,rs4,S4,h4.trans h3⟩
       ·cases e4
      ·exact wpS_pure ⟨rfl,rs2,S3,h3⟩
     ·rintro c st3 ⟨e3,rs2,S3,h3⟩
      walk_at "whr"
      rw[e3]
      walk_at "whr"
      refine wpS_bind (wpS_modify ?_);refine hjp _ rs2 _ ⟨S3.k,S3.f,S3.a,?_,S3.s,S3.c,S3.m⟩ h3;rw[<- S3.p];show((pendingOf st3).modify _ _).toList.map _=_;rw[Array.toList_modify];refine kT _ _ ?_ _ _;intro x;rfl
    ·exact hjp _ rs _ S2 hlo
   clear_value jp
   split
   ·rename_i z2
    refine wpS_bind (wpS_lift (wpAny_rule ⟨rfl,?_⟩))
    walk_at "whr"
    have bp:Bd (N-lo) p2:=⟨d3.size,λ x hx=>by simpa using d4.mem_iff.mp hx⟩;refine wpS_bind (ahb A1 S1.k hpre bp (Nat.min_le_left _ _) ?_)
    walk_at "whr"
    rw[if_neg (by decide)]
    walk_at "whr"
    have em:max m 1=m:=by omega
    rw[em];have hf:m+(min (N-lo) (minRun' N N 0)-m)=min (N-lo) (minRun' N N 0):=by omega
    have o1:=uG (rL (lo:=lo) wk) (min (N-lo) (minRun' N N 0)-m) p2 m (by omega) d3 d4 d5;have o2:=zF (λ i j=>lt (lo+i) (lo+j)) (min (N-lo) (minRun' N N 0)-m) p2 m (by omega) d3;rw[hf] at o1 o2;exact hjp _ _ _ (by omega) (by omega) o2 o1.1 o1.2
   ·exact hjp _ _ _ d1 d2 d3 d4 d5
 ·rintro⟨c1,c2⟩ st1 ⟨e0,rs,S1,e1,h1,h2⟩;refine⟨e0,rs,?_,by omega⟩;have:(List.range N).drop rs.flatten.length=[]:=by apply List.drop_eq_nil_of_le;rw[List.length_range];omega
  rw[this] at S1;exact S1
 ·exact⟨rfl,[],S,rfl,Nat.zero_le _,Nat.zero_le _⟩
 ·rintro⟨c1,c2⟩ st1 ⟨e0,rs,S1,e1⟩;dsimp only at e0;subst e0
  walk_at "whr"
  have hlen:rs.length<=N:=by
   rw[<- e1];have:∀ l:List (List Nat),(∀ r∈l,0<r.length)->l.length<=l.flatten.length:=by
    intro l
    induction l with
    | nil=>intro _;exact Nat.le_refl _
    | cons r l ih =>
     intro h;have h1:=h r (by simp);have h2:=ih λ r hr=>h r (by simp[hr]);simp only[List.length_cons,List.flatten_cons,List.length_append];omega
   exact this rs λ r hr=>(S1.s r hr).1
  refine wpS_bind (wpS_mono (wpS_forRange (I:=λ x c st'=>c.1=none/\∃ rs2,Sr κ it lt rs2 [] st'/\rs2.flatten.length=N/\rs2.length+x<=N) (Q:=λ c st'=>c.1=none/\∃ rs2,Sr κ it lt rs2 [] st'/\rs2.flatten.length=N/\rs2.length<=1) ?_ ?_ ⟨rfl,rs,S1,e1,by omega⟩) ?_)
  ·rintro x2 c st3 _ _ ⟨e3,rs2,S3,h3,h3'⟩
   walk_at "whr"
   refine wpS_bind (wpS_get ?_)
   walk_at "whr"
   have pz:=S3.pz
   split
   ·rename_i z
    exact wpS_pure ⟨rfl,rs2,S3,h3,by omega⟩
   ·rename_i z
    walk_at "whr"
    refine wpS_bind (kO hc wk S3 (by omega) (Nat.lt_of_le_of_lt (Nat.add_le_add_right (afk _ _) 1) (by omega)) λ rs4 st4 S4 h5 h4=>?_)
    walk_at "whr"
    rw[if_neg (by decide)];exact wpS_pure ⟨rfl,rs4,S4,h4.trans h3,by omega⟩
  ·rintro c st3 ⟨e3,rs2,S3,h3,h3'⟩;exact⟨e3,rs2,S3,h3,by omega⟩
  ·rintro c st3 ⟨e3,rs2,S3,h3,h3'⟩
   walk_at "whr"
   rw[e3]
   walk_at "whr"
   match rs2,h3,h3',S3 with
   | [],h3,_,_=>simp at h3;omega
   | [r],h3,_,S3 =>
    simp at h3;refine wpS_pure (q _ r ?_ S3.f (S3.s r (by simp)).2 ?_)
    ·rw[S3.a];simp
    ·have:=S3.m
     simpa [h3] using this
   | _::_::_,_,h,_=>simp at h
end
end Sw
namespace S
open PySem PySem.W PyProof.Rows
section
variable {prog:Program}{w:World}{A:Around}{E:VP}{s:Shared}
theorem B.aaV{lt:Nat->Nat->Bool}(h:fU lt){a b:Nat}(q:B lt a b)(r:B lt b a):False:=by
 rcases q with q | ⟨q1,q2,q3⟩
 ·rcases r with r | ⟨r1,r2,r3⟩
  ·have:=h.aaV _ _ q;rw[r] at this;cases this
  ·rw[q] at r2;cases r2
 ·rcases r with r | ⟨r1,r2,r3⟩
  ·rw[r] at q2;cases q2
  ·omega
theorem agB{lt:Nat->Nat->Bool}(h:fU lt):∀ {as bs:List Nat},as.Perm bs->as.Pairwise (B lt)->bs.Pairwise (B lt)->as=bs:=λ p q r =>
 List.Perm.eq_of_pairwise (λ _ _ _ _ x y=>(B.aaV h x y).elim) q r p
theorem abo{κ:SortKind}{ks vs:List Value}{lt:Nat->Nat->Bool}(hl:ks.length=vs.length)(h2:2<=vs.length)(wk:fU lt)
  (hc:∀ i j,i<vs.length->j<vs.length->∀ (C:Bool->Shared->Prop),C (lt i j) s->kas_ask prog w A κ ks i j C s) :
  wpAny (model prog w) A ((sortRuns').run (SortSt.mk' κ (ks.toArray.zip vs.toArray) #[] 7 none)) (λ r s'=>s'=s/\failedOf r.2=none/\(arrOf r.2).map (·.2)=List.toArray ((df lt vs.length).map λ i=>vs.getD i Value.none)/\(df lt vs.length).length=vs.length) E s:=by
 rw[kat_ask_eq hl] at hc;have e:=kas_range (ks.toArray.zip vs.toArray);rw[show(ks.toArray.zip vs.toArray).size=vs.length by simp[hl]] at e;have S0:Sw.Sr κ (ks.toArray.zip vs.toArray) lt [] (List.range vs.length) (SortSt.mk' κ (ks.toArray.zip vs.toArray) #[] 7 none):=by refine⟨rfl,rfl,?_,rfl,λ _ h=>by simp at h,List.Pairwise.nil,by simp⟩;show ks.toArray.zip vs.toArray=_;refine e.symm.trans ?_;unfold Sw.ar;rw[List.map_toArray];rfl
 have main:=Sw.pZ (prog:=prog) (w:=w) (A:=A) (E:=E) (s:=s) hc wk h2 S0 (Q:=λ _ st'=>failedOf st'=none/\(arrOf st').map (·.2)=List.toArray ((df lt vs.length).map λ i=>vs.getD i Value.none)/\(df lt vs.length).length=vs.length) λ st' r ha hf hp hr=>by
  obtain⟨o1,o2⟩:=qm wk vs.length;have er:r=df lt vs.length:=agB wk (hr.trans o1.symm) hp o2;refine⟨hf,?_,by have:=o1.length_eq;simpa using this⟩;rw[<- er];have:=kat_snds (ks:=ks) (vs:=vs) hl (st:=st') (p:=r.toArray) (by rw[ha];simp[Sw.ar])
  simpa using this
 exact wpAny_mono main (λ r s' h=>h) λ _ _ e=>e
end
end S
namespace D
open L2 S
section
variable {X:Cx}{K:FG}
end
open PySem.W
section
variable {X:Cx}{pins:PN}{σ:St}{f a kS:Addr}{xs:List V}{us:List Value}{e1:Nat}
theorem nJ{E:VP}(Wt:Nat->List V->Hp->Prop)(hak:a≠kS)(fA:∀ H:Hp,H a=none->jd X pins H a)(fS:∀ H:Hp,H kS=none->jd X pins H kS)(rx:Vals xs us)(h64:us.length<=1000)
  (turn:∀ (i:Nat) (ys:List V) (v:V) (u:Value) (pl:PN) (H:Hp) (s:Shared),xs[i]? =some v->RelV v u->Wt i ys H->Inv X pl σ H s->wpAny (model X.prog X.w) X.A (call (.ref f) [u]) (EP X pl σ λ y H'=>Wt (i+1) (ys++[y]) H') (λ _ _=>False) s)
  {body:Value->PUnit->Sem (ForInStep PUnit)}
  (hb:∀ x ks e (s:Shared) (C:VP),List.length ks<=1000->wpAny (model X.prog X.w) X.A (call (.ref f) [x]) (λ k s2=>s2.heap.get? kS=some (seqObj "list" (List.toArray ks) e)/\∀ h' c,Heap.SameBut kS s2.heap h'->h'.get? kS=some (seqObj "list" (List.toArray (ks++[k])) c)->C k {s2 with heap:=h'}) (λ _ _=>False) s ->
   wpAny (model X.prog X.w) X.A (body x ⟨⟩) (λ r s'=>r=.yield ⟨⟩/\∃ k c,s'.heap.get? kS=some (seqObj "list" (List.toArray (ks++[k])) c)/\C k s') E s) :
  ∀ (r:List Value) (i:Nat) (ys:List V) (ks:List Value) (e:Nat) (H:Hp) (s:Shared),us.drop i=r->i<=us.length->Vals ys ks->ks.length=i->Wt i ys H->Inv X pins σ H s->H a=none->H kS=none->s.heap.get? a=some (seqObj "list" #[] e1)->s.heap.get? kS=some (seqObj "list" (List.toArray ks) e) ->
   wpAny (model X.prog X.w) X.A (forIn r PUnit.unit body) (λ _ s'=>∃ ys ks e H,Vals ys ks/\ks.length=us.length/\Wt us.length ys H/\Inv X pins σ H s'/\H a=none/\H kS=none/\s'.heap.get? a=some (seqObj "list" #[] e1)/\s'.heap.get? kS=some (seqObj "list" (List.toArray ks) e)) E s
 | [],i,ys,ks,e,H,s,hr,hi,rv,hl,hW,I,na,nk,ga,gk=>by
  rw[List.forIn_nil];have:us.length<=i:=by have:=congrArg List.length hr;rw[List.length_drop] at this;simp at this;omega
  have ei:i=us.length:=by omega
  exact wpAny_pure ⟨ys,ks,e,H,rv,by omega,by rw[<- ei];exact hW,I,na,nk,ga,gk⟩
 | x::r,i,ys,ks,e,H,s,hr,hi,rv,hl,hW,I,na,nk,ga,gk=>by
  have hlt:i<us.length:=by have:=congrArg List.length hr;rw[List.length_drop] at this;simp at this;omega
  have hx:us[i]? =some x:=by
   have:=congrArg (·[0]?) hr
   simpa using this
  have hr':us.drop (i+1)=r:=by
   have:=congrArg List.tail hr
   simpa using this
  obtain⟨v,hv,ru⟩:∃ v,xs[i]? =some v/\RelV v x:=by obtain⟨v,hv⟩:∃ v,xs[i]? =some v:=⟨_,List.getElem?_eq_getElem (show i<xs.length by rw[rx.length];exact hlt)⟩;obtain⟨u,hu,ru⟩:=rx.get hv;rw[hx] at hu;cases hu;exact⟨v,hv,ru⟩
  rw[List.forIn_cons];have JP:=I.ahj (fA H na) (fS H nk) ga gk (λ _ z=>nomatch z) (λ _ z=>nomatch z);refine wpAny_bind (wpAny_mono (hb x ks e s (λ k s'=>∃ y H',RelV y k/\Wt (i+1) (ys++[y]) H'/\Inv X pins σ H' s'/\H' a=none/\H' kS=none/\s'.heap.get? a=some (seqObj "list" #[] e1)) (by omega) (wpAny_mono (turn i ys v x _ H s hv ru hW JP) (λ k s2 he=>?_) λ _ _ z=>z)) (λ q s' hq=>?_) λ _ _ z=>z)
  ·obtain⟨y,H2,J2,ry,hW2⟩:=he;obtain⟨J3,⟨ga2,na2⟩,gk2,nk2⟩:=J2.adj;refine⟨gk2,λ h' c s1 gk3=>⟨y,H2,ry,hW2,J3.yo (t':=s2.toks) (fS H2 nk2) λ b o hb e=>(s1.2 b hb).trans e,na2,nk2,(s1.2 a hak).trans ga2⟩⟩
  ·obtain⟨rfl,k,c,gk3,y,H2,ry,hW2,J3,na2,nk2,ga2⟩:=hq;show wpAny (model X.prog X.w) X.A (forIn r PUnit.unit body) _ E s';refine nJ Wt hak fA fS rx h64 turn hb r (i+1) (ys++[y]) (ks++[k]) c H2 s' hr' hlt ?_ (by simp[hl]) hW2 J3 na2 nk2 ga2 gk3;exact Vals.append rv (.cons ry .nil)
theorem oz{H:Hp}{s:Shared}{st:SortSt}{ks out:List Value}{e:Nat}{P:PySem.Fin->Shared->Prop}{E:VP}(hak:a≠kS)(fA:∀ H:Hp,H a=none->jd X pins H a)(fS:∀ H:Hp,H kS=none->jd X pins H kS)(I:Inv X pins σ H s)(na:H a=none)(nk:H kS=none)(ga:s.heap.get? a=some (seqObj "list" #[] e1))(gk:s.heap.get? kS=some (seqObj "list" (List.toArray ks) e))
  (hout:(arrOf st).map (·.2)=List.toArray out)(hz:out.length<=1000)(hkz:ks.length<=1000)(hf:failedOf st=none)
  (fin:∀ s' c,Inv X pins σ H s'->s'.heap.get? a=some (seqObj "list" (List.toArray out) c)->P (.done (.ret .none)) s'):wpAny (model X.prog X.w) X.A (ksk_tail a false e1 (.ref kS) st) P E s:=by
 have s1:=Heap.SameBut.update s.heap kS (Obj.mapSeq λ _=>(#[]:Array Value));have ga1:(s.heap.update kS (Obj.mapSeq λ _=>(#[]:Array Value))).get? a=some (seqObj "list" #[] e1):=(s1.2 a hak).trans ga;have s2:=Heap.SameBut.update (s.heap.update kS (Obj.mapSeq λ _=>(#[]:Array Value))) a (Obj.mapSeq λ _=>List.toArray out);obtain⟨c2,hc2⟩:∃ c2,((s.heap.update kS (Obj.mapSeq λ _=>(#[]:Array Value))).update a (Obj.mapSeq λ _=>List.toArray out)).get? a=some (seqObj "list" (List.toArray out) c2):=⟨_,get?_update_seq ga1 λ _=>List.toArray out⟩;have I1:=I.yo (t':=s.toks) (h':=s.heap.update kS (Obj.mapSeq λ _=>(#[]:Array Value))) (fS H nk) λ b o hb e=>(s1.2 b hb).trans e;have I2:=I1.yo (t':=s.toks) (h':=(s.heap.update kS (Obj.mapSeq λ _=>(#[]:Array Value))).update a (Obj.mapSeq λ _=>List.toArray out)) (fA H na) λ b o hb e=>(s2.2 b hb).trans e;unfold ksk_tail
 try dsimp only
 rw[hout];refine wpAny_bind (listUpdate_at gk rfl ?_ (by rw[List.size_toArray,sizeLine_eq];omega) (Nat.zero_le _));refine wpAny_bind (wpAny_letGo ?_);refine wpAny_bind (seqEpoch_at ga1 rfl ?_);simp only[Bool.false_eq_true,if_false];refine wpAny_bind (listUpdate_at ga1 rfl ?_ (Nat.zero_le _) (by rw[List.size_toArray,sizeLine_eq];omega));rw[hf];simp only[bne_self_eq_false,Bool.false_eq_true,if_false];exact wpAny_pure (fin _ c2 I2 hc2)
theorem uw{H:Hp}{s:Shared}{n:Nat}{lt:Nat->Nat->Bool}{P:PySem.Fin->Shared->Prop}{E:VP}(wk:fU lt)(Wt:Nat->List V->Hp->Prop)(I:Inv X pins σ H s)(hW:Wt 0 [] H)(ho:s.heap.get? a=some (seqObj "list" us.toArray n))(na:H a=none)(fA:∀ H:Hp,H a=none->jd X pins H a)(rx:Vals xs us)(h64:us.length<=1000)
  (turn:∀ (i:Nat) (ys:List V) (v:V) (u:Value) (pl:PN) (H:Hp) (s:Shared),xs[i]? =some v->RelV v u->Wt i ys H->Inv X pl σ H s->wpAny (model X.prog X.w) X.A (call (.ref f) [u]) (EP X pl σ λ y H'=>Wt (i+1) (ys++[y]) H') (λ _ _=>False) s)
  (cmp:∀ (ys:List V) (ks:List Value) (H:Hp) (s:Shared),Wt us.length ys H->Vals ys ks->Inv X pins σ H s->ks.length=us.length->2<=us.length->∃ κ,(∀ (Q:SortKind->Shared->Prop),Q κ s->wpAny (model X.prog X.w) X.A (keyKind' ks.toArray) Q (λ _ _=>False) s)/\∀ i j,i<us.length->j<us.length->∀ C:Bool->Shared->Prop,C (lt i j) s->kas_ask X.prog X.w X.A κ ks i j C s)
  (fin:∀ (ys:List V) (H:Hp) (s:Shared) (c:Nat),Wt us.length ys H->Inv X pins σ H s->H a=none->s.heap.get? a=some (seqObj "list" (List.toArray ((df lt us.length).map λ i=>us.getD i Value.none)) c)->P (.done (.ret .none)) s) :
  wpAny (model X.prog X.w) X.A (ksk_tree a (.ref f) false) P E s:=by
 have ha:a<s.heap.objs.size:=Heap.lt_size ho;have s1:=Heap.SameBut.update s.heap a (Obj.mapSeq λ _=>(#[]:Array Value));obtain⟨e1,ho1⟩:∃ e1,(s.heap.update a (Obj.mapSeq λ _=>(#[]:Array Value))).get? a=some (seqObj "list" #[] e1):=⟨_,get?_update_seq ho λ _=>#[]⟩;have I1:=I.yo (t':=s.toks) (h':=s.heap.update a (Obj.mapSeq λ _=>(#[]:Array Value))) (fA H na) λ b o hb e=>(s1.2 b hb).trans e;generalize hk:((s.heap.update a (Obj.mapSeq λ _=>(#[]:Array Value))).push (seqObj "tuple" us.toArray 0)).objs.size=kS;have hkS:kS=s.heap.objs.size+1:=by rw[<- hk,size_push',Heap.size_update]
 have hge:s.heap.objs.size<=kS:=by rw[hkS];exact Nat.le_succ _
 have nk:H kS=none:=I.hok.fresh hge;have fS:∀ H:Hp,H kS=none->jd X pins H kS:=λ H h=>I.pf hge h;have hak:a≠kS:=by rw[hkS];exact Nat.ne_of_lt (Nat.lt_succ_of_lt ha)
 unfold ksk_tree;refine wpAny_bind (listItems_at ho rfl ?_);refine wpAny_bind (listUpdate_at ho rfl ?_ (by rw[List.size_toArray,sizeLine_eq];omega) (Nat.zero_le _));refine wpAny_bind (seqEpoch_at ho1 rfl ?_);refine wpAny_bind (wpAny_newTuple ?_ (by show us.length<=_;rw[sizeLine_eq];omega));refine wpAny_bind (wpAny_newList ?_ (Nat.zero_le _));refine wpAny_holding ?_;have kp:∀ b o,(s.heap.update a (Obj.mapSeq λ _=>(#[]:Array Value))).get? b=some o->(((s.heap.update a (Obj.mapSeq λ _=>(#[]:Array Value))).push (seqObj "tuple" us.toArray 0)).push (seqObj "list" #[] 0)).get? b=some o:=λ b o e=>Heap.get?_push_of_some _ (Heap.get?_push_of_some _ e);have I2:=I1.kept (t':=s.toks) kp;have gk:(((s.heap.update a (Obj.mapSeq λ _=>(#[]:Array Value))).push (seqObj "tuple" us.toArray 0)).push (seqObj "list" #[] 0)).get? kS=some (seqObj "list" (List.toArray []) 0):=by rw[<- hk];exact Heap.get?_push_size _ rfl
 have ga:=kp a _ ho1;show wpAny _ _ (ksk_rest a (.ref f) false us.toArray e1 (.ref ((s.heap.update a (Obj.mapSeq λ _=>(#[]:Array Value))).push (seqObj "tuple" us.toArray 0)).objs.size)) _ _ _;rw[hk];unfold ksk_rest;refine wpAny_bind (wpAny_rule ?_)
 first
  | rw[List.forIn_toArray]
  | (rw[<- Array.forIn_toList];simp only[List.toList_toArray])
  | rw[<- Array.forIn_toList]
 refine wpAny_bind (wpAny_mono (nJ (e1:=e1) Wt hak fA fS rx h64 turn (λ x ks e s' C hz hx=>?_) us 0 [] [] 0 H _ rfl (Nat.zero_le _) .nil rfl hW I2 na nk ga gk) (λ _ s' hd=>?_) λ _ _ x=>x)
 ·refine wpAny_bind (wpAny_attempt (wpAny_mono hx (λ k s2 hk2=>?_) λ _ _ hF=>hF.elim));obtain⟨gk2,c⟩:=hk2;have s3:=Heap.SameBut.update s2.heap kS (Obj.mapSeq (·.push k));have ea:(List.toArray ks).push k=List.toArray (ks++[k]):=by simp
  obtain⟨c2,hc2⟩:∃ c2,(s2.heap.update kS (Obj.mapSeq (·.push k))).get? kS=some (seqObj "list" (List.toArray (ks++[k])) c2):=⟨_,by rw[<- ea];exact get?_update_seq gk2 (·.push k)⟩
  try dsimp only
  refine wpAny_bind (listUpdate_at gk2 rfl ?_ (by rw[List.size_toArray,sizeLine_eq];omega) (Nat.le_trans (Nat.le_of_eq (Array.size_push ..)) (by rw[List.size_toArray,sizeLine_eq];omega)));exact wpAny_pure ⟨rfl,k,c2,hc2,c _ c2 s3 hc2⟩
 ·obtain⟨ys,ks,e,H',rv,hl,hW',J,na',nk',ga',gk'⟩:=hd
  try dsimp only
  refine wpAny_bind (listItems_at gk' rfl ?_);have hz:us.toArray.size=us.length:=by simp
  unfold ksk_end
  try dsimp only
  simp only[Bool.false_eq_true,if_false]
  by_cases h2:us.length<2
  ·rw[if_pos (by rw[hz];exact h2),if_pos (by rw[hz];exact h2)];refine wpAny_bind (wpAny_pure ?_);rw[StateT.run_pure];refine wpAny_bind (wpAny_pure ?_);dsimp only;have out:=kat_snds (ks:=ks) (vs:=us) hl (st:=SortSt.mk' general' (ks.toArray.zip us.toArray) #[] 7 none) (p:=List.toArray (List.range us.length)) (by have e:=kas_range (ks.toArray.zip us.toArray);rw[show(ks.toArray.zip us.toArray).size=us.length by simp[hl]] at e;exact e.symm)
   refine oz hak fA fS J na' nk' ga' gk' out (by simp;omega) (by omega) rfl λ s3 c J3 g3=>fin ys H' s3 c hW' J3 na' ?_;unfold df;rw[if_pos h2]
   simpa using g3
  ·rw[if_neg (by rw[hz];exact h2),if_neg (by rw[hz];exact h2)];obtain⟨κ,hk',hc'⟩:=cmp ys ks H' s' hW' rv J hl (by omega);refine wpAny_bind (wpAny_mono (hk' (λ κ' s3=>κ'=κ/\s3=s') ⟨rfl,rfl⟩) (λ κ' s3 e3=>?_) λ _ _ z=>z.elim);obtain⟨rfl,rfl⟩:=e3;refine wpAny_bind (wpAny_mono (abo (ks:=ks) (vs:=us) hl (by omega) wk hc') ?_ λ _ _ e=>e)
   ·rintro⟨⟨⟩,st'⟩ s4 ⟨rfl,hf,har,hln⟩;dsimp only;exact oz hak fA fS J na' nk' ga' gk' har (by rw[List.length_map,hln];exact h64) (by omega) hf λ s4 c J4 g4=>fin ys H' s4 c hW' J4 na' g4
end
def ltI(ks:List Int)(i j:Nat):Bool:=decide (ks.getD i 0<ks.getD j 0)
theorem qS(ks:List Int):fU (ltI ks):=⟨λ a b h=>by simp only[ltI,decide_eq_true_eq,decide_eq_false_iff_not] at h ⊢;omega,λ a b c h1 h2=>by simp only[ltI,decide_eq_false_iff_not] at h1 h2 ⊢;omega⟩
section
variable {X:Cx}{pins:PN}{σ:St}{f d:Addr}
theorem ints_getD{vs:List Value}{ns:List Int}(h:IntsAre vs ns){i:Nat}(hi:i<ns.length):∃ t,vs.getD i Value.none=.int (ns.getD i 0) t:=by obtain⟨t,e⟩:=yq h i (ns.getD i 0) (by rw[List.getD_eq_getElem?_getD,List.getElem?_eq_getElem hi];rfl);exact⟨t,by rw[List.getD_eq_getElem?_getD,e];rfl⟩
theorem yh{s:Shared}{ns:List Int}{ks:List Value}(rv:Vals (ns.map V.int) ks)(h2:2<=ns.length) :
  ∃ κ,(∀ (Q:SortKind->Shared->Prop),Q κ s->wpAny (model X.prog X.w) X.A (keyKind' ks.toArray) Q (λ _ _=>False) s)/\∀ i j,i<ns.length->j<ns.length->∀ C:Bool->Shared->Prop,C (ltI ns i j) s->kas_ask X.prog X.w X.A κ ks i j C s:=by
 have hI:IntsAre ks ns:=by have:=intsAre_of rv;simpa using this
 have hl:=vo hI;refine⟨oneType',λ Q q=>?_,λ i j hi hj C c=>?_⟩
 ·rw[ksk_kind (kz:=ns) (by simpa using hI) (by rw[List.size_toArray];omega)];exact wpAny_pure q
 ·obtain⟨t,e1⟩:=ints_getD hI hi;obtain⟨u,e2⟩:=ints_getD hI hj;unfold kas_ask;rw[e1,e2,keyLt'_oneType];exact oneLt_int c
theorem pF{H:Hp}{s:Shared}{xs:List V}{lt:Nat->Nat->Bool}{Q:VK}{E:VP}(wk:fU lt)(Wt:Nat->List V->Hp->Prop)(I:Inv X pins σ H s)(hW:Wt 0 [] H)(hq:SqL X.K H d xs)(hz:xs.length<=1000)
  (turn:∀ (i:Nat) (ys:List V) (v:V) (u:Value) (pl:PN) (H:Hp) (s:Shared),xs[i]? =some v->RelV v u->Wt i ys H->Inv (rp X) pl σ H s->wpAny (model X.prog X.w) (rp X).A (call (.ref f) [u]) (EP (rp X) pl σ λ y H'=>Wt (i+1) (ys++[y]) H') (λ _ _=>False) s)
  (cmp:∀ (ys:List V) (ks:List Value) (H:Hp) (s:Shared),Wt xs.length ys H->Vals ys ks->Inv (rp X) pins σ H s->ks.length=xs.length->2<=xs.length->∃ κ,(∀ (Q:SortKind->Shared->Prop),Q κ s->wpAny (model X.prog X.w) (rp X).A (keyKind' ks.toArray) Q (λ _ _=>False) s)/\∀ i j,i<xs.length->j<xs.length->∀ C:Bool->Shared->Prop,C (lt i j) s->kas_ask X.prog X.w (rp X).A κ ks i j C s)
  (fin:∀ (ys:List V) (H':Hp),Wt xs.length ys H'->∀ l,H' l=none->Q (.ref l) (upd H' l (.lst ((df lt xs.length).map λ i=>xs.getD i .non)))) :
  wpAny (model X.prog X.w) X.A (call (.builtin "sorted") [.ref d] [(Str.ofString "key",.ref f)]) (EP X pins σ Q) E s:=by
 obtain⟨its,rv,pl,_⟩:=I.list hq;have hln:=rv.length;refine call_function_entry_kw kind_sorted plain_sorted entry_sorted (ksk_s1 _ _) ?_;unfold Builtin.«sorted»;refine wpAny_bind (m:=checkCount "sorted" 1 1 _) (wpAny_pure (wpAny_bind (collect_list pl.isList (wpAny_bind (wpAny_newList ?_)) (by rw[sizeLine_eq];omega))));have at1:(ly s.heap its).get? (s.heap.objs.size+1)=some (seqObj "list" its.toArray 0):=by
  unfold ly;rw[<- jY (h:=s.heap) (vs:=its)];exact Heap.get?_push_size _ rfl
 show wpAny _ _ _ _ _ {s with heap:=ly s.heap its};rw[jY];have I2:=I.kept (t':=s.toks) (h':=ly s.heap its) λ b o e=>sU e;have na:H (s.heap.objs.size+1)=none:=I.hok.fresh (Nat.le_succ _);have fA:∀ H:Hp,H (s.heap.objs.size+1)=none->jd X pins H (s.heap.objs.size+1):=λ H h=>I.pf (Nat.le_succ _) h;refine wpAny_bind (wpAny_holding (wpAny_call_entry_kw slot_list_sort ⟨_,at1,rfl⟩ entry_list_sort ?body (ksk_l1 _ _)))
 case body =>
  show wpAny (model X.prog X.w) X.A.in1.in1 (Builtin.«list.sort» ⟨[.ref (s.heap.objs.size+1)],[(Str.ofString "key",.ref f)]⟩) _ _ _;rw[ksk_t1];refine uw (X:=rp X) (lt:=lt) wk Wt (Inv.in1 (Inv.in1 I2)) hW at1 na fA rv (by omega) (λ i ys v u pl H s hv ru hW' J=>turn i ys v u pl H s hv ru hW' J) (λ ys ks H s hW' rv J hl h2=>?_) λ ys H' s' c hW' J na' g=>?_
  ·rw[<- hln] at hW' hl h2 ⊢;exact cmp ys ks H s hW' rv J hl h2
  ·have J':Inv X pins σ H' s':=Inv.agE (Inv.agE J);have ov:=xA (lt:=lt) rv;have hov:((df lt its.length).map λ i=>xs.getD i .non).length<=sizeLine:=by rw[List.length_map];have:=(mT lt its.length).length_eq;rw[List.length_range] at this;have:=s16;omega
   have J2:=Inv.yF J' g (fA H' na') hov ov;refine⟨_,rfl,wpAny_pure ⟨_,rfl,.ref _,_,J2,rfl,?_⟩⟩;rw[<- hln] at hW' ⊢;exact fin ys H' hW' _ na'
end
def acb(ns:List Int)(ws:List W):List W:=(df (ltI ns) ws.length).map λ i=>ws.getD i (.d .none)
def uV(P:Addr)(q:Str)(lpos:Pos)(to tb:TD)(fr:List Nat)(τ:DS)(M:MH)(Q:QD):Prop:=to τ M λ w M1=>∃ a ws,∃ ns:List Int,w=.m a/\M1 a=some (.lst ws)/\ws.length<=1000/\M1 P=some (.code q lpos)/\ns.length=ws.length/\(∀ (i:Nat) w n,ws[i]? =some w->ns[i]? =some n->tb (aaX w fr τ) M1 λ y M2=>y=.d (.int n)/\M2=M1)/\∀ p,M1 p=none->Q (.m p) (ax M1 p (.lst (acb ns ws)))
open PySem.W (kla_obj kla_fn)
section
variable {X:Cx}{K:FG}
variable {P cd:Addr}{q x:Str}{lpos pos p kpos:Pos}{params:Arguments}{body o:Expr}{sc:Scope}{fr:List Nat}{to tb:TD}{k:Nat}
theorem uI(hr:cW (k+3) X.A)(hc:X.calm=true)(hg:Gl X "sorted")(hm:X.mg "sorted" = none)(L:m9 X sc x fr)(hcode:X.env.code=.ref cd)(hcd:W.codeHdIn X.K cd P=true)(hq:X.env.qual ++ "<lambda>" = q)
  (hb:∀ cl pm cdv ctv u,bindArgs (kla_fn "<lambda>" q params body sc cl pm cdv ctv) ⟨[u],[]⟩=pure [(x,u)])(ho:PD X o to)
  (he:∀ cl f c s H pl,cW k (wL (rp X) q sc (vp X x fr) cl f c s H pl).A->PD (wL (rp X) q sc (vp X x fr) cl f c s H pl) body tb)(hso:gH o=false:=by rfl)(hdef:defaultsOf params X.env=([],[]):=by rfl) :
  PD X (.Call (.Name "sorted" p) [o] [⟨some "key",.Lambda params body sc lpos,kpos⟩] pos) (uV P q lpos to tb fr):=by
 intro pins s σ H Q I h;subst hq;have hst:starEach [o] X.env=(false,eval o X.env)::starEach [] X.env:=eW o [] X.env hso;have pa:PA X [o] (yG (up X.K to) adi):=u3 ho yU hst;have pk:PK X [⟨some "key",.Lambda params body sc lpos,kpos⟩] (yG (agR X P (X.env.qual ++ "<lambda>") params body sc lpos) adi):=ab9 (adL L hcode hcd hdef) aes;obtain⟨τ,M,Qd,A,h,kk⟩:=h;refine wpAny_Call_Name_kw (kL I hg hm vT (callWith_kw (he:=by rw[hst];rfl) (hplain:=e9 pos X.env [o] (by simp[hso])) ?_));refine thn (pa pos pins s σ H (λ vs H1=>∃ v w M1,vs=[v]/\Kp H H1/\aA X.K H1 w v/\cB X.K H1 M1/\∃ a ws,∃ ns:List Int,w=.m a/\M1 a=some (.lst ws)/\ws.length<=1000/\M1 P=some (.code (X.env.qual ++ "<lambda>") lpos)/\ns.length=ws.length/\(∀ (i:Nat) w n,ws[i]? =some w->ns[i]? =some n->tb (aaX w fr τ) M1 λ y M2=>y=.d (.int n)/\M2=M1)/\∀ p,M1 p=none->Qd (.m p) (ax M1 p (.lst (acb ns ws)))) I
  ⟨τ,M,_,A,h,λ x H1 w M1 kp r m z=>⟨x,w,M1,rfl,kp,r,m,z⟩⟩) λ us s1 ⟨vs,H1,I1,r1,hx⟩=>?_
 obtain⟨v,w,M1,ev,kp1,rw1,m1,a,ws,ns,ew,hMa,hz,hP,hnl,hkey,hfin⟩:=hx;subst ev ew;have ea:v=.ref a:=rw1;subst ea;obtain⟨u,rfl,ru⟩:=vals1 r1;cases (show u=Value.ref a from ru);obtain⟨ps,hT,ht,hcA⟩:=m1 P _ hP;refine thn (pk pos pins s1 σ H1 (λ ks H2=>∃ f cl,ks=[.ref f]/\Kp H1 H2/\cB X.K H2 M1/\afy X sc cl/\acr H2 (X.env.qual ++ "<lambda>") x params body sc cl ((X.mg "__name__").getD .none) f) I1 ?_) λ kus s2 ⟨ks,H2,I2,r2,f,cl,ek,kp2,m2,hcl,hlam⟩=>?_
 ·refine⟨ps,hT,ht,?_⟩;rcases hcA with hn | ⟨c,oc,vs,t,e1,e2,e3,e4⟩
  ·refine .inl ⟨hn,λ c f oc vs t ctv cl hcl hc0 hf0 hcf hd hv=>?_⟩;obtain⟨k3,m3⟩:=sG m1 hP hT ht hn hc0 hd hv;have fP:f≠P:=Ne.symm (aF hT hf0);have cP:c≠P:=Ne.symm (aF hT hc0);have hf1:upd (upd H1 c (.frz oc (.own 0))) P (.tbl (lV ps lpos c)) f=none:=by rw[ah fP,ah (Ne.symm hcf)];exact hf0
   exact⟨f,cl,rfl,k3.trans (Kp.new hf1),m3.new hf1,hcl,c,ctv,oc,vs,t,ao,by rw[ah hcf,ah cP,ao],hd,hv⟩
  ·exact .inr ⟨c,oc,vs,t,e1,e2,e3,e4,λ f ctv cl hcl hf0=>⟨f,cl,rfl,Kp.new hf0,m1.new hf0,hcl,c,ctv,oc,vs,t,ao,by rw[ah (aF e2 hf0)];exact e2,e3,e4⟩⟩
 subst ek;obtain⟨ku,rfl,rk⟩:=vals1 r2;cases (show ku=Value.ref f from rk);show wpAny _ _ (call (.builtin "sorted") [.ref a] [(Str.ofString "key",.ref f)]) _ _ s2;have L':m9 (rp X) sc x fr:=⟨L.kind,L.co,L.gen,L.cell,L.free,L.own,L.fr⟩;have A2:∀ {H'},Kp H2 H'->cB X.K H' M1->Abs X.K H' σ τ M1:=λ kp m=>A.go (kp1.trans (kp2.trans kp)) m;obtain⟨us,hl,pr⟩:=m2 _ _ hMa;have hul:=aI.length pr;refine pF (lt:=ltI ns) (qS ns) (λ i ys H'=>Kp H2 H'/\cB X.K H' M1/\ys=(ns.take i).map V.int) I2 ⟨Kp.refl _,m2,by simp⟩ (SqL.of hl) (by omega) (λ i ys v u pl H' s' hvi ru hW J=>?_) (λ ys ks H' s' hW rv J hlk h2=>?_) λ ys H' hW l hln=>?_
 ·have hi:i<us.length:=(List.getElem?_eq_some_iff.mp hvi).1;obtain⟨w,hwi⟩:∃ w,ws[i]? =some w:=⟨_,List.getElem?_eq_getElem (show i<ws.length by omega)⟩;obtain⟨n,hni⟩:∃ n,ns[i]? =some n:=⟨_,List.getElem?_eq_getElem (show i<ns.length by omega)⟩;obtain⟨v',hv',rv'⟩:=aI.get pr hwi;rw[hvi] at hv';cases hv';refine abg (X:=rp X) (k:=k) (hr.in1.in1) hc L' hcl.1 hcl.2 (hb cl _) (te:=up X.K tb) (λ c s H pl hr'=>he cl f c s H pl hr') J (D.acr.keep hlam hW.1) ru ?_;refine⟨_,M1,_,aa9 (A2 hW.1 hW.2.1) (w:=w) (aA.keep hW.1 rv') fr,hkey i w n hwi hni,λ y H3 w3 M3 kp3 r3 m3 z'=>?_⟩;obtain⟨e1,e2⟩:=z';subst e1 e2;refine⟨hW.1.trans kp3,m3,?_⟩;have ey:y=V.int n:=by simpa [aA,ay] using r3
  rw[ey,hW.2.2,List.take_succ,hni];simp
 ·obtain⟨_,_,rfl⟩:=hW;rw[<- hul,<- hnl,List.take_length] at rv;rw[<- hul,<- hnl] at h2 ⊢;exact yh (X:=rp X) rv h2
 ·have kp:Kp H' (upd H' l (.lst ((df (ltI ns) us.length).map λ i=>us.getD i .non))):=Kp.new hln;refine kk _ _ (.m l) _ (kp1.trans (kp2.trans (hW.1.trans kp))) rfl (hW.2.1.put (mo:=.lst (acb ns ws)) kp ⟨_,ao,?_⟩) (hfin l (hW.2.1.free hln));have pr':=aI.keep (hW.1.trans kp) pr;have mem:∀ i∈df (ltI ns) us.length,i<ws.length:=λ i hi=>by
   have:i<us.length:=by simpa using (mT _ _).mem_iff.mp hi
   omega
  unfold acb;rw[hul];generalize upd H' l (.lst ((df (ltI ns) us.length).map λ i=>us.getD i .non))=H4 at pr';clear kp hfin;generalize df (ltI ns) us.length=is at mem
  induction is with
  | nil=>exact .nil
  | cons i is ih =>
   refine .cons ?_ (ih λ j hj=>mem j (by simp[hj]));have hi:=mem i (by simp);obtain⟨v,e1,e2⟩:=aI.get (i:=i) (w:=ws.getD i (.d .none)) pr' (by rw[List.getD_eq_getElem?_getD,List.getElem?_eq_getElem hi];rfl);have e3:us.getD i .non=v:=by rw[List.getD_eq_getElem?_getD,e1];rfl
   show aA _ _ (ws.getD i (.d .none)) (us.getD i .non);rw[e3];exact e2
end
theorem vB{X:Cx}{P cd:Addr}{q x:Str}{lpos pos p kpos:Pos}{params:Arguments}{body o:Expr}{sc:Scope}{fr:List Nat}{to tb:TD}{k:Nat}(hr:cW (k+3) X.A)(hc:X.calm=true)(hg:Gl X "sorted")(hm:X.mg "sorted" = none)(L:m9 X sc x fr)(hcode:X.env.code=.ref cd)(hcd:W.codeHdIn X.K cd P=true)(hq:X.env.qual ++ "<lambda>" = q)
  (hb:∀ cl pm cdv ctv u,bindArgs (kla_fn "<lambda>" q params body sc cl pm cdv ctv) ⟨[u],[]⟩=pure [(x,u)])(ho:Jd (PD X o to))
  (he:∀ cl f c s H pl,cW k (wL (rp X) q sc (vp X x fr) cl f c s H pl).A->Jd (PD (wL (rp X) q sc (vp X x fr) cl f c s H pl) body tb))(hso:gH o=false:=by rfl)(hdef:defaultsOf params X.env=([],[]):=by rfl) :
  Jd (PD X (.Call (.Name "sorted" p) [o] [⟨some "key",.Lambda params body sc lpos,kpos⟩] pos) (uV P q lpos to tb fr)):=⟨D.uI hr hc hg hm L hcode hcd hq hb ho.h (λ cl f c s H pl h=>(he cl f c s H pl h).h) hso hdef⟩
section
variable {X:Cx}{K:FG}
end
open Rc Stc
section
variable {R:Type}[DecidableEq R]
structure Wd(M:MH)(b:Addr)(C:R->Option (Addr×MO)):Prop where
 at':∀ {c p o},C c=some (p,o)->M p=some o
 inj:∀ {c c' p o o'},C c=some (p,o)->C c'=some (p,o')->c=c'
 bg:Bag M b
 nb:∀ {c p o},C c=some (p,o)->p≠b
def cy(C:R->Option (Addr×MO))(c:R)(x:Addr×MO):R->Option (Addr×MO):=λ d=>if d=c then some x else C d
variable {M M':MH}{b:Addr}{C:R->Option (Addr×MO)}
theorem Wd.ne(h:Wd M b C){c c':R}{p p':Addr}{o o':MO}(e:C c=some (p,o))(e':C c'=some (p',o'))(n:c≠c'):p≠p':=λ z=>n (h.inj e (by rw[z];exact e'))
theorem Bag.go{p:Addr}(h:Bag M p)(e:M' p=M p):Bag M' p:=by
 cases h with
 | mk a b c ns h z=>exact .mk a b c ns (e.trans h) z
theorem fJ{p:Addr}(h:Bag M p):M p≠none:=by
 cases h with
 | mk a b c ns h z=>rw[h];exact λ e=>nomatch e
theorem Wd.same(h:Wd M b C)(f:∀ c p o,C c=some (p,o)->M' p=M p)(fb:M' b=M b):Wd M' b C:=
 ⟨λ e=>(f _ _ _ e).trans (h.at' e),h.inj,h.bg.go fb,h.nb⟩
theorem Wd.ext(h:Wd M b C)(x:Ext M M'):Wd M' b C:=⟨λ e=>x _ _ (h.at' e),h.inj,Ext.bag x h.bg,h.nb⟩
theorem Wd.take(h:Wd M b C)(bg:Bag M' b)(f:∀ q,q≠b->M' q=M q):Wd M' b C:=⟨λ e=>(f _ (h.nb e)).trans (h.at' e),h.inj,bg,h.nb⟩
theorem Wd.set(h:Wd M b C){c:R}{p:Addr}{o:MO}(o':MO)(e:C c=some (p,o)):Wd (ax M p o') b (cy C c (p,o')):=by
 refine⟨λ {d q u} z=>?_,λ {d d' q u u'} z z'=>?_,h.bg.go (ab (h.nb e).symm),λ {d q u} z=>?_⟩
 ·unfold cy at z
  split at z
  ·cases z;exact aa
  ·rename_i n
   rw[ab (h.ne z e n)];exact h.at' z
 ·unfold cy at z z'
  split at z<;>split at z'
  ·rename_i e1 e2;rw[e1,e2]
  ·rename_i e1 n;cases z;exact absurd rfl (h.ne e z' (λ k=>n k.symm))
  ·rename_i n e1;cases z';exact absurd rfl (h.ne z e n)
  ·exact h.inj z z'
 ·unfold cy at z
  split at z
  ·cases z;exact h.nb e
  ·exact h.nb z
theorem Wd.new(h:Wd M b C)(c:R){p:Addr}(o:MO)(e:M p=none):Wd (ax M p o) b (cy C c (p,o)):=by
 refine⟨λ {d q u} z=>?_,λ {d d' q u u'} z z'=>?_,h.bg.go (ab λ z=>fJ h.bg (by rw[z];exact e)),λ {d q u} z=>?_⟩
 ·unfold cy at z
  split at z
  ·cases z;exact aa
  ·exact br (h.at' z) e
 ·unfold cy at z z'
  split at z<;>split at z'
  ·rename_i e1 e2;rw[e1,e2]
  ·cases z;exact absurd rfl (cI (h.at' z') e)
  ·cases z';exact absurd rfl (cI (h.at' z) e)
  ·exact h.inj z z'
 ·unfold cy at z
  split at z
  ·cases z;exact λ k=>fJ h.bg (by rw[<- k];exact e)
  ·exact h.nb z
theorem Wd.move(h:Wd M b C){c d:R}(n:c≠d){p q r:Addr}{o u o' u':MO}(e:C c=some (p,o))(e':C d=some (q,u))(hr:M r=none)(hp:M' p=some o')(hr':M' r=some u')(f:∀ x y,x≠p->M x=some y->M' x=some y):Wd M' b (cy (cy C c (p,o')) d (r,u')):=by
 have hbb:M' b=M b:=by
  cases hb:M b with
  | none=>exact absurd hb (fJ h.bg)
  | some y=>exact f _ _ (h.nb e).symm hb
 have key:∀ {x y z},cy (cy C c (p,o')) d (r,u') x=some (y,z)->(x=d/\y=r/\z=u')\/(x≠d/\x=c/\y=p/\z=o')\/(x≠d/\x≠c/\C x=some (y,z)):=by
  intro x y z k;unfold cy at k
  by_cases h1:x=d
  ·rw[if_pos h1] at k;cases k;exact .inl ⟨h1,rfl,rfl⟩
  ·rw[if_neg h1] at k
   by_cases h2:x=c
   ·rw[if_pos h2] at k;cases k;exact .inr (.inl ⟨h1,h2,rfl,rfl⟩)
   ·rw[if_neg h2] at k;exact .inr (.inr ⟨h1,h2,k⟩)
 have rn:∀ {x y z},C x=some (y,z)->y≠r:=λ k=>cI (h.at' k) hr;refine⟨λ {x y z} k=>?_,λ {x x' y z z'} k k'=>?_,h.bg.go hbb,λ {x y z} k=>?_⟩
 ·rcases key k with ⟨_,rfl,rfl⟩ | ⟨_,_,rfl,rfl⟩ | ⟨_,n2,k⟩
  ·exact hr'
  ·exact hp
  ·exact f _ _ (h.ne k e n2) (h.at' k)
 ·rcases key k with ⟨a1,a2,_⟩ | ⟨_,a1,a2,_⟩ | ⟨_,a1,a2⟩<;>rcases key k' with ⟨c1,c2,_⟩ | ⟨_,c1,c2,_⟩ | ⟨_,c1,c2⟩
  ·rw[a1,c1]
  ·exact absurd (c2.symm.trans a2) (rn e)
  ·exact absurd a2 (rn c2)
  ·exact absurd (a2.symm.trans c2) (rn e)
  ·rw[a1,c1]
  ·exact absurd a2 (h.ne c2 e c1)
  ·exact absurd c2 (rn a2)
  ·exact absurd c2 (h.ne a2 e a1)
  ·exact h.inj a2 c2
 ·rcases key k with ⟨_,rfl,_⟩ | ⟨_,_,rfl,_⟩ | ⟨_,_,k⟩
  ·exact λ z=>fJ h.bg (by rw[<- z];exact hr)
  ·exact h.nb e
  ·exact h.nb k
theorem Wd.add(h:Wd M b C)(c:R){p:Addr}{o:MO}(e:M p=some o)(n:∀ {d q u},C d=some (q,u)->q≠p)(nb:p≠b):Wd M b (cy C c (p,o)):=by
 refine⟨λ {d q u} z=>?_,λ {d d' q u u'} z z'=>?_,h.bg,λ {d q u} z=>?_⟩
 ·unfold cy at z
  split at z
  ·cases z;exact e
  ·exact h.at' z
 ·unfold cy at z z'
  split at z<;>split at z'
  ·rename_i e1 e2;rw[e1,e2]
  ·cases z;exact absurd rfl (n z')
  ·cases z';exact absurd rfl (n z)
  ·exact h.inj z z'
 ·unfold cy at z
  split at z
  ·cases z;exact nb
  ·exact h.nb z
theorem dU{c:R}{p p':Addr}{o:MO}(n:∀ {d q u},C d=some (q,u)->q≠p')(m:p≠p'):∀ {d q u},cy C c (p,o) d=some (q,u)->q≠p':=λ {d q u} z=>by
 unfold cy at z
 split at z
 ·cases z;exact m
 ·exact n z
theorem Wd.frame(h:Wd M b C)(bg:Bag M' b)(f:∀ q y,q≠b->M q=some y->M' q=some y):Wd M' b C:=⟨λ e=>f _ _ (h.nb e) (h.at' e),h.inj,bg,h.nb⟩
end
def kf(N:List Str)(f:Str->W):List (Key×W):=N.map λ z=>(.inr z,f z)
def cY{α:Type}(f:Str->α)(z:Str)(v:α):Str->α:=λ y=>if y=z then v else f y
theorem kU(N:List Str)(f:Str->W):(kf N f).length=N.length:=by simp[kf]
theorem jP{f:Str->W}{z:Str}:∀ {N:List Str},z∈N->dg (kf N f) (.inr z)=some (f z)
 | [],h=>nomatch h
 | y::N,h=>by
  show dg ((.inr y,f y)::kf N f) (.inr z)=_;rw[bZ]
  by_cases e:y=z
  ·subst e;rw[if_pos rfl]
  ·rw[if_neg λ k=>e (Sum.inr.inj k)];exact jP (by simpa [Ne.symm e] using h)
theorem zR{f:Str->W}{z:Str}:∀ {N:List Str},z ∉ N->dg (kf N f) (.inr z)=none
 | [],_=>rfl
 | y::N,h=>by show dg ((.inr y,f y)::kf N f) (.inr z)=_;rw[bZ,if_neg λ k=>h (by simp[Sum.inr.inj k])];exact zR λ k=>h (by simp[k])
theorem nD{f:Str->W}{z:Str}{w:W}{N:List Str}(h:z∈N):fX (kf N f) (.inr z) w=kf N (cY f z w):=by
 unfold fX;rw[ft,jP h,Option.isSome_some,if_pos rfl];unfold kf;rw[List.map_map];refine List.map_congr_left λ y _=>?_;simp only[Function.comp,cY]
 by_cases e:y=z
 ·subst e;simp
 ·rw[if_neg λ k=>e (Sum.inr.inj k),if_neg e]
theorem wc{f:Str->W}{z:Str}{N:List Str}(h:z ∉ N):fX (kf N f) (.inr z) (f z)=kf (N++[z]) f:=by
 unfold fX;rw[ft,zR h];simp[kf]
theorem rG{f g:Str->W}{N:List Str}(h:∀ z∈N,f z=g z):kf N f=kf N g:=List.map_congr_left λ z hz=>by rw[h z hz]
theorem qj{α:Type}{f:Str->α}{z:Str}{v:α}:cY f z v z=v:=if_pos rfl
theorem mV{α:Type}{f:Str->α}{z y:Str}{v:α}(h:y≠z):cY f z v y=f y:=if_neg h
abbrev nW(f:Str->Nat):Str->W:=λ z=>.d (.int (f z:Nat))
abbrev bW(f:Str->Bool):Str->W:=λ z=>.d (.bool (f z))
theorem adJ(f:Str->Nat)(z:Str)(v:Nat):cY (nW f) z (.d (.int (v:Nat)))=nW (cY f z v):=by
 funext y;unfold cY nW;by_cases e:y=z<;>simp[e]
theorem vy(f:Str->Bool)(z:Str)(v:Bool):cY (bW f) z (.d (.bool v))=bW (cY f z v):=by
 funext y;unfold cY bW;by_cases e:y=z<;>simp[e]
abbrev yY(N:List Str):PyData:=.list (N.map PyData.str)
theorem abf{α:Type}(D:List α)(key:α->Int)(f:α->W):∃ D':List α,acb (D.map key) (D.map f)=D'.map f/\D'.Perm D/\∀ T:α->α->Prop,D.Pairwise T->D'.Pairwise λ a b=>key a<key b\/(key a=key b/\T a b):=by
 cases hD:D with
 | nil=>exact⟨[],by simp[acb,df],List.Perm.refl _,λ _ _=>.nil⟩
 | cons d0 D0 =>
 rw[<- hD];obtain⟨o1,o2⟩:=qm (qS (D.map key)) D.length;have mem:∀ i∈df (ltI (D.map key)) D.length,i<D.length:=λ i hi=>by simpa using o1.mem_iff.mp hi
 refine⟨(df (ltI (D.map key)) D.length).map λ i=>D.getD i d0,?_,?_,λ T hT=>?_⟩
 ·unfold acb;rw[List.length_map,List.map_map];refine List.map_congr_left λ i hi=>?_;simp[List.getD_eq_getElem?_getD,List.getElem?_eq_getElem (mem i hi)]
 ·have h:=o1.map λ i=>D.getD i d0;have e:(List.range D.length).map (λ i=>D.getD i d0)=D:=by refine List.ext_getElem (by simp) λ i h1 h2=>?_;simp[List.getD_eq_getElem?_getD,List.getElem?_eq_getElem h2]
  rw[e] at h;exact h
 ·rw[List.pairwise_map];refine List.Pairwise.imp_of_mem (λ {i j} hi hj h=>?_) o2;have li:=mem i hi;have lj:=mem j hj;have gi:D.getD i d0=D[i]:=by simp[List.getD_eq_getElem?_getD,List.getElem?_eq_getElem li]
  have gj:D.getD j d0=D[j]:=by simp[List.getD_eq_getElem?_getD,List.getElem?_eq_getElem lj]
  have ki:(D.map key).getD i 0=key D[i]:=by simp[List.getD_eq_getElem?_getD,List.getElem?_eq_getElem li]
  have kj:(D.map key).getD j 0=key D[j]:=by simp[List.getD_eq_getElem?_getD,List.getElem?_eq_getElem lj]
  rw[gi,gj];simp only[S.B,ltI,ki,kj,decide_eq_true_eq,decide_eq_false_iff_not] at h;rcases h with h | ⟨h1,h2,h3⟩
  ·exact .inl h
  ·exact .inr ⟨by omega,(List.pairwise_iff_getElem.mp hT) i j li lj h3⟩
section
variable {prog:Program}{w:World}{A:Around}{s:Shared}{vs:List Value}{zs:List Str}
end
section
variable {X:Cx}{K:FG}
end
end D
namespace HT
open PySem PyProof.Rows
open PySem.SeqAt
section
open PySem.MeetsSeq PySem.MeetsSeq2 PySem.MeetsSeq3
end
open PySem.SeqAt
section
variable {prog:Program}{w:World}{A:Around}{R:Result->Shared->Prop}{I:Addr}{fp wr:List Addr}{n:Nat}{P:Nat->Value->Prop}{St:Nat->Heap->Prop}{h0:Heap}
end
section
variable {prog:Program}{w:World}{A:Around}{E:VP}{s:Shared}{Q:VP}{bt:Nat->Nat->Bool}
end
end HT
namespace D
open L2 HT
section
variable {lt:List PyData->List PyData->Bool}{rows:List (List PyData)}
end
section
variable {X:Cx}{K:FG}{pins:PN}{σ:St}{H:Hp}{s:Shared}
end
open PySem.W (kla_fn)
section
variable {X:Cx}{pins:PN}{σ:St}{H:Hp}{s:Shared}{l f it S:Addr}{xs:List V}{R:Result->Shared->Prop}{k:Nat}
end
section
variable {X:Cx}{P cd:Addr}{q x:Str}{lpos pos p kpos kpos2 kp:Pos}{j:Nat}{params:Arguments}{body o:Expr}{sc:Scope}{fr:List Nat}{to tb:TD}{k:Nat}
end
end D
namespace L2
end L2
namespace D
open L2
end D
namespace L2
section
variable {M:Model}{A:Around}{E:VP}{s:Shared}
end
section
variable {X:Cx}{pins:PN}{σ:St}{H:Hp}{s:Shared}{sc:Scope}{own:List Str}{fr:List Nat}{cl cc:List (Str×Addr)}{fp:List Addr}{C:Addr}
end
section
variable {X:Cx}{pins:PN}{σ:St}{H:Hp}{s:Shared}{sc:Scope}{own:List Str}{fr:List Nat}{cl cc:List (Str×Addr)}{fp:List Addr}{C:Addr}{h1:Heap}
end
section
variable {X:Cx}{pins:PN}{σ:St}{H:Hp}{s:Shared}{sc:Scope}{own:List Str}{fr:List Nat}{cl cc:List (Str×Addr)}{fp:List Addr}{C:Addr}{h1:Heap}
end
section
variable {X:Cx}{pins:PN}{σ:St}{H:Hp}{s:Shared}{sc:Scope}{own:List Str}{fr:List Nat}{cl:List (Str×Addr)}{fp:List Addr}{it:Addr}{J:It}{tn:Nat->Heap->Prop}{g:TG}{tt:TT}{te:TE}{W:LcW}{Fin:List V->Hp->Prop}
 {elt tg iter:Expr}{ifs:List Expr}{pos:Pos}{E:VP}
end
end L2
namespace D
open L2
section
variable {X:Cx}{sc:Scope}{own:List Str}{fr:List Nat}{di:TId}{g:TGd}{tt:TTd}{te:TD}{tg iter elt:Expr}{ifs:List Expr}{pos:Pos}
end
open HT
section
variable {X:Cx}{tg a b c:Expr}{p pos:Pos}
end
section
variable {P:Program}{w:World}{A:Around}{R:Result->Shared->Prop}{it l S:Addr}{its:List Value}{ns:List Int}{kw:List (Str×Value)}
end
section
variable {X:Cx}{K:FG}{e:Expr}{te:TE}{p pos kpos kp:Pos}{j:Nat}{i:Int}
end
section
variable {prog:Program}{w:World}{A:Around}{E:VP}{s:Shared}
end
section
variable {X:Cx}{e:Expr}{te:TE}{j:Nat}{cp pos p2:Pos}
end
section
variable {X:Cx}{K:FG}{e:Expr}{te:TD}{j:Nat}{cp pos p2:Pos}
end
section
variable {X:Cx}{tg a b c e:Expr}{td te:TD}{p pos kpos kp cp p2:Pos}{j:Nat}{i:Int}
end
section
variable {prog:Program}{w:World}{A:Around}{E:VP}{s:Shared}
end
open L2
section
variable {X:Cx}{K:FG}{e:Expr}{to:TE}{td:TD}{p1 p2 pos1 pos2:Pos}
end
section
variable {prog:Program}{w:World}{A:Around}{E:VP}{s:Shared}
end
section
variable {prog:Program}{w:World}{A:Around}{E:VP}{s:Shared}
end
section
variable {prog:Program}{w:World}{A:Around}{R:Result->Shared->Prop}{I:Addr}{fp wr:List Addr}{G:Array GenState->Array GenState->Prop}{ks:List (List Int)}{P:Nat->Value->Prop}{St:Nat->Shared->Prop}
end
section
variable {prog:Program}{w:World}{A:Around}{E:VP}{s:Shared}
end
open L2
section
variable {X:Cx}{K:FG}{e:Expr}{to:TE}{td:TD}{p1 p2 pos1 pos2:Pos}
end
section
variable {K:FG}
theorem zl{H:Hp}:∀ {kvs:List (Key×W)} {l:List (Key×V)},Paired (λ(p:Key×W) (q:Key×V)=>p.1=q.1/\aA K H p.2 q.2) kvs l->l.length=kvs.length/\∀ (i:Nat) kv,l[i]? =some kv->∃ p,kvs[i]? =some p/\p.1=kv.1/\aA K H p.2 kv.2
 | [],l,h=>by
  cases h;exact⟨rfl,λ i kv e=>by simp at e⟩
 | p::kvs,l,h=>by
  cases h with
  | cons r t =>
   obtain⟨h1,h2⟩:=zl t;refine⟨by simp[h1],λ i kv e=>?_⟩;cases i with
   | zero =>
    simp at e;subst e;exact⟨p,rfl,r.1,r.2⟩
   | succ i =>
    obtain⟨p',e1,e2⟩:=h2 i kv (by simpa using e);exact⟨p',by simpa using e1,e2⟩
def afg(td:TD)(gs:yi)(tt:TTd)(tk tv:TD)(k:Nat)(fr:List Nat)(τ:DS)(M:MH)(Q:QD):Prop:=td τ M λ w M1=>∃ a kvs,w=.m a/\M1 a=some (.fdic kvs)/\∀ p,M1 p=none->∃ P:Nat->DS->MH->Prop,P 0 (yP k fr τ) (ax M1 p (.dic [])) /\
 (∀ i kv τ M,kvs[i]? =some kv->P i τ M->gs [kW kv.1,kv.2] τ M λ τ2 M2=>tt τ2 M2 λ b M3=>if b=true then tk τ2 M3 λ y M4=>tv τ2 M4 λ z M5=>∃ kvs' key,M5 p=some (.dic kvs')/\y=kW key/\kvs'.length<sizeLine/\P (i+1) τ2 (ax M5 p (.dic (fX kvs' key z))) else P (i+1) τ2 M3) /\
 ∀ τ M,P kvs.length τ M->Q (.m p) M
theorem aaJ{td:TD}{gs:yi}{tt:TTd}{tk tv:TD}{k:Nat}{fr:List Nat}{σ:St}{H:Hp}{Q:VK}(h:up K (afg td gs tt tk tv k fr) σ H Q) :
  tDC (uS (up K td)) (agN K 2 (agK K gs)) (upT K tt) (up K tk) (up K tv) k fr σ H Q:=by
 obtain⟨τ,M,Qd,A,h,kk⟩:=h;refine⟨τ,M,_,A,h,λ x H1 w M1 kp r1 m1 hq96=>?_⟩;obtain⟨a,kvs,ew,hm,hall⟩:=hq96;subst ew;obtain⟨ob,l,e,pr⟩:=m1 _ _ hm;obtain⟨hlen,hget⟩:=zl pr;refine⟨a,ob,l,r1,e,λ p hp=>?_⟩;obtain⟨P,p0,pt,pe⟩:=hall p (m1.free hp);have kpn:Kp H1 (upd H1 p (.dK [])):=Kp.new hp;have mn:cB K (upd H1 p (.dK [])) (ax M1 p (.dic [])):=m1.put (mo:=.dic []) kpn ⟨_,ao,.nil⟩;refine⟨λ i n σ' H'=>n=kvs.length-i/\i<=kvs.length/\Kp (upd H1 p (.dK [])) H'/\∃ τ M,Abs K H' σ' τ M/\P i τ M,⟨kvs.length,by simp,Nat.zero_le _,Kp.refl _,_,_,nF (A.go (kp.trans kpn) mn) k fr,p0⟩,?_⟩;rintro i n σ2 H2 ⟨rfl,hi,kp2,τ2,M2,A2,p2⟩;have e2:=(kpn.trans kp2).frz a ob _ e
 by_cases hlt:i<kvs.length
 ·refine .inr ⟨⟨e2,by omega⟩,λ x H3 ⟨T,kv,hkv,hT,ex,eH⟩=>?_⟩;subst ex eH;obtain⟨q,e3,e4,e5⟩:=hget i kv hkv;have kp3:Kp H2 (upd H2 T (.tup [kV kv.1,kv.2])):=Kp.new hT;have rk:aA K (upd H2 T (.tup [kV kv.1,kv.2])) (kW q.1) (kV kv.1):=by rw[e4];cases kv.1<;>simp[kW,mX,kV,aA,ay]
  refine⟨T,_,rfl,.inl (.inl ao),rfl,[kW q.1,q.2],τ2,M2,_,.cons rk (.cons ((e5.keep (kpn.trans kp2)).keep kp3) .nil),A2.go kp3 (A2.mem.new hT),pt i q τ2 M2 e3 p2,λ σ4 H4 τ4 M4 kp4 A4 q4=>⟨τ4,M4,_,A4,q4,λ b H5 M5 kp5 m5 q5=>?_⟩⟩;have kq:=(kp3.trans kp4).trans kp5;cases b with
  | false =>
   rw[if_neg Bool.false_ne_true] at q5;exact ace ⟨kvs.length-(i+1),by omega,rfl,hlt,kp2.trans kq,τ4,M5,A4.go kp5 m5,q5⟩
  | true =>
   rw[if_pos rfl] at q5;refine adH ⟨τ4,M5,_,A4.go kp5 m5,q5,λ ky H6 wy M6 kp6 r6 m6 q6=>⟨τ4,M6,_,A4.go (kp5.trans kp6) m6,q6,λ v H7 wv M7 kp7 r7 m7 hq97=>?_⟩⟩;obtain⟨kvs',key,hm',ey,hl,q7⟩:=hq97;subst ey;obtain⟨l',e',pr'⟩:=m7 _ _ hm';have kp8:Kp H7 (upd H7 p (.dK (putK l' key v))):=Kp.set e' (λ _ z=>nomatch z) (λ _ _ z=>nomatch z);refine⟨l',key,e',iw r6,by rw[<- oO pr'];exact hl,kvs.length-(i+1),by omega,rfl,hlt,kp2.trans (((kq.trans kp6).trans kp7).trans kp8),τ4,_,A4.go (((kp5.trans kp6).trans kp7).trans kp8) (m7.put (mo:=.dic (fX kvs' key wv)) kp8 ⟨_,ao,?_⟩),q7⟩;exact Paired.fC (qH key r7 pr') λ p q z=>⟨z.1,z.2.keep kp8⟩
 ·have hl:i=kvs.length:=by omega
  subst hl;refine .inl ⟨⟨e2,by omega⟩,?_⟩;exact kk _ H2 (.m p) M2 (kp.trans (kpn.trans kp2)) rfl A2.mem (pe τ2 M2 p2)
variable {X:Cx}{sc:Scope}{own:List Str}{fr:List Nat}{td:TD}{gs:yi}{tt:TTd}{tk tv:TD}{o kx vx:Expr}{es:List Expr}{kt:Nat}{ifs:List Expr}{pos tpos apos cpos:Pos}
theorem aaE(hc:X.calm=true)(L:lI X sc own fr)(ho:PD X o td)
  (hg:∀ cl C s H ex pl,xZ (blk X sc (lcN X own fr) cl C s H ex pl) es gs)(ht:∀ cl C s H ex pl,sx (blk X sc (lcN X own fr) cl C s H ex pl) ifs tt)(hk:∀ cl C s H ex pl,PD (blk X sc (lcN X own fr) cl C s H ex pl) kx tk)(hv:∀ cl C s H ex pl,PD (blk X sc (lcN X own fr) cl C s H ex pl) vx tv)
  (hn:∀ cl C s H ex pl,(assignEach es (blk X sc (lcN X own fr) cl C s H ex pl).env).length=2:=by intros;rfl)(hst:∀ cl C s H ex pl,(assignEach es (blk X sc (lcN X own fr) cl C s H ex pl).env).findIdx? (·.1)=none:=by intros;rfl)
  (hbase:attributeBase o "items" X.env (eval o X.env)=eval o X.env:=by rfl)(hline:(apos.endLine==cpos.line)=true:=by rfl)
  (hs:∀ x,foldedSetIterable (.Call (.Attribute o "items" apos) [] [] cpos) X.env x=pure x:=by intro _;rfl):PD X (.DictComp kx vx [⟨.Tuple es kt tpos,.Call (.Attribute o "items" apos) [] [] cpos,ifs,0⟩] sc pos) (afg td gs tt tk tv own.length fr):=
 fE (acN hc L (uJ ho hbase hline) (λ cl C s H ex pl=>uy (X:=blk X sc (lcN X own fr) cl C s H ex pl) hc (hg cl C s H ex pl) (hn cl C s H ex pl) (hst cl C s H ex pl)) ht hk hv hs) λ σ H Q h=>aaJ h
end
variable {X:Cx}{sc:Scope}{own:List Str}{fr:List Nat}{td:TD}{gs:yi}{tt:TTd}{tk tv:TD}{o kx vx:Expr}{es:List Expr}{kt:Nat}{ifs:List Expr}{pos tpos apos cpos:Pos}
theorem aaD(hc:X.calm=true)(L:lI X sc own fr)(ho:Jd (PD X o td))
  (hg:∀ cl C s H ex pl,Jd (xZ (blk X sc (lcN X own fr) cl C s H ex pl) es gs))(ht:∀ cl C s H ex pl,Jd (sx (blk X sc (lcN X own fr) cl C s H ex pl) ifs tt))(hk:∀ cl C s H ex pl,Jd (PD (blk X sc (lcN X own fr) cl C s H ex pl) kx tk))(hv:∀ cl C s H ex pl,Jd (PD (blk X sc (lcN X own fr) cl C s H ex pl) vx tv))
  (hn:∀ cl C s H ex pl,(assignEach es (blk X sc (lcN X own fr) cl C s H ex pl).env).length=2:=by intros;rfl)(hst:∀ cl C s H ex pl,(assignEach es (blk X sc (lcN X own fr) cl C s H ex pl).env).findIdx? (·.1)=none:=by intros;rfl)
  (hbase:attributeBase o "items" X.env (eval o X.env)=eval o X.env:=by rfl)(hline:(apos.endLine==cpos.line)=true:=by rfl)
  (hs:∀ x,foldedSetIterable (.Call (.Attribute o "items" apos) [] [] cpos) X.env x=pure x:=by intro _;rfl):Jd (PD X (.DictComp kx vx [⟨.Tuple es kt tpos,.Call (.Attribute o "items" apos) [] [] cpos,ifs,0⟩] sc pos) (afg td gs tt tk tv own.length fr)):=
 ⟨D.aaE hc L ho.h (λ cl C s H ex pl=>(hg cl C s H ex pl).h) (λ cl C s H ex pl=>(ht cl C s H ex pl).h) (λ cl C s H ex pl=>(hk cl C s H ex pl).h) (λ cl C s H ex pl=>(hv cl C s H ex pl).h) hn hst hbase hline hs⟩
end D
namespace D
open L2
section
variable {X:Cx}{pins:PN}{σ:St}{H:Hp}{s:Shared}
mutual
theorem iq(I:Inv X pins σ H s):∀ (d:PyData) {x:V} {u:Value},ay X.K H d x->RelV x u->∃ as,Reads s.heap u d as/\sysModules ∉ as
 | .none,x,u,h,r=>⟨[],fR rfl h r,List.not_mem_nil⟩
 | .bool b,x,u,h,r=>⟨[],fR rfl h r,List.not_mem_nil⟩
 | .int i,x,u,h,r=>⟨[],fR rfl h r,List.not_mem_nil⟩
 | .str z,x,u,h,r=>⟨[],fR rfl h r,List.not_mem_nil⟩
 | .list ds,x,u,h,r=>by simp only[ay] at h;obtain⟨a,vs,e,hs,ra⟩:=h;subst e;cases (show u=Value.ref a from r);obtain⟨its,rv,⟨o,n,e1,e2,e3,e4⟩,hz⟩:=I.list hs.sq;obtain⟨as,q,hn⟩:=gv I ds ra rv;exact⟨_,.list e1 e2 e4 q,λ hm=>(List.mem_cons.mp hm).elim (aen I e1 e4) hn⟩
 | .tuple ds,x,u,h,r=>by simp only[ay] at h;obtain⟨a,vs,e,hs,ra⟩:=h;subst e;cases (show u=Value.ref a from r);obtain⟨its,rv,⟨o,e1,e2,n,e4⟩,hz⟩:=I.tuple hs;obtain⟨as,q,hn⟩:=gv I ds ra rv;exact⟨_,.tuple e1 e2 e4 q,hn⟩
 | .dict kvs,x,u,h,r=>by
  simp only[ay] at h;obtain⟨a,o,l,e,ha,rk⟩:=h;subst e;cases (show u=Value.ref a from r);obtain⟨z,hs,vs,kv,o',es,ep,e1,e2,e3,e4,e5,e6⟩:=rZ I.hok (.inr ⟨o,ha⟩);obtain⟨bs,q1,q2,hn⟩:=jo I kvs rk kv e5;refine⟨_,.dict e1 e2.1 e3 q1 q2,λ hm=>?_⟩;rcases List.mem_append.mp hm with hm | hm
  ·simp only[List.mem_singleton] at hm;rw[<- hm] at hs;exact absurd hs (by decide)
  ·exact hn hm
theorem gv(I:Inv X pins σ H s):∀ (ds:List PyData) {xs:List V} {us:List Value},aQ X.K H ds xs->Vals xs us->∃ as,ReadsAll s.heap us ds as/\sysModules ∉ as
 | [],xs,us,h,r=>by simp only[aQ] at h;subst h;cases r;exact⟨_,.nil,List.not_mem_nil⟩
 | d::ds,xs,us,h,r=>by
  simp only[aQ] at h;obtain⟨v,vr,e,h1,h2⟩:=h;subst e;cases r with
  | cons r1 r2 =>
   obtain⟨as,q1,n1⟩:=iq I d h1 r1;obtain⟨bs,q2,n2⟩:=gv I ds h2 r2;exact⟨_,.cons q1 q2,λ hm=>(List.mem_append.mp hm).elim n1 n2⟩
theorem jo(I:Inv X pins σ H s):∀ (kvs:List (PyData×PyData)) {l:List (Key×V)} {vs:List (Key×Value)} {es:List DictEntry},fY X.K H kvs l->KV l vs->Pairs (aV X.prog X.w) es vs ->
  ∃ bs,ReadsAll s.heap (es.map (·.key)) (kvs.map (·.1)) []/\ReadsAll s.heap (es.map (·.val)) (kvs.map (·.2)) bs/\sysModules ∉ bs
 | [],l,vs,es,r,kv,p=>by simp only[fY] at r;subst r;cases kv;cases p;exact⟨_,.nil,.nil,List.not_mem_nil⟩
 | (k,d)::kvs,l,vs,es,r,kv,p=>by
  simp only[fY] at r;obtain⟨key,v,lr,e,ek,r1,r2⟩:=r;subst e;cases kv with
  | cons q1 q2 =>
   rename_i kv0 vs0
   obtain⟨k0,u0⟩:=kv0;obtain⟨q1,q3⟩:=q1;cases p with
   | cons p1 p2 p3 =>
    rename_i en es0
    obtain⟨bs,i1,i2,i3⟩:=jo I kvs r2 q2 p3;have rk:Reads s.heap en.key k []:=by
     have hk:oq k0 en.key=true:=p1;have hk0:key=k0:=q1;subst hk0;rw[ek];rcases bz hk with ⟨i,t,z1,z2⟩ | ⟨i,t,z1,z2⟩
     ·subst z1;rw[z2];exact .int i t
     ·subst z1;rw[z2];exact .str i t
    obtain⟨as,q4,n4⟩:=iq I d r1 (u:=en.val) (by rw[p2];exact q3);exact⟨_,.cons rk i1,.cons q4 i2,λ hm=>(List.mem_append.mp hm).elim n4 i3⟩
end
end
mutual
def g6(K:FG)(H:Hp):PyData->V->Prop
 | .list ds,x=>ay K H (.list ds) x\/∃ a vs,x=.ref a/\H a=some (.lst vs)/\f7 K H ds vs
 | .tuple ds,x=>∃ a vs,x=.ref a/\SqT K H a vs/\f7 K H ds vs
 | .none,x=>ay K H .none x
 | .bool b,x=>ay K H (.bool b) x
 | .int i,x=>ay K H (.int i) x
 | .str z,x=>ay K H (.str z) x
 | .dict kvs,x=>ay K H (.dict kvs) x\/∃ a l,x=.ref a/\H a=some (.dK l)/\nE K H kvs l
def f7(K:FG)(H:Hp):List PyData->List V->Prop
 | [],l=>l=[]
 | d::ds,l=>∃ v r,l=v::r/\g6 K H d v/\f7 K H ds r
def nE(K:FG)(H:Hp):List (PyData×PyData)->List (Key×V)->Prop
 | [],l=>l=[]
 | (k,d)::ds,l=>∃ key v r,l=(key,v)::r/\k=mX key/\g6 K H d v/\nE K H ds r
end
mutual
theorem g6.of{K:FG}{H:Hp}:∀ {d:PyData} {x:V},ay K H d x->g6 K H d x
 | .list ds,x,h=>by unfold g6;exact .inl h
 | .tuple ds,x,h=>by
  unfold g6;simp only[ay] at h;obtain⟨a,vs,e,s,r⟩:=h;exact⟨a,vs,e,s,f7.of r⟩
 | .none,x,h=>by unfold g6;exact h
 | .bool b,x,h=>by unfold g6;exact h
 | .int i,x,h=>by unfold g6;exact h
 | .str z,x,h=>by unfold g6;exact h
 | .dict kvs,x,h=>by unfold g6;exact .inl h
theorem f7.of{K:FG}{H:Hp}:∀ {ds:List PyData} {xs:List V},aQ K H ds xs->f7 K H ds xs
 | [],xs,h=>by unfold f7;simpa [aQ] using h
 | d::ds,xs,h=>by
  unfold f7;simp only[aQ] at h;obtain⟨v,r,e,h1,h2⟩:=h;exact⟨v,r,e,g6.of h1,f7.of h2⟩
end
def Tv(H H':Hp):Prop:=Kp H H'/\(∀ b vs,H b=some (.lst vs)->H' b=some (.lst vs)\/∃ o,H' b=some (.frz o (.lst vs)))/\∀ b l,H b=some (.dK l)->H' b=some (.dK l)\/∃ o,H' b=some (.frz o (.dK l))
theorem Tv.refl(H:Hp):Tv H H:=⟨Kp.refl H,λ _ _ e=>.inl e,λ _ _ e=>.inl e⟩
theorem Tv.trans{A B C:Hp}(h:Tv A B)(k:Tv B C):Tv A C:=⟨h.1.trans k.1,λ b vs e=>by
 rcases h.2.1 b vs e with q | ⟨o,q⟩
 ·exact k.2.1 b vs q
 ·exact .inr ⟨o,k.1.frz b o _ q⟩,λ b l e=>by
 rcases h.2.2 b l e with q | ⟨o,q⟩
 ·exact k.2.2 b l q
 ·exact .inr ⟨o,k.1.frz b o _ q⟩⟩
section
variable {X:Cx}{pins:PN}{σ:St}{s:Shared}
mutual
theorem aaY:∀ {d:PyData} {x:V} {H0 H:Hp},Tv H0 H->Inv X pins σ H s->g6 X.K H0 d x->∃ H',Tv H H'/\Inv X pins σ H' s/\ay X.K H' d x
 | .list ds,x,H0,H,t,I,h=>by
  unfold g6 at h;rcases h with h | ⟨a,vs,rfl,e,r⟩
  ·exact⟨H,Tv.refl H,I,h.keep t.1⟩
  ·obtain⟨H1,t1,I1,r1⟩:=ub t I r;rcases(t.trans t1).2.1 a vs e with q | ⟨o,q⟩
   ·obtain⟨o,I2⟩:=I1.freeze q trivial;have kp:Kp H1 (upd H1 a (.frz o (.lst vs))):=Kp.set q (λ _ z=>nomatch z) (λ _ _ z=>nomatch z);refine⟨_,t1.trans ⟨kp,λ b ws eb=>?_,λ b l eb=>?_⟩,I2,?_⟩
    ·by_cases hb:b=a
     ·subst hb;rw[q] at eb;cases eb;exact .inr ⟨o,ao⟩
     ·exact .inl (by rw[ah hb];exact eb)
    ·have hb:b≠a:=λ z=>by rw[z,q] at eb;cases eb
     exact .inl (by rw[ah hb];exact eb)
    ·simp only[ay];exact⟨a,vs,rfl,.inl ⟨o,ao⟩,r1.keep kp⟩
   ·refine⟨H1,t1,I1,?_⟩;simp only[ay];exact⟨a,vs,rfl,.inl ⟨o,q⟩,r1⟩
 | .tuple ds,x,H0,H,t,I,h=>by
  unfold g6 at h;obtain⟨a,vs,rfl,e,r⟩:=h;obtain⟨H1,t1,I1,r1⟩:=ub t I r;refine⟨H1,t1,I1,?_⟩;simp only[ay];exact⟨a,vs,rfl,SqT.keep (t.trans t1).1 e,r1⟩
 | .none,x,H0,H,t,I,h=>by unfold g6 at h;exact⟨H,Tv.refl H,I,h.keep t.1⟩
 | .bool b,x,H0,H,t,I,h=>by unfold g6 at h;exact⟨H,Tv.refl H,I,h.keep t.1⟩
 | .int i,x,H0,H,t,I,h=>by unfold g6 at h;exact⟨H,Tv.refl H,I,h.keep t.1⟩
 | .str z,x,H0,H,t,I,h=>by unfold g6 at h;exact⟨H,Tv.refl H,I,h.keep t.1⟩
 | .dict kvs,x,H0,H,t,I,h=>by
  unfold g6 at h;rcases h with h | ⟨a,l,rfl,e,r⟩
  ·exact⟨H,Tv.refl H,I,h.keep t.1⟩
  ·obtain⟨H1,t1,I1,r1⟩:=zQ t I r;rcases(t.trans t1).2.2 a l e with q | ⟨o,q⟩
   ·obtain⟨o,I2⟩:=I1.freeze q trivial;have kp:Kp H1 (upd H1 a (.frz o (.dK l))):=Kp.set q (λ _ z=>nomatch z) (λ _ _ z=>nomatch z);refine⟨_,t1.trans ⟨kp,λ b ws eb=>?_,λ b l' eb=>?_⟩,I2,?_⟩
    ·have hb:b≠a:=λ z=>by rw[z,q] at eb;cases eb
     exact .inl (by rw[ah hb];exact eb)
    ·by_cases hb:b=a
     ·subst hb;rw[q] at eb;cases eb;exact .inr ⟨o,ao⟩
     ·exact .inl (by rw[ah hb];exact eb)
    ·simp only[ay];exact⟨a,o,l,rfl,ao,r1.keep kp⟩
   ·refine⟨H1,t1,I1,?_⟩;simp only[ay];exact⟨a,o,l,rfl,q,r1⟩
theorem ub:∀ {ds:List PyData} {xs:List V} {H0 H:Hp},Tv H0 H->Inv X pins σ H s->f7 X.K H0 ds xs->∃ H',Tv H H'/\Inv X pins σ H' s/\aQ X.K H' ds xs
 | [],xs,H0,H,t,I,h=>by unfold f7 at h;exact⟨H,Tv.refl H,I,by simpa [aQ] using h⟩
 | d::ds,xs,H0,H,t,I,h=>by
  unfold f7 at h;obtain⟨v,r,rfl,h1,h2⟩:=h;obtain⟨H1,t1,I1,r1⟩:=aaY t I h1;obtain⟨H2,t2,I2,r2⟩:=ub (t.trans t1) I1 h2;refine⟨H2,t1.trans t2,I2,?_⟩;simp only[aQ];exact⟨v,r,rfl,r1.keep t2.1,r2⟩
theorem zQ:∀ {ds:List (PyData×PyData)} {l:List (Key×V)} {H0 H:Hp},Tv H0 H->Inv X pins σ H s->nE X.K H0 ds l->∃ H',Tv H H'/\Inv X pins σ H' s/\fY X.K H' ds l
 | [],l,H0,H,t,I,h=>by unfold nE at h;exact⟨H,Tv.refl H,I,by simpa [fY] using h⟩
 | (k,d)::ds,l,H0,H,t,I,h=>by
  unfold nE at h;obtain⟨key,v,r,rfl,ek,h1,h2⟩:=h;obtain⟨H1,t1,I1,r1⟩:=aaY t I h1;obtain⟨H2,t2,I2,r2⟩:=zQ (t.trans t1) I1 h2;refine⟨H2,t1.trans t2,I2,?_⟩;simp only[fY];exact⟨key,v,r,rfl,ek,r1.keep t2.1,r2⟩
end
end
section
variable {X:Cx}
def hG(d:PyData):Bool:=d.showable&&decide (d.shown.length<=sizeLine)&&decide (d.depth<=60)
theorem lp{k:Nat}(hr:kF k X.A):fc X (.builtin "repr") (λ xs H Q=>∃ x d,xs=[x]/\g6 X.K H d x/\hG d=true/\Q (.str d.shown) H):=by
 intro pins s σ H xs us Q I r h;obtain⟨x,d,rfl,rd,ok,q⟩:=h;obtain⟨u,rfl,rx⟩:=vals1 r;obtain⟨H',_,I',h'⟩:=aaY (Tv.refl H) I rd;obtain⟨as,rr,hsm⟩:=iq I' d h' rx;simp only[hG,Bool.and_eq_true,decide_eq_true_eq] at ok;obtain⟨⟨hs,hz⟩,hd⟩:=ok;have hu:=hr.units;cases rr with
 | none=>exact PySem.P.repr_of_none ⟨.str _,H,I.tok _,⟨_,rfl⟩,by simpa [PyData.shown] using q⟩
 | bool b=>exact PySem.P.repr_of_bool ⟨.str _,H,I.tok _,⟨_,rfl⟩,by simpa [PyData.shown] using q⟩
 | int i t =>
  refine PySem.P.repr_of_int (by simpa [PyData.showable] using hs) ⟨.str _,H,I.tok _,⟨_,rfl⟩,?_⟩;rw[PyData.shown] at q;exact q
 | str i t =>
  refine PySem.P.repr_of_str ⟨.str _,H,I.tok _,⟨_,rfl⟩,?_⟩ (by simpa [PyData.shown] using hz);rw[PyData.shown] at q;exact q
 | list e1 e2 e3 e4=>exact repr_of_reads' (.list e1 e2 e3 e4) hs (λ _=>hsm) hr.gd (by omega) (λ _ _ z=>z) (λ h' u tk hk=>⟨.str _,H,I.kept hk,⟨_,rfl⟩,q⟩) hz
 | tuple e1 e2 e3 e4=>exact repr_of_reads' (.tuple e1 e2 e3 e4) hs (λ _=>hsm) hr.gd (by omega) (λ _ _ z=>z) (λ h' u tk hk=>⟨.str _,H,I.kept hk,⟨_,rfl⟩,q⟩) hz
 | dict e1 e2 e3 e4 e5=>exact repr_of_reads' (.dict e1 e2 e3 e4 e5) hs (λ _=>hsm) hr.gd (by omega) (λ _ _ z=>z) (λ h' u tk hk=>⟨.str _,H,I.kept hk,⟨_,rfl⟩,q⟩) hz
end
mutual
inductive Th(M:MH):W->PyData->List Addr->Prop
 | d (x:PyData):Th M (.d x) x []
 | l {a:Addr} {ws:List W} {ds:List PyData} {A:List Addr} (h:M a=some (.lst ws)) (r:Ths M ws ds A):Th M (.m a) (.list ds) (a::A)
 | t {a:Addr} {ws:List W} {ds:List PyData} {A:List Addr} (h:M a=some (.tup ws)) (r:Ths M ws ds A):Th M (.m a) (.tuple ds) (a::A)
 | k {a:Addr} {kvs:List (Key×W)} {ps:List (PyData×PyData)} {A:List Addr} (h:M a=some (.dic kvs)) (r:Thk M kvs ps A):Th M (.m a) (.dict ps) (a::A)
inductive Ths(M:MH):List W->List PyData->List Addr->Prop
 | nil:Ths M [] [] []
 | cons {w:W} {ws:List W} {d:PyData} {ds:List PyData} {A B:List Addr} (h:Th M w d A) (t:Ths M ws ds B):Ths M (w::ws) (d::ds) (A++B)
inductive Thk(M:MH):List (Key×W)->List (PyData×PyData)->List Addr->Prop
 | nil:Thk M [] [] []
 | cons {k:Key} {w:W} {ws:List (Key×W)} {d:PyData} {ds:List (PyData×PyData)} {A B:List Addr} (h:Th M w d A) (t:Thk M ws ds B):Thk M ((k,w)::ws) ((mX k,d)::ds) (A++B)
end
section
variable {K:FG}{H:Hp}{M:MH}
mutual
theorem Th.sound(m:cB K H M):∀ {w:W} {d:PyData} {A:List Addr} {x:V},Th M w d A->aA K H w x->g6 K H d x
 | _,_,_,_,.d x,r=>g6.of r
 | _,_,_,_,.l h t,r=>by obtain⟨vs,e,rw⟩:=m _ _ h;unfold g6;exact .inr ⟨_,vs,r,e,Ths.sound m t rw⟩
 | _,_,_,_,.t h t,r=>by obtain⟨vs,e,rw⟩:=m _ _ h;unfold g6;exact⟨_,vs,r,.inl (.inl e),Ths.sound m t rw⟩
 | _,_,_,_,.k h t,r=>by obtain⟨l,e,rw⟩:=m _ _ h;unfold g6;exact .inr ⟨_,l,r,e,Thk.sound m t rw⟩
theorem Ths.sound(m:cB K H M):∀ {ws:List W} {ds:List PyData} {A:List Addr} {vs:List V},Ths M ws ds A->aI K H ws vs->f7 K H ds vs
 | _,_,_,_,.nil,.nil=>by unfold f7;rfl
 | _,_,_,_,.cons h t,.cons a b=>by
  unfold f7;exact⟨_,_,rfl,Th.sound m h a,Ths.sound m t b⟩
theorem Thk.sound(m:cB K H M):∀ {ws:List (Key×W)} {ds:List (PyData×PyData)} {A:List Addr} {l:List (Key×V)},Thk M ws ds A->Paired (λ(p:Key×W) (q:Key×V)=>p.1=q.1/\aA K H p.2 q.2) ws l->nE K H ds l
 | _,_,_,_,.nil,.nil=>by unfold nE;rfl
 | _,_,_,(k',v)::_,.cons h t,.cons a b=>by
  unfold nE;exact⟨k',v,_,rfl,congrArg mX a.1,Th.sound m h a.2,Thk.sound m t b⟩
end
end
section
variable {X:Cx}{K:FG}
def lD(ws:List W)(M:MH)(Q:QD):Prop:=∃ w d A,ws=[w]/\Th M w d A/\hG d=true/\Q (.d (.str d.shown)) M
theorem rR:fK K (λ xs H Q=>∃ x d,xs=[x]/\g6 K H d x/\hG d=true/\Q (.str d.shown) H) lD:=by intro vs H ws M Qd Q r m ⟨w,d,A,e,g,ok,q⟩ k;subst e;obtain⟨v,e1,r1⟩:=eB r;exact⟨v,d,e1,Th.sound m g r1,ok,k _ H (.d (.str _)) M (Kp.refl H) (by simp[aA,ay]) m q⟩
inductive Knd(H:Hp) (K:FG):V->PyData->Prop
 | d {x:V} {d:PyData} (h:ay K H d x):Knd H K x d
 | l {a:Addr} {vs:List V} (h:H a=some (.lst vs)):Knd H K (.ref a) (.list [])
 | t {a:Addr} {vs:List V} (h:SqT K H a vs):Knd H K (.ref a) (.tuple [])
 | k {a:Addr} {l:List (Key×V)} (h:H a=some (.dK l)):Knd H K (.ref a) (.dict [])
theorem eS:fc X (.builtin "isinstance") (λ xs H Q=>∃ x d T,xs=[x,.ty T]/\Knd H X.K x d/\Ty6 T/\Q (.bl (dy d T)) H):=by
 intro pins s σ H xs us Q I r h;obtain⟨x,d,T,rfl,g,h6,q⟩:=h;cases g with
 | d h=>exact wG pins s σ H _ us Q I r ⟨x,d,T,rfl,h,h6,q⟩
 | @l a vs h =>
  obtain⟨u,w',rfl,rx,ry⟩:=vals2 r;cases (show w'=Value.type T from ry);have e:=mH (K:=X.K) (.list []) h6;have fin:∀ tk,EP X pins σ Q (.bool (dy (.list []) T)) {s with toks:=tk}:=λ tk=>⟨.bl _,H,I.tok _,rfl,q⟩;generalize dy (.list []) T=b at e fin;cases (show u=Value.ref a from rx);obtain⟨its,rv,⟨o,n,e1,e2,_⟩,hz⟩:=I.list (.inl (.inl h));exact W.kia_one W.kitx_list I.kIn ⟨_,e1,e2⟩ e (λ z=>nomatch z) fin
 | @t a vs h =>
  obtain⟨u,w',rfl,rx,ry⟩:=vals2 r;cases (show w'=Value.type T from ry);have e:=mH (K:=X.K) (.tuple []) h6;have fin:∀ tk,EP X pins σ Q (.bool (dy (.tuple []) T)) {s with toks:=tk}:=λ tk=>⟨.bl _,H,I.tok _,rfl,q⟩;generalize dy (.tuple []) T=b at e fin;cases (show u=Value.ref a from rx);obtain⟨its,rv,⟨o,e1,e2,e3⟩,hz⟩:=I.tuple h;exact W.kia_one W.kitx_tuple I.kIn ⟨_,e1,e2⟩ e (λ z=>nomatch z) fin
 | @k a l h =>
  obtain⟨u,w',rfl,rx,ry⟩:=vals2 r;cases (show w'=Value.type T from ry);have e:=mH (K:=X.K) (.dict []) h6;have fin:∀ tk,EP X pins σ Q (.bool (dy (.dict []) T)) {s with toks:=tk}:=λ tk=>⟨.bl _,H,I.tok _,rfl,q⟩;generalize dy (.dict []) T=b at e fin;cases (show u=Value.ref a from rx);obtain⟨z,hs,vs,kv,o',es,ep,e1,e2,e3,e4,e5,e6⟩:=rZ I.hok (.inl h);exact W.kia_one W.kitx_dict I.kIn ⟨_,e1,e2.1⟩ e (λ z=>nomatch z) fin
inductive ac4(M:MH):W->PyData->Prop
 | d (x:PyData):ac4 M (.d x) x
 | l {a:Addr} {ws:List W} (h:M a=some (.lst ws)):ac4 M (.m a) (.list [])
 | t {a:Addr} {ws:List W} (h:M a=some (.tup ws)):ac4 M (.m a) (.tuple [])
 | k {a:Addr} {l:List (Key×W)} (h:M a=some (.dic l)):ac4 M (.m a) (.dict [])
def jT(ws:List W)(M:MH)(Q:QD):Prop:=∃ w d T,ws=[w,.t T]/\ac4 M w d/\Ty6 T/\Q (.d (.bool (dy d T))) M
theorem ik:fK K (λ xs H Q=>∃ x d T,xs=[x,.ty T]/\Knd H K x d/\Ty6 T/\Q (.bl (dy d T)) H) jT:=by
 intro vs H ws M Qd Q r m ⟨w,d,T,e,g,h6,q⟩ k;subst e;obtain⟨v,v',e1,r1,r2⟩:=zI r;simp only[aA] at r2;subst r2;refine⟨v,d,T,e1,?_,h6,k _ H (.d (.bool (dy d T))) M (Kp.refl H) (by simp[aA,ay]) m q⟩;cases g with
 | d x=>exact .d r1
 | l h=>obtain⟨vs,e,_⟩:=m _ _ h;cases (show v=.ref _ from r1);exact .l e
 | t h=>obtain⟨vs,e,_⟩:=m _ _ h;cases (show v=.ref _ from r1);exact .t (.inl (.inl e))
 | k h=>obtain⟨vs,e,_⟩:=m _ _ h;cases (show v=.ref _ from r1);exact .k e
end
section
variable {X:Cx}{K:FG}
def lM(td:TD)(τ:DS)(M:MH)(R:List W->MH->Prop):Prop:=td τ M λ w M1=>∃ ws,((∃ ds,w=.d (.tuple ds)/\ws=ds.map W.d)\/∃ a,w=.m a/\M1 a=some (.tup ws))/\R ws M1
end
theorem jR{X:Cx}{tg l:Expr}{te:TD}(h:Jd (PD X l te)):Jd (PId X tg l (lM te)):=⟨have h:=h.h;aaM (zw h) λ σ H R hq98=>by
 obtain⟨τ,M,Rd,A,h,k⟩:=hq98;refine⟨τ,M,_,A,h,λ v H1 w M1 kp r m hq99=>?_⟩;obtain⟨ws,g,q⟩:=hq99;rcases g with ⟨ds,rfl,rfl⟩ | ⟨a,rfl,hm⟩
 ·simp only[aA,ay] at r;obtain⟨a,vs,ev,hs,ra⟩:=r;exact .inr (.inl ⟨a,vs,ev,hs,k _ H1 _ M1 kp m (qo hs ra.ws) q⟩)
 ·obtain⟨vs,e,ra⟩:=m _ _ hm;have hs:SqT X.K H1 a vs:=.inl (.inl e);exact .inr (.inl ⟨a,vs,r,hs,k _ H1 _ M1 kp m (qo hs ra) q⟩)⟩
end D
namespace D
open L2
def lN(h:Heap)(d:Addr)(es:Array DictEntry)(ep:Nat):Prop:=∃ o,h.get? d=some o/\o.ExactDict/\o.data=.dict es ep
section
variable {prog:Program}{w:World}{A:Around}{E:VP}{s:Shared}{d:Addr}{es:Array DictEntry}{ep:Nat}
theorem lN.typeIs(hm:lN s.heap d es ep):s.TypeIs (.ref d) "dict":= let ⟨o,ho,hc,_⟩:=hm; ⟨o,ho,hc.1⟩
theorem af2{Q:VP}(hd:(d==sysModules)=false)(hm:lN s.heap d es ep)
  (hQ:Q (.ref s.heap.objs.size) {s with heap:=s.heap.push {cls:=.type "dict_keyiterator",data:=.fields #[.ref d,.int 0 0,.int es.size 0,.int ep 0]}}) :
  wpAny (model prog w) A (pyIter (.ref d)) Q E s:=by
 obtain⟨o,ho,hc,hdat⟩:=id hm;have hT:=hm.typeIs;refine wpAny_pyIter_slot hT PySem.F.slot_dict_iter (wpAny_call_entry PySem.F.slot_dict_iter hT PySem.F.entry_dict_iter ?_ (PySem.F.args_dict_iter_1 _));unfold Builtin.«dict.__iter__»;refine wpAny_bind ?_;unfold Builtin.Dict.dictSlotNone;refine wpAny_bind (wpAny_notOrdered_dict hT ?_);show wpAny _ _ (pure (Value.ref d)) _ _ s;refine wpAny_pure ?_;show wpAny _ _ (Builtin.Dict.showsAll d >>= _) _ _ s;unfold Builtin.Dict.showsAll;rw[if_neg (by rw[hd];exact Bool.false_ne_true)];refine wpAny_bind (wpAny_pure ?_);refine wpAny_bind (wpAny_dictEntries ho hdat ?_);refine wpAny_bind (wpAny_dictEpoch ho hdat ?_);refine wpAny_bind (wpAny_newObj_type (wpAny_pure ⟨_,rfl, "dict_keyiterator",_,⟨_,Heap.get?_push_size _ rfl,rfl⟩,PySem.F.slot_dict_keyiterator_next.lookup,?_⟩))
 simpa [rawInt] using hQ
theorem afs{it:Addr}{i:Nat}{Q:Option Value->Shared->Prop}(hit:s.heap.IsKeyIter it d i es.size ep)(hm:lN s.heap d es ep)(hlt:i<es.size)
  (hQ:∀ h',h'.IsKeyIter it d (i+1) es.size ep->Heap.SameBut it s.heap h'->Q (some es[i].key) {s with heap:=h'}) :
  wpAny (model prog w) A (pyNext (.ref it)) Q E s:=by
 obtain⟨o,ho,hc,hd⟩:=id hit;obtain⟨od,hod,hcd,hdd⟩:=id hm;unfold pyNext;refine wpAny_bind (wpAny_attempt (wpAny_callSpecial?_slot (name:=Str.ofString "__next__") hit.typeIs PySem.F.slot_dict_keyiterator_next
  (wpAny_call_entry PySem.F.slot_dict_keyiterator_next hit.typeIs PySem.F.entry_dict_keyiterator_next ?_ (PySem.F.args_dict_keyiterator_next_1 _))))
 refine wpAny_bind (wpAny_pure ?_);refine wpAny_bind ?_;refine wpAny_bind ?_
 first | refine wpAny_bind (wpAny_typeNameOfWhole_keyiter hit.typeIs (wpAny_pure ?_)) | refine wpAny_bind (wpAny_typeNameOf_keyiter hit.typeIs (wpAny_pure ?_))
 refine wpAny_bind (wpAny_fieldsOf ho hd ?_);have hown:Builtin.Dict_items.ownsTuple "dict_keyiterator" = false:=by decide
 simp only[hown,Bool.false_eq_true,if_false];show wpAny _ _ (if (Value.ref d==Value.none)=true then _ else _) _ _ s;rw[if_neg (show ¬ ((Value.ref d==Value.none)=true) from Bool.false_ne_true)];refine wpAny_bind (wpAny_pure ?_);refine wpAny_bind (wpAny_dictEntries hod hdd ?_);rw[if_neg (by simp)];refine wpAny_bind (wpAny_pure ?_);refine wpAny_bind (wpAny_dictEpoch hod hdd ?_);rw[if_neg (by simp)];refine wpAny_pure ?_;simp only[show ¬ ((i:Int)<0) from by omega,if_false,Int.toNat_natCast,Array.getElem?_eq_getElem hlt];refine wpAny_bind ?_
 first | refine wpAny_bind (wpAny_typeNameOfWhole_keyiter hit.typeIs (wpAny_pure ?_)) | refine wpAny_bind (wpAny_typeNameOf_keyiter hit.typeIs (wpAny_pure ?_))
 refine wpAny_bind (wpAny_isOneOf_keyiter hit.typeIs ?_);show wpAny _ _ (setField (.ref it) 1 (rawInt ((i:Int)+1)) >>= _) _ _ s;refine wpAny_bind (wpAny_setField ho hd (by simp) ?_);have hit':(s.heap.update it (Obj.mapFields (·.setIfInBounds 1 (rawInt ((i:Int)+1))))).IsKeyIter it d (i+1) es.size ep:=
  ⟨_,Heap.get?_update_self _ ho (Obj.isFreed_of_fields (Obj.data_mapFields hd _)),(Obj.cls_mapFields ..).trans hc,by rw[Obj.data_mapFields hd];simp[rawInt]⟩
 refine wpAny_bind (wpAny_holding ?_);refine wpAny_bind (wpAny_isOneOf_keyiter (s:={s with heap:=s.heap.update it (Obj.mapFields (·.setIfInBounds 1 (rawInt ((i:Int)+1))))}) hit'.typeIs ?_);show wpAny _ _ (pure es[i].key) _ _ _;exact wpAny_pure (wpAny_pure ⟨_,rfl,wpAny_pure (hQ _ hit' (Heap.SameBut.update ..))⟩)
theorem ahn{it:Addr}{i:Nat}{Q:Option Value->Shared->Prop}(hh:A.handled=none)(hit:s.heap.IsKeyIter it d i es.size ep)(hm:lN s.heap d es ep)(hge:es.size<=i)
  (hQ:∀ h',Heap.ExtBut it s.heap h'->Q none {s with heap:=h'}):wpAny (model prog w) A (pyNext (.ref it)) Q E s:=by
 obtain⟨o,ho,hc,hd⟩:=id hit;obtain⟨od,hod,hcd,hdd⟩:=id hm;unfold pyNext;refine wpAny_bind (wpAny_attempt (wpAny_callSpecial?_slot (name:=Str.ofString "__next__") hit.typeIs PySem.F.slot_dict_keyiterator_next
  (wpAny_call_entry PySem.F.slot_dict_keyiterator_next hit.typeIs PySem.F.entry_dict_keyiterator_next ?_ (PySem.F.args_dict_keyiterator_next_1 _))))
 refine wpAny_bind (wpAny_pure ?_);refine wpAny_bind ?_;refine wpAny_bind ?_
 first | refine wpAny_bind (wpAny_typeNameOfWhole_keyiter hit.typeIs (wpAny_pure ?_)) | refine wpAny_bind (wpAny_typeNameOf_keyiter hit.typeIs (wpAny_pure ?_))
 refine wpAny_bind (wpAny_fieldsOf ho hd ?_);have hown:Builtin.Dict_items.ownsTuple "dict_keyiterator" = false:=by decide
 simp only[hown,Bool.false_eq_true,if_false];show wpAny _ _ (if (Value.ref d==Value.none)=true then _ else _) _ _ s;rw[if_neg (show ¬ ((Value.ref d==Value.none)=true) from Bool.false_ne_true)];refine wpAny_bind (wpAny_pure ?_);refine wpAny_bind (wpAny_dictEntries hod hdd ?_);rw[if_neg (by simp)];refine wpAny_bind (wpAny_pure ?_);refine wpAny_bind (wpAny_dictEpoch hod hdd ?_);rw[if_neg (by simp)];refine wpAny_pure ?_;simp only[show ¬ ((i:Int)<0) from by omega,if_false,Int.toNat_natCast,Array.getElem?_eq_none hge];refine wpAny_bind ?_
 first | refine wpAny_bind (wpAny_typeNameOfWhole_keyiter hit.typeIs (wpAny_pure ?_)) | refine wpAny_bind (wpAny_typeNameOf_keyiter hit.typeIs (wpAny_pure ?_))
 show wpAny _ _ (setField (.ref it) 0 .none >>= _) _ _ s;refine wpAny_bind (wpAny_setField ho hd (by simp) ?_);show wpAny _ _ (newExc (.type "StopIteration") [] >>= _) _ _ _;refine wpAny_bind ?_;simp only[newExc,newTuple];refine wpAny_bind (wpAny_newObj_type ?_ (by size_fits));refine wpAny_bind (m:=firstArgMember _ _) (wpAny_of_eq (a:=Value.none) (by first | rfl | (simp only[firstArgMember];rfl)) ?_)
 refine wpAny_newObj_type ?_ (by size_fits);simp only[raiseNew];refine wpAny_bind (wpAny_handled ?_);rw[show A.in1.handled=none from hh];refine wpAny_bind (wpAny_pure (wpAny_throw ?_));refine wpAny_bind (wpAny_isInstance (T:= "StopIteration") (b:=true) ⟨_,Heap.get?_push_size _ rfl,rfl⟩ isSubtype_stop ?_);exact wpAny_pure (hQ _ (((Heap.SameBut.update ..).extBut.push _).push _))
theorem sT(hd:(d==sysModules)=false) :
  MeetsIn prog w (Builtin.«dict.__len__» ⟨[.ref d],[]⟩) (λ _ R s=>∃ es ep,lN s.heap d es ep/\R (.ok (.ret (.int es.size s.toks))) {s with toks:=s.toks+1}):=
 .of_wp λ A R s hq100=>by obtain⟨es,ep,⟨o,ho,hc,hdat⟩,h⟩:=hq100;show wpAny _ _ (dictSize d >>= _) _ _ s;unfold dictSize;refine wpAny_bind (wpAny_bind (wpAny_dictEntries ho hdat (wpAny_pure ?_)));show wpAny _ _ (Builtin.Dict.pendingCount d >>= _) _ _ s;refine wpAny_bind (wpAny_pendingCount_other hd ?_);refine wpAny_ret_mkInt ?_;rw[Nat.add_zero];exact h
theorem ahF{Q:VP}(hd:(d==sysModules)=false)(hm:lN s.heap d es ep)(hfit:(es.size:Int)<2 ^ 63)
  (h:Q (.int es.size (s.toks+1)) {s with toks:=s.toks+1+1}):wpAny (model prog w) A (call (.builtin "len") [.ref d]) Q E s:=
 Calls.call_function_entry kind_len plain_len entry_len (args_len1 _) (by
  unfold Builtin.«len»;refine wpAny_bind (m:=oneArg "len" _) (wpAny_pure ?_);refine wpAny_bind (m:=callSpecial? (.ref d) (Str.ofString "__len__")) (wpAny_callSpecial?_slot (name:=Str.ofString "__len__") hm.typeIs PySem.F.slot_dict_len
   (call_meetsIn PySem.F.slot_dict_len hm.typeIs PySem.F.entry_dict_len (PySem.F.args_dict_len_1 _) (sT hd) ⟨es,ep,hm,?_⟩))
  show wpAny _ _ _ _ _ {s with toks:=s.toks+1};refine wpAny_bind (wpAny_holding (wpAny_pure ?_));refine wpAny_bind (wpAny_letGo ?_);show wpAny _ _ (if ((es.size:Nat):Int)<0 then _ else _) _ _ _;rw[if_neg (by omega)];show wpAny _ _ (if ((es.size:Nat):Int) >= 2 ^ 63 then _ else _) _ _ _;rw[if_neg (by omega)];exact wpAny_bind (wpAny_mkInt (wpAny_pure ⟨_,rfl,h⟩)))
end
theorem rj{α β:Type}{R:α->β->Prop}{l:List α}{xs:List β}(r:Paired R l xs){i:Nat}(h:i<l.length):∃ p q,l[i]? =some p/\xs[i]? =some q/\R p q:=by
 induction r generalizing i with
 | nil=>simp at h
 | @cons p q ps qs hp t ih =>
  cases i with
  | zero=>exact⟨p,q,rfl,rfl,hp⟩
  | succ i =>
   obtain⟨p',q',e1,e2,e3⟩:=ih (i:=i) (by simpa using h);exact⟨p',q',by simpa using e1,by simpa using e2,e3⟩
theorem agD{P:Program}{w:World}{H:Hp}{h:Heap}{a:Addr}{l:List (List Key×V)}(ok:HOk P w H h)(e:Rd H a (.dT l)) :
  l.length<=sizeLine/\(a==sysModules)=false/\∃ es ep,lN h a es ep/\es.size=l.length/\∀ i,(hi:i<es.size)->∃ p b,l[i]? =some p/\H b=some (.tup (p.1.map kV))/\es[i].key=.ref b:=by
 obtain⟨z,hd,xs,r,o,es,ep,h1,h2,h3,h4,h5⟩:=(show cF P w H h a (.dT l) from aby ok e);have e1:es.size=xs.length:=by rw[<- Array.length_toList,h4,List.length_map]
 have e2:es.size=l.length:=by rw[e1,Paired.length r]
 refine⟨z,hd,es,ep,⟨o,h1,h2,h3⟩,e2,λ i hi=>?_⟩;obtain⟨p,q,a1,a2,a3,a4,a5⟩:=rj r (i:=i) (by omega);have g:=entry_at h4 i;rw[a2,Array.getElem?_eq_getElem hi] at g;have g':=Option.some.inj g;exact⟨p,q.2.1,a1,a4,by rw[g'];rfl⟩
def ItT(a:Addr)(o:Obj)(l:List (List Key×V)):It:=
 ⟨λ i H=>H a=some (.frz o (.dT l))/\i<l.length,λ i H x H'=>H'=H/\∃ kv b,l[i]? =some kv/\H b=some (.tup (kv.1.map kV))/\x=.ref b,λ i H=>H a=some (.frz o (.dT l))/\l.length<=i⟩
theorem oG{P:Program}{w:World}{H:Hp}{h:Heap}{a:Addr}{o:Obj}{l:List (List Key×V)}{es:Array DictEntry}{ep:Nat}(ok:HOk P w H h)(e:H a=some (.frz o (.dT l)))(ho:o.data=.dict es ep) :
  lN h a es ep/\es.size=l.length/\∀ i,(hi:i<es.size)->∃ p b,l[i]? =some p/\H b=some (.tup (p.1.map kV))/\es[i].key=.ref b:=by
 obtain⟨_,_,es',ep',⟨o',h1,h2,h3⟩,h4,h5⟩:=agD ok (.inr ⟨o,e⟩);have h0:=(ok a _ e).1;rw[h0] at h1;cases h1;rw[ho] at h3;cases h3;exact⟨⟨o,h0,h2,ho⟩,h4,h5⟩
theorem sg{P:Program}{w:World}{K:FG}{tg:Expr}(a it:Addr)(o:Obj)(l:List (List Key×V))(es:Array DictEntry)(ep:Nat)(ho:o.data=.dict es ep) :
  Turn P w K tg (ItT a o l) [it] it (λ i h=>h.IsKeyIter it a i es.size ep) where
 mem:=by simp
 obj:=λ i h st b hb=>by
  have e:b=it:=by simpa using hb
  subst e;obtain⟨o,e,c,d⟩:=st;exact⟨o,e,λ v z=>by rw[d] at z;cases z⟩
 keep:=λ i h h' ⟨o,e,c,d⟩ k=>⟨o,k it (by simp) _ e,c,d⟩
 item:=by
  intro X hP hw hK hc i pins s σ H E I hf st ⟨hg,hi⟩;subst hP hw hK;obtain⟨f0,f1,f2,f3,f4,f5⟩:=hf it (by simp);obtain⟨de,es1,kk⟩:=oG I.hok hg ho;have hi':i<es.size:=by omega
  obtain⟨p,b,e1,e2,e3⟩:=kk i hi';refine afs st de hi' λ h' st' sb=>?_;have I1:Inv X pins σ H {s with heap:=h'}:=I.turned (t':=s.toks) (λ b o hb e=>(sb.2 b hb).trans e) f0 f1 f3 f4 f5;obtain⟨ob,e,c,d⟩:=id st';exact⟨_,rfl,su (s:={s with heap:=h'}) e c d (by decide) ⟨.ref b,H,I1,e3,⟨rfl,p,b,e1,e2,rfl⟩,st',λ b hb=>(hf b hb).1⟩⟩
 done:=by intro X hP hw hK hc i pins s σ H E I hf st ⟨hg,hi⟩;subst hP hw hK;obtain⟨f0,f1,f2,f3,f4,f5⟩:=hf it (by simp);obtain⟨de,es1,kk⟩:=oG I.hok hg ho;exact ahn (I.ok.hd hc) st de (by omega) λ h' eb=>⟨rfl,I.turned (t':=s.toks) (λ b o hb e=>eb b o hb e) f0 f1 f3 f4 f5⟩
 self:=λ _ _ _ _ _ st h=>wpAny_pyIter_keyiter st h
theorem oe{K:FG}{H:Hp}:∀ ks:List Key,aQ K H (ks.map mX) (ks.map kV)
 | []=>by simp[aQ]
 | k::ks=>by simp only[List.map_cons,aQ];exact⟨_,_,rfl,by cases k<;>simp[mX,kV,ay],oe ks⟩
theorem Inv.aeJ{X:Cx}{pins:PN}{σ:St}{H:Hp}{s:Shared}{a:Addr}{l:List (List Key×V)}(I:Inv X pins σ H s)(h:H a=some (.dT l)):∃ o,Inv X pins σ (upd H a (.frz o (.dT l))) s:=by
 obtain⟨z,hd,xs,r,o,es,ep,h1,h2⟩:=I.hok a _ h;refine⟨o,Inv.swap I h (λ _ z=>nomatch z) (λ _ z=>nomatch z) (λ xs e=>?_) (λ o v e=>?_) (λ ps e=>?_) ⟨h1,z,hd,xs,KT.keeps r λ b ys eb=>?_,o,es,ep,h1,h2⟩⟩
 ·have:=I.base.tups a xs e;rw[h] at this;cases this
 ·have:=I.base.frzs a o v e;rw[h] at this;cases this
 ·obtain⟨m,this⟩:=I.base.tbls a ps e;rw[h] at this;cases this
 ·rw[ah λ e=>by rw[e,h] at eb;cases eb];exact eb
inductive acp(M:MH):W->List Key->Prop
 | d (ks:List Key):acp M (tkW ks) ks
 | m {t:Addr} {ks:List Key} (h:M t=some (.tup (ks.map kW))):acp M (.m t) ks
theorem acp.sound{K:FG}{H:Hp}{M:MH}{w:W}{ks:List Key}{x:V}(g:acp M w ks)(r:aA K H w x)(m:cB K H M):∃ b,x=.ref b/\SqT K H b (ks.map kV):=by
 cases g with
 | d =>
  simp only[tkW,aA,ay] at r;obtain⟨b,vs,eb,hs,ra⟩:=r;rw[xr ra] at hs;exact⟨b,eb,hs⟩
 | m h =>
  obtain⟨vs,e,ra⟩:=m _ _ h;rw[aeX ra] at e;exact⟨_,r,.inl (.inl e)⟩
inductive zm(M:MH):W->List (List Key×W)->Prop
 | t {a:Addr} {kvs:List (List Key×W)} (h:M a=some (.dct kvs)):zm M (.m a) kvs
 | f {a:Addr} {kvs:List (List Key×W)} (h:M a=some (.fdct kvs)):zm M (.m a) kvs
theorem zm.sound{K:FG}{H:Hp}{M:MH}{w:W}{kvs:List (List Key×W)}{x:V}(g:zm M w kvs)(r:aA K H w x)(m:cB K H M) :
  ∃ a l,x=.ref a/\Rd H a (.dT l)/\Paired (λ(p:List Key×W) (q:List Key×V)=>p.1=q.1/\aA K H p.2 q.2) kvs l:=by
 cases g with
 | t h=>obtain⟨l,e,pr⟩:=m _ _ h;exact⟨_,l,r,.inl e,pr⟩
 | f h=>obtain⟨o,l,e,pr⟩:=m _ _ h;exact⟨_,l,r,.inr ⟨o,e⟩,pr⟩
section
variable {X:Cx}{tg o i e f value:Expr}{pos pos' apos cpos:Pos}{td ti tx tv:TD}
def aeo(td:TE):TI:=λ σ H R=>td σ H λ x H1=>∃ a l,x=.ref a/\H1 a=some (.dT l)/\∀ ob,R (ItT a ob l) (upd H1 a (.frz ob (.dT l)))
theorem xN{td:TE}(ho:PE X o td):PI X tg o (aeo td):=by intro pins s σ H R I h;refine thn (ho pins s σ H _ I h) λ v s1 hq101=>?_;obtain⟨x,H1,I0,r1,a,l,ex,hg0,q⟩:=hq101;subst ex;cases r1;obtain⟨ob,I1⟩:=Inv.aeJ I0 hg0;have hg:upd H1 a (.frz ob (.dT l)) a=some (.frz ob (.dT l)):=ao;obtain⟨_,hd,es,ep,⟨o',h1,h2,h3⟩,_⟩:=agD I1.hok (.inr ⟨ob,hg⟩);have h0:=(I1.hok a _ hg).1;rw[h0] at h1;cases h1;refine af2 hd ⟨_,h0,h2,h3⟩ ?_;refine⟨_,[_],_,_,upd H1 a (.frz ob (.dT l)),rfl,I1.kept (t':=s1.toks) λ b o e=>Heap.get?_push_of_some _ e,sg a _ ob l es ep h3,⟨_,Heap.get?_push_size _ rfl,rfl,rfl⟩,λ b hb=>?_,q ob⟩;rw[List.mem_singleton] at hb;rw[hb];exact I1.pf (Nat.le_refl _) (I1.hok.fresh (Nat.le_refl _))
def uT(td:TD)(τ:DS)(M:MH)(R:List W->MH->Prop):Prop:=td τ M λ w M1=>∃ a kvs,w=.m a/\M1 a=some (.dct kvs)/\R (kvs.map λ p=>tkW p.1) (ax M1 a (.fdct kvs))
def ve(td ti tx:TD)(τ:DS)(M:MH)(Q:QD):Prop:=td τ M λ w M1=>(∃ kvs,zm M1 w kvs)/\ti τ M1 λ y M2=>tx τ M2 λ z M3=>∃ kvs ks,zm M3 w kvs/\acp M3 y ks/\Q ((dg kvs ks).getD z) M3
def aeM(K:FG)(td ty:TE):TE:=λ σ H Q=>td σ H λ x H1=>ty σ H1 λ y H2=>∃ a kvs k b v,x=.ref a/\Rd H2 a (.dT kvs)/\y=.ref b/\SqT K H2 b (k.map kV)/\mW kvs k=some v/\Q v H2
theorem xF{td ty:TE}(hu:X.A.units+1<cLine)(ho:PE X o td)(hi:PE X i ty)(hs:aco i):PE X (.Subscript o i pos) (aeM X.K td ty):=by intro pins s σ H Q I h;refine vW PySem.F.slot_dict_getitem.lookup hs (thn (ho pins s σ H _ I h) λ u s1 ⟨x,H1,I1,rx,q1⟩=>thn (hi pins s1 σ H1 _ I1 q1) λ iv s2 hq107=>?_);obtain⟨y,H2,I2,ry,a,kvs,k,b,v,ex,g,ey,hs,l,q2⟩:=hq107;subst ex ey;obtain rfl:u=Value.ref a:=rx;cases (show iv=Value.ref b from ry);obtain⟨z,hd,xs,rel,dd⟩:=w6 I2.hok g;obtain⟨w',hw,rw'⟩:=mY.some_of (v:=v) (o:=(atKey xs k).map (·.2)) (by rw[<- l];exact rel.val k);obtain⟨p,hp,hp2⟩:=Option.map_eq_some_iff.mp hw;refine⟨dd.typeIs,wpAny_getItem_heap (tupleKind_room_in1 hu) (zf I2 hs) dd hp ?_⟩;rw[hp2];exact⟨v,H2,I2.tok _,rw',q2⟩
def qd(td ti:TD)(τ:DS)(M:MH)(Q:QD):Prop:=td τ M λ w M1=>ti τ M1 λ y M2=>∃ kvs ks v,zm M2 w kvs/\acp M2 y ks/\dg kvs ks=some v/\Q v M2
def uK(td ti tv:TD)(D:Ed)(τ:DS)(M:MH):Prop:=tv τ M λ v M1=>td τ M1 λ w M2=>ti τ M2 λ y M3=>∃ a kvs ks t,w=.m a/\M3 a=some (.dct kvs)/\y=.m t/\M3 t=some (.tup (ks.map kW))/\kvs.length<sizeLine/\D.nx τ (ax M3 a (.dct (fX kvs ks v)))
theorem u6:fc X (.builtin "len") (λ xs H Q=>∃ a kvs,xs=[.ref a]/\Rd H a (.dT kvs)/\Q (.int kvs.length) H):=by intro pins s σ H xs us Q I r h;obtain⟨a,kvs,rfl,ha,q⟩:=h;obtain⟨u,rfl,rx⟩:=vals1 r;cases rx;obtain⟨z,hd,es,ep,de,e1,_⟩:=agD I.hok ha;refine ahF hd de (by rw[e1];rw[sizeLine_eq] at z;omega) ?_;rw[e1];exact⟨.int _,H,I.tok _,⟨_,rfl⟩,q⟩
def zE(ws:List W)(M:MH)(Q:QD):Prop:=∃ w kvs,ws=[w]/\zm M w kvs/\Q (.d (.int (kvs.length:Nat))) M
theorem aap{K:FG}:fK K (λ xs H Q=>∃ a kvs,xs=[.ref a]/\Rd H a (.dT kvs)/\Q (.int kvs.length) H) zE:=by intro vs H ws M Qd Q r m ⟨w,kvs,e,g,q⟩ k;subst e;obtain⟨v,e1,r1⟩:=eB r;obtain⟨a,l,ea,rd,pr⟩:=g.sound r1 m;refine⟨a,l,by rw[e1,ea],rd,?_⟩;rw[<- Paired.length pr];exact k _ _ (.d (.int _)) M (Kp.refl _) (by simp[aA,ay]) m q
end
theorem sZ{X:Cx}{tg o:Expr}{td:TD}(ho:Jd (PD X o td)):Jd (PId X tg o (uT td)):=⟨have ho:=ho.h;aaM (xN ho) λ σ H R hq102=>by
 obtain⟨τ,M,Rd,A,h,k⟩:=hq102;refine⟨τ,M,_,A,h,λ v H1 w M1 kp r m hq103=>?_⟩;obtain⟨a,kvs,ew,hm,q⟩:=hq103;subst ew;obtain⟨l,e,pr⟩:=m _ _ hm;refine⟨a,l,r,e,λ ob=>?_⟩;have kp1:Kp H1 (upd H1 a (.frz ob (.dT l))):=Kp.set e (λ _ z=>nomatch z) (λ _ _ z=>nomatch z);have pr1:=Paired.fC pr λ p q z=>(⟨z.1,z.2.keep kp1⟩:p.1=q.1/\aA X.K (upd H1 a (.frz ob (.dT l))) p.2 q.2);refine k _ _ _ (ax M1 a (.fdct kvs)) (kp.trans kp1) (m.put (mo:=.fdct kvs) kp1 ⟨ob,l,ao,pr1⟩) (λ H2 kp2 i=>?_) q;have hl:=Paired.length pr1;have e2:=kp2.frz a ob _ ao;have hlw:(kvs.map λ p=>tkW p.1).length=l.length:=by rw[List.length_map];exact hl
 refine⟨λ hi=>⟨e2,by omega⟩,λ hi=>⟨e2,by omega⟩,λ x H' hi hq104=>?_⟩;obtain⟨eH,kv,b,hkv,hb,ex⟩:=hq104;subst eH ex;have hi2:i<kvs.length:=by rw[List.length_map] at hi;exact hi
 obtain⟨p,q,a1,a2,a3,_⟩:=rj pr1 hi2;rw[a2] at hkv;cases hkv;refine⟨Kp.refl _,λ M m=>m,tkW p.1,by rw[List.getElem?_map,a1];rfl,?_⟩;rw[a3];simp only[tkW,aA,ay];exact⟨b,_,rfl,.inl (.inl hb),oe _⟩⟩
theorem u5{X:Cx}{o e f:Expr}{apos cpos:Pos}{td ti tx:TD}(hu:X.A.units+1<cLine)(ho:Jd (PD X o td))(he:Jd (PD X e ti))(hf:Jd (PD X f tx))(m:M2 X o "get" apos e f cpos:=by exact⟨rfl,rfl,rfl,rfl⟩):Jd (PD X (.Call (.Attribute o "get" apos) [e,f] [] cpos) (ve td ti tx)):=⟨have ho:=ho.h;have he:=he.h;have hf:=hf.h;fE (nC hu ho he hf m) λ σ H Q h=>by obtain⟨τ,M,Qd,A,h,k⟩:=h;refine⟨τ,M,_,A,h,λ x H1 w M1 kp1 r1 m1 hq105=>?_⟩;obtain⟨⟨kv0,di⟩,q1⟩:=hq105;obtain⟨a,l0,ea,isd,_⟩:=di.sound r1 m1;refine⟨a,ea,.inr ⟨l0,isd⟩,τ,M1,_,A.go kp1 m1,q1,λ y H2 wy M2 kp2 r2 m2 q2=>⟨τ,M2,_,A.go (kp1.trans kp2) m2,q2,λ z H3 wz M3 kp3 r3 m3 hq106=>?_⟩⟩;obtain⟨kvs,ks,g1,g2,q3⟩:=hq106;obtain⟨a',l,e',rd,pr⟩:=g1.sound (r1.keep (kp2.trans kp3)) m3;obtain⟨b,eb,hs⟩:=g2.sound (r2.keep kp3) m3;rw[ea] at e';cases e';exact⟨mW l ks,.inr ⟨l,ks,b,rd,eb,hs,rfl⟩,k _ H3 _ M3 ((kp1.trans kp2).trans kp3) ((iN ks pr).getD r3) m3 q3⟩⟩
theorem mw{X:Cx}{o i:Expr}{pos:Pos}{td ti:TD}(hu:X.A.units+1<cLine)(ho:Jd (PD X o td))(hi:Jd (PD X i ti))(hs:aco i:=by exact λ _ _=>rfl):Jd (PD X (.Subscript o i pos) (qd td ti)):=⟨have ho:=ho.h;have hi:=hi.h;fE (xF hu ho hi hs) λ σ H Q h=>by obtain⟨τ,M,Qd,A,h,k⟩:=h;refine⟨τ,M,_,A,h,λ x H1 w M1 kp1 r1 m1 q1=>⟨τ,M1,_,A.go kp1 m1,q1,λ y H2 wy M2 kp2 r2 m2 hq108=>?_⟩⟩;obtain⟨kvs,ks,v,g1,g2,hv,q2⟩:=hq108;obtain⟨a,l,ea,rd,pr⟩:=g1.sound (r1.keep kp2) m2;obtain⟨b,eb,hs⟩:=g2.sound r2 m2;have g:=iN ks pr;rw[hv] at g;obtain⟨b',eb',rb⟩:=OR.some_of g;exact⟨a,l,ks,b,b',ea,rd,eb,hs,eb',k _ H2 v M2 (kp1.trans kp2) rb m2 q2⟩⟩
theorem sR{X:Cx}{o i value:Expr}{pos pos':Pos}{td ti tv:TD}(hu:X.A.units+1<cLine)(ho:Jd (PD X o td))(hi:Jd (PD X i ti))(hv:Jd (PD X value tv))(hs:swapsWith value (some (.Subscript o i pos')) pos.line X.env=pure false:=by rfl) :
  Jd (PSd X (.Assign [.Subscript o i pos'] value pos) (uK td ti tv)):=⟨have ho:=ho.h;have hi:=hi.h;have hv:=hv.h;rY (uY hu ho hi hv hs) λ D σ H h=>by
 obtain⟨τ,M,Dd,A,h,k1,_⟩:=h;refine⟨τ,M,_,A,h,λ v H1 wv M1 kp1 r1 m1 q1=>⟨τ,M1,_,A.go kp1 m1,q1,λ x H2 w M2 kp2 r2 m2 q2=>⟨τ,M2,_,A.go (kp1.trans kp2) m2,q2,λ y H3 wy M3 kp3 r3 m3 hq109=>?_⟩⟩⟩;obtain⟨a,kvs,ks,t,ew,hm,ey,ht,hl,q3⟩:=hq109;subst ew ey;obtain⟨l,e,pr⟩:=m3 _ _ hm;obtain⟨vs,et,ra⟩:=m3 _ _ ht;rw[aeX ra] at et;have kp4:Kp H3 (upd H3 a (.dT (putK l ks v))):=Kp.set e (λ _ z=>nomatch z) (λ _ _ z=>nomatch z);have er:y=.ref t:=r3;subst er;refine⟨a,_,r2,.inr ⟨l,ks,t,e,rfl,et,by rw[<- oO pr];exact hl,rfl⟩,?_⟩;have rv:aA X.K H3 wv v:=(r1.keep kp2).keep kp3;refine k1 _ _ _ _ (((kp1.trans kp2).trans kp3).trans kp4) (A.go (((kp1.trans kp2).trans kp3).trans kp4) (m3.put (mo:=.dct (fX kvs ks wv)) kp4 ⟨_,ao,?_⟩)) q3;exact Paired.fC (qH ks rv pr) λ p q z=>⟨z.1,z.2.keep kp4⟩⟩
end D
namespace K53
open L2 D Rc Stc
abbrev aq:Addr:=95
abbrev cC:Addr:=77
abbrev az:Addr:=75
abbrev jm:List Str:=["self", "machines"]
def gu:TSd:=
  bS (fH aq (ak 0) (fm (dDC (cw (ak 1)) (gN 0) (o5) (ak 0) (dI 0) 1 [])) "lateness") <|
  bS (fH aq (ak 0) (fm (dDC (cw (ak 1)) (gN 0) (o5) (ak 0) (dC (.d (.bool false))) 1 [])) "doubled") <|
  bS (fH aq (ak 0) (fm (dDC (cw (ak 1)) (gN 0) (o5) (ak 0) (dC (.d (.bool false))) 1 [])) "cut_off") <|
  fH aq (ak 0) (fD (aG)) "messages"
abbrev gS:List Str:=["self", "machine"]
def gD:TSd:=
  gO (mF (pU aq (ak 0) "cut_off") (ak 1))
abbrev gU:List Str:=["self", "message", "turn", "due", "machine", "thing"]
def gE:TSd:=
  bS (dW (ak 1) (gTM 3 (cD (gN 3) (cD (gN 4) (cD (gN 5) (m8)))))) <|
  gO (ym (dOp ag5 (ak 3) (ak 2)) (aa5 (mF (pU aq (ak 0) "cut_off") (ak 4))))
abbrev jv:List Str:=["self", "turn", "due"]
abbrev dt:Str:=(("Road.come" : Str) ++ ".<locals>." ++ "<lambda>")
def jC(aW:SpD):TSd:=
  bS (dH (dW (tw (cw (pU aq (ak 0) "messages")) (gN 0) (bI (eU aq "is_due" aW (ak 1) (af (ak 0) (af (ak 2) (aG))))) (ak 0) 1 [0,1]) (gN 2))) <|
  bS (fH aq (ak 0) (fm (tw (cw (pU aq (ak 0) "messages")) (gN 0) (ac8 (bI (eU aq "is_due" aW (ak 1) (af (ak 0) (af (ak 2) (aG)))))) (ak 0) 1 [0,1])) "messages") <|
  gO (tw (jf (uV az dt ⟨43,77,43,103⟩ (ak 2) (dOp cU (ak 0) (dI 0)) [])) (gTM 3 (cD (gN 0) (cD (gN 1) (cD (gN 2) (m8))))) (o5) (ig (af (ak 1) (af (ak 2) (aG)))) 3 [])
abbrev jy:List Str:=["_law_thing_here", "_law_one", "_law_key"]
def kb(sp_self:SpD):TSd:=
  bS (dIf (bI (dCB jT (af (ak 0) (af (dC (.t "list")) (aG)))))
   (bS (dH (ip (cw (ak 0)) (gN 1)
    (cM (bR sp_self (af (ak 1) (aG)))))) <|
   cM (d9 (ak 0) (dS "changed")))
   (cN)) <|
  bS (dIf (bI (dCB jT (af (ak 0) (af (dC (.t "tuple")) (aG)))))
   (ip (lM (ak 0)) (gN 1)
    (cM (bR sp_self (af (ak 1) (aG)))))
   (cN)) <|
  dIf (bI (dCB jT (af (ak 0) (af (dC (.t "dict")) (aG)))))
   (bS (ip (iA (ab5 (dCB uB (af (ak 0) (aG))))) (gN 2)
    (cM (bR sp_self (af (mF (ak 0) (ak 2)) (aG))))) <|
   jN (ak 0) (dS "changed") (dI 1))
   (cN)
abbrev nU:List Str:=["_law_told", "_law_road", "_law_turn", "_law_name", "_law_thing_here", "_law_key"]
def nu(bU aH:SpD):TSd:=
  ip (jf (eU aq "come" bU (ak 1) (af (ak 2) (aG)))) (gTM 2 (cD (gN 3) (cD (gN 4) (m8))))
   (bS (dW (ig (af (ak 3) (af (dCB lD (af (ak 4) (aG))) (aG)))) (gN 5)) <|
   bS (cM (d9 (ak 0) (ig (af (ak 5) (af (ak 2) (aG)))))) <|
   cM (bR aH (af (ak 4) (aG))))
abbrev j9:List Str:=["self", "machine", "turns"]
def jW:TSd:=
  jN (pU aq (ak 0) "lateness") (ak 1) (ak 2)
abbrev kM:List Str:=["self", "machine"]
def lx:TSd:=
  jN (pU aq (ak 0) "cut_off") (ak 1) (dC (.d (.bool true)))
abbrev jG:List Str:=["self", "machine"]
def j8:TSd:=
  jN (pU aq (ak 0) "cut_off") (ak 1) (dC (.d (.bool false)))
abbrev iQ:List Str:=["self", "machine", "yes"]
def iz:TSd:=
  jN (pU aq (ak 0) "doubled") (ak 1) (ak 2)
abbrev iC:List Str:=["_law_bag_here", "_law_roads", "_law_name", "_law_yes", "_law_way", "_law_late", "_law_road"]
def iB(aC bV ck aL bL:SpD):TSd:=
  bS (dW (bR aC (af (ak 0) (af (dI 8) (aG)))) (gN 4)) <|
  bS (dW (bR aC (af (ak 0) (af (dI 3) (aG)))) (gN 5)) <|
  bS (dH (ip (cw (ak 1)) (gN 6)
   (dIf (bI (dOp afh (ak 4) (dI 2)))
    (cM (eU aq "late" bV (ak 6) (af (ak 2) (af (ak 5) (aG)))))
    (dIf (bI (dOp nj (ak 4) (dI 2)))
     (cM (eU aq "cut" ck (ak 6) (af (ak 2) (aG))))
     (dIf (bI (dOp afh (ak 4) (dI 5)))
      (cM (eU aq "join" aL (ak 6) (af (ak 2) (aG))))
      (cN)))))) <|
  bS (dIf (bI (dOp tO (ak 4) (dI 4)))
   (bS (cM (eU aq "twice" bL (dOp cU (ak 1) (dI 0)) (af (ak 2) (af (dOp tO (ak 4) (dI 5)) (aG))))) <|
   gO (dOp tO (ak 4) (dI 5)))
   (cN)) <|
  gO (ak 3)
abbrev oB:List Str:=["_law_bag_here", "_law_k", "_law_way", "_law_some"]
def nK(aC:SpD):TSd:=
  bS (dW (bR aC (af (ak 0) (af (dI 6) (aG)))) (gN 2)) <|
  bS (dW (fD (af (ak 1) (af (dOp dG (dS "text") (dCB aey (af (ak 1) (aG)))) (af (ig (af (dS "sheet") (af (ig (af (dI 1) (af (ak 1) (af (fD (af (ach (af (ak 1) (af (dS "web") (aG)))) (aG))) (af (fD (aG)) (aG)))))) (aG)))) (af (fD (af (ak 1) (af (fD (af (ak 1) (af (ach (af (ak 1) (aG))) (aG)))) (aG)))) (af (uM [(dS "k",fD (af (ak 1) (aG)))]) (af (ig (af (dC (.d .none)) (af (fD (af (ak 1) (aG))) (af (dC (.d (.bool true))) (aG))))) (aG)))))))) (gN 3)) <|
  gO (dOp cU (ak 3) (ak 2))
abbrev d6:List Str:=["thing"]
def fV(sp_self:SpD):TSd:=
  bS (dIf (bI (dCB jT (af (ak 0) (af (dC (.t "tuple")) (aG)))))
   (gO (dCB i4 (af (tw (lM (ak 0)) (gN 0) (o5) (bR sp_self (af (ak 0) (aG))) 1 []) (aG))))
   (cN)) <|
  bS (dIf (bI (dCB jT (af (ak 0) (af (dC (.t "list")) (aG)))))
   (gO (fm (tw (cw (ak 0)) (gN 0) (o5) (bR sp_self (af (ak 0) (aG))) 1 [])))
   (cN)) <|
  bS (dIf (bI (dCB jT (af (ak 0) (af (dC (.t "dict")) (aG)))))
   (gO (uU (afg (ak 0) (cD (gN 0) (cD (gN 1) (m8))) (o5) (ak 0) (bR sp_self (af (ak 1) (aG))) 2 [])))
   (cN)) <|
  gO (ak 0)
abbrev kP:List Str:=["self", "machine", "thing", "turn", "due"]
def lB(bx:SpD):TSd:=
  bS (dW (dOp dG (dOp dG (ak 3) (dI 1)) (mF (pU aq (ak 0) "lateness") (ak 1))) (gN 4)) <|
  bS (cM (d9 (pU aq (ak 0) "messages") (ig (af (ak 4) (af (ak 1) (af (bR bx (af (ak 2) (aG))) (aG))))))) <|
  dIf (bI (mF (pU aq (ak 0) "doubled") (ak 1)))
   (cM (d9 (pU aq (ak 0) "messages") (ig (af (dOp dG (ak 4) (dI 1)) (af (ak 1) (af (bR bx (af (ak 2) (aG))) (aG)))))))
   (cN)
abbrev jB:List Str:=["self"]
def jU:TSd:=
  gO (dCB iV (af (pU aq (ak 0) "messages") (aG)))
abbrev oT:List Str:=["_law_turns", "_law_name", "_law_cuts"]
def ni:TSd:=
  bS (dIf (dOr (bI (dOp nj (dCB iV (af (ak 0) (aG))) (dI 1))) (dOr (bI (dOp tO (dOp cU (ak 0) (dI 0)) (dI 190))) (bI (dOp nj (dOp cU (ak 0) (dI 1)) (dOp dG (dOp cU (ak 0) (dI 0)) (dI 1))))))
   (gO (dC (.d (.bool true))))
   (cN)) <|
  bS (dIf (bI (dOp nj (dOp cU (ak 0) (dI 1)) (dOp cU (ak 0) (dI 0))))
   (gO (dOp (abE false) (ak 1) (mF (ak 2) (dOp acQ (dOp cU (ak 0) (dI 0)) (dI 1)))))
   (cN)) <|
  gO (aga (dOp tO (dOp cU (ak 0) (dI 1)) (dI 190)) (ym (dOp (abE false) (ak 1) (mF (ak 2) (dOp dG (dOp cU (ak 0) (dI 0)) (dI 1)))) (dOp tO (dOp cU (ak 0) (dI 1)) (dOp cU (ak 0) (dI 0)))))
abbrev aeD:List Str:=["_law_script", "_law_bag_here", "_law_names", "_law_roads", "_law_yes", "_law_cuts", "_law_doubled", "_law_told", "_law_put", "_law_turn", "_law_k", "_law_j", "_law_name", "_law_thing_here", "_law_road", "_law_first", "_law_seen", "_law_key"]
def adS(dP aC bJ aZ b9 bq cv bY aH aL bK cq:SpD):TSd:=
  bS (dW (bR dP (af (ak 0) (aG))) (gN 1)) <|
  bS (dW (dSl (yv (af (dS "ma") (af (dS "mb") (aG)))) (p6) (xc (dOp dG (dI 1) (bR aC (af (ak 1) (af (dI 2) (aG))))))) (gN 2)) <|
  bS (dW (fD (af (xy aq bJ (af (dCB md (af (ak 2) (aG))) (aG))) (af (xy aq bJ (af (dCB md (af (ak 2) (aG))) (aG))) (aG)))) (gN 3)) <|
  bS (ac0 5 (af (o9) (af (o9) (af (fD (aG)) (af (fD (af (fD (aG)) (af (fD (aG)) (aG)))) (af (dI 0) (aG)))))) (cD (gN 4) (cD (gN 5) (cD (gN 6) (cD (gN 7) (cD (gN 8) (m8))))))) <|
  bS (ip (ux (af (dI 1) (af (dOp dG (dI 6) (bR aC (af (ak 1) (af (dI 20) (aG))))) (aG)))) (gN 9)
   (bS (jN (ak 5) (ak 9) (dLC (iA (ak 2)) (gN 0) (bI (eU aq "is_cut" aZ (dOp cU (ak 1) (dI 0)) (af (ak 0) (aG)))) (ak 0) 1 [3])) <|
   bS (ip (lZ (af (dI 2) (aG))) (gN 10)
    (cM (bR b9 (af (dOp cU (ak 7) (ak 10)) (af (dOp cU (ak 3) (ak 10)) (af (ak 9) (aG))))))) <|
   bS (ip (lZ (af (bR aC (af (ak 1) (af (dI 4) (aG)))) (aG))) (gN 11)
    (bS (dW (dOp cU (ak 2) (bR aC (af (ak 1) (af (dCB iV (af (ak 2) (aG))) (aG))))) (gN 12)) <|
    jN (ak 4) (ak 12) (bR bq (af (ak 1) (af (ak 3) (af (ak 12) (af (si (ak 4) (ak 12) (dC (.d (.bool false)))) (aG)))))))) <|
   ip (lZ (af (bR aC (af (ak 1) (af (dI 3) (aG)))) (aG))) (gN 11)
    (bS (dW (dOp cU (ak 2) (bR aC (af (ak 1) (af (dCB iV (af (ak 2) (aG))) (aG))))) (gN 12)) <|
    bS (dW (dOp dG (ak 8) (dI 1)) (gN 8)) <|
    bS (dW (ig (af (dS "m") (af (ak 8) (af (bR cv (af (ak 1) (af (ak 8) (aG)))) (aG))))) (gN 13)) <|
    bS (dIf (bI (si (ak 4) (ak 12) (dC (.d (.bool false)))))
     (cM (d9 (ak 6) (ach (af (ak 12) (af (dCB lD (af (ak 13) (aG))) (aG))))))
     (cN)) <|
    bS (dH (ip (cw (ak 3)) (gN 14)
     (cM (eU aq "put" bY (ak 14) (af (ak 12) (af (ak 13) (af (ak 9) (aG)))))))) <|
    cM (bR aH (af (ak 13) (aG)))))) <|
  bS (ip (iA (ak 2)) (gN 12)
   (dH (ip (cw (ak 3)) (gN 14)
    (cM (eU aq "join" aL (ak 14) (af (ak 12) (aG))))))) <|
  bS (ip (ux (af (dI 200) (af (dI 204) (aG)))) (gN 9)
   (ip (lZ (af (dI 2) (aG))) (gN 10)
    (cM (bR b9 (af (dOp cU (ak 7) (ak 10)) (af (dOp cU (ak 3) (ak 10)) (af (ak 9) (aG)))))))) <|
  bS (dW (fD (aG)) (gN 15)) <|
  bS (dW (vq) (gN 16)) <|
  bS (ip (jf (dOp cU (ak 7) (dI 0))) (gTM 2 (cD (gN 17) (cD (gN 9) (m8))))
   (bS (uK (ak 16) (ak 17) (ae9 (ve (ak 16) (ak 17) (yv (aG))) (yv (af (ak 9) (aG))))) <|
   dIf (bI (dOp nj (dCB iV (af (qd (ak 16) (ak 17)) (aG))) (dI 1)))
    (cM (d9 (ak 15) (ig (af (ak 17) (af (ak 9) (aG))))))
    (cN))) <|
  bS (dIf (dOr (bI (dOp ab7 (ak 15) (dOp cU (ak 7) (dI 1)))) (bI (dOp vf (fm (dLC (cw (ak 3)) (gN 0) (o5) (eU aq "many" bK (ak 0) aG) 1 [])) (yv (af (dI 0) (af (dI 0) (aG)))))))
   (gO (dC (.d (.bool false))))
   (cN)) <|
  bS (ip (uT (ak 16)) (gN 17)
   (dIf (dOr (bI (dOp vf (dCB iV (af (qd (ak 16) (ak 17)) (aG))) (dOp dG (dI 1) (dCB aay (af (dOp (abY false) (ak 17) (ak 6)) (aG)))))) (ac8 (bI (bR cq (af (qd (ak 16) (ak 17)) (af (dOp cU (ak 17) (dI 0)) (af (ak 5) (aG))))))))
    (gO (dC (.d (.bool false))))
    (cN))) <|
  gO (dOp nj (dCB zE (af (ak 16) (aG))) (ak 8))
mutual
def imm:PyData->Bool
 | .tuple ds=>acf ds
 | .list _=>false
 | .dict _=>false
 | _=>true
def acf:List PyData->Bool
 | []=>true
 | d::ds=>imm d&&acf ds
end
mutual
inductive Tg(M:MH):W->PyData->List Addr->Prop
 | d (x:PyData) (h:imm x=true):Tg M (.d x) x []
 | l {a:Addr} {ws:List W} {ds:List PyData} {A:List Addr} (h:M a=some (.lst ws)) (r:Tgs M ws ds A):Tg M (.m a) (.list ds) (a::A)
 | t {a:Addr} {ws:List W} {ds:List PyData} {A:List Addr} (h:M a=some (.tup ws)) (r:Tgs M ws ds A):Tg M (.m a) (.tuple ds) (a::A)
 | k {a:Addr} {kvs:List (Key×W)} {ps:List (PyData×PyData)} {A:List Addr} (h:M a=some (.dic kvs)) (r:Tgk M kvs ps A):Tg M (.m a) (.dict ps) (a::A)
inductive Tgs(M:MH):List W->List PyData->List Addr->Prop
 | nil:Tgs M [] [] []
 | cons {w:W} {ws:List W} {d:PyData} {ds:List PyData} {A B:List Addr} (h:Tg M w d A) (t:Tgs M ws ds B):Tgs M (w::ws) (d::ds) (A++B)
inductive Tgk(M:MH):List (Key×W)->List (PyData×PyData)->List Addr->Prop
 | nil:Tgk M [] [] []
 | cons {k:Str} {w:W} {ws:List (Key×W)} {d:PyData} {ds:List (PyData×PyData)} {A B:List Addr} (h:Tg M w d A) (t:Tgk M ws ds B):Tgk M ((.inr k,w)::ws) ((.str k,d)::ds) (A++B)
end
mutual
theorem Tg.th{M:MH}:∀ {w:W} {d:PyData} {A:List Addr},Tg M w d A->Th M w d A
 | _,_,_,.d x _=>.d x
 | _,_,_,.l h t=>.l h t.th
 | _,_,_,.t h t=>.t h t.th
 | _,_,_,.k h t=>.k h t.th
theorem Tgs.th{M:MH}:∀ {w:List W} {d:List PyData} {A:List Addr},Tgs M w d A->Ths M w d A
 | _,_,_,.nil=>.nil
 | _,_,_,.cons h t=>.cons h.th t.th
theorem Tgk.th{M:MH}:∀ {w:List (Key×W)} {d:List (PyData×PyData)} {A:List Addr},Tgk M w d A->Thk M w d A
 | _,_,_,.nil=>.nil
 | _,_,_,.cons (k:=k) h t=>Thk.cons (k:=.inr k) h.th t.th
end
mutual
theorem Tg.frame{M M':MH}:∀ {w:W} {d:PyData} {A:List Addr},Tg M w d A->(∀ q∈A,M' q=M q)->Tg M' w d A
 | _,_,_,.d x h,_=>.d x h
 | _,_,_,.l h t,f=>.l (by rw[f _ List.mem_cons_self];exact h) (t.frame λ q hq=>f q (List.mem_cons_of_mem _ hq))
 | _,_,_,.t h t,f=>.t (by rw[f _ List.mem_cons_self];exact h) (t.frame λ q hq=>f q (List.mem_cons_of_mem _ hq))
 | _,_,_,.k h t,f=>.k (by rw[f _ List.mem_cons_self];exact h) (t.frame λ q hq=>f q (List.mem_cons_of_mem _ hq))
theorem Tgs.frame{M M':MH}:∀ {w:List W} {d:List PyData} {A:List Addr},Tgs M w d A->(∀ q∈A,M' q=M q)->Tgs M' w d A
 | _,_,_,.nil,_=>.nil
 | _,_,_,.cons h t,f=>.cons (h.frame λ q hq=>f q (List.mem_append_left _ hq)) (t.frame λ q hq=>f q (List.mem_append_right _ hq))
theorem Tgk.frame{M M':MH}:∀ {w:List (Key×W)} {d:List (PyData×PyData)} {A:List Addr},Tgk M w d A->(∀ q∈A,M' q=M q)->Tgk M' w d A
 | _,_,_,.nil,_=>.nil
 | _,_,_,.cons h t,f=>.cons (h.frame λ q hq=>f q (List.mem_append_left _ hq)) (t.frame λ q hq=>f q (List.mem_append_right _ hq))
end
mutual
theorem Tg.live{M:MH}:∀ {w:W} {d:PyData} {A:List Addr},Tg M w d A->∀ q∈A,M q≠none
 | _,_,_,.d x _,q,hq=>by cases hq
 | _,_,_,.l h t,q,hq=>by
  rcases List.mem_cons.mp hq with e | hq
  ·rw[e,h];exact nofun
  ·exact t.live q hq
 | _,_,_,.t h t,q,hq=>by
  rcases List.mem_cons.mp hq with e | hq
  ·rw[e,h];exact nofun
  ·exact t.live q hq
 | _,_,_,.k h t,q,hq=>by
  rcases List.mem_cons.mp hq with e | hq
  ·rw[e,h];exact nofun
  ·exact t.live q hq
theorem Tgs.live{M:MH}:∀ {w:List W} {d:List PyData} {A:List Addr},Tgs M w d A->∀ q∈A,M q≠none
 | _,_,_,.nil,q,hq=>by cases hq
 | _,_,_,.cons h t,q,hq=>(List.mem_append.mp hq).elim (h.live q) (t.live q)
theorem Tgk.live{M:MH}:∀ {w:List (Key×W)} {d:List (PyData×PyData)} {A:List Addr},Tgk M w d A->∀ q∈A,M q≠none
 | _,_,_,.nil,q,hq=>by cases hq
 | _,_,_,.cons h t,q,hq=>(List.mem_append.mp hq).elim (h.live q) (t.live q)
end
theorem qW{M M':MH}(x:Ext M M'){q:Addr}(h:M q≠none):M' q=M q:=by
 cases e:M q with
 | none=>exact absurd e h
 | some o=>exact x q o e
theorem Tg.ext{M M':MH}{w:W}{d:PyData}{A:List Addr}(h:Tg M w d A)(x:Ext M M'):Tg M' w d A:=h.frame λ q hq=>qW x (h.live q hq)
theorem Tgs.ext{M M':MH}{w:List W}{d:List PyData}{A:List Addr}(h:Tgs M w d A)(x:Ext M M'):Tgs M' w d A:=h.frame λ q hq=>qW x (h.live q hq)
theorem Tgs.snoc{M:MH}:∀ {ws:List W} {ds:List PyData} {A:List Addr} {w:W} {d:PyData} {B:List Addr},Tgs M ws ds A->Tg M w d B->Tgs M (ws++[w]) (ds++[d]) (A++B)
 | _,_,_,w,d,B,.nil,h=>by have:=Tgs.cons h .nil;rwa[List.append_nil] at this
 | _,_,_,w,d,B,.cons h t,k=>by rw[List.append_assoc];exact .cons h (t.snoc k)
theorem Tgs.len{M:MH}:∀ {ws:List W} {ds:List PyData} {A:List Addr},Tgs M ws ds A->ws.length=ds.length
 | _,_,_,.nil=>rfl
 | _,_,_,.cons _ t=>by rw[List.length_cons,List.length_cons,t.len]
theorem Tgk.len{M:MH}:∀ {ws:List (Key×W)} {ds:List (PyData×PyData)} {A:List Addr},Tgk M ws ds A->ws.length=ds.length
 | _,_,_,.nil=>rfl
 | _,_,_,.cons _ t=>by rw[List.length_cons,List.length_cons,t.len]
theorem Tgs.imm{M:MH}:∀ {ds:List PyData},acf ds=true->Tgs M (ds.map W.d) ds []
 | [],_=>.nil
 | d::ds,h=>by simp only[acf,Bool.and_eq_true] at h;exact Tgs.cons (.d d h.1) (Tgs.imm h.2)
theorem Tgs.at'{M:MH}:∀ {ws:List W} {ds:List PyData} {A:List Addr},Tgs M ws ds A->∀ (i:Nat) (w:W),ws[i]? =some w->∃ d B,ds[i]? =some d/\Tg M w d B/\(∀ q∈B,q∈A)/\(A.Nodup->B.Nodup)
 | _,_,_,.nil,i,w,h=>by simp at h
 | _,_,_,.cons (A:=A) (B:=B) h t,0,w,e=>by simp only[List.getElem?_cons_zero,Option.some.injEq] at e;subst e;exact⟨_,A,rfl,h,λ q hq=>List.mem_append_left _ hq,λ n=>(List.nodup_append.mp n).1⟩
 | _,_,_,.cons h t,i+1,w,e=>by simp only[List.getElem?_cons_succ] at e;obtain⟨d,B,e1,h1,h2,h3⟩:=t.at' i w e;exact⟨d,B,by simpa using e1,h1,λ q hq=>List.mem_append_right _ (h2 q hq),λ n=>h3 (List.nodup_append.mp n).2.1⟩
theorem Tgk.at'{M:MH}:∀ {ws:List (Key×W)} {ds:List (PyData×PyData)} {A:List Addr},Tgk M ws ds A->∀ (i:Nat) (kv:Key×W),ws[i]? =some kv->∃ z d B,kv.1=.inr z/\ds[i]? =some (.str z,d)/\Tg M kv.2 d B/\(∀ q∈B,q∈A)/\(A.Nodup->B.Nodup)
 | _,_,_,.nil,i,w,h=>by simp at h
 | _,_,_,.cons (A:=A) (B:=B) h t,0,w,e=>by simp only[List.getElem?_cons_zero,Option.some.injEq] at e;subst e;exact⟨_,_,A,rfl,rfl,h,λ q hq=>List.mem_append_left _ hq,λ n=>(List.nodup_append.mp n).1⟩
 | _,_,_,.cons h t,i+1,w,e=>by simp only[List.getElem?_cons_succ] at e;obtain⟨z,d,B,e0,e1,h1,h2,h3⟩:=t.at' i w e;exact⟨z,d,B,e0,by simpa using e1,h1,λ q hq=>List.mem_append_right _ (h2 q hq),λ n=>h3 (List.nodup_append.mp n).2.1⟩
def okT:Nat->PyData->Bool
 | 0,_=>false
 | j+1,.list ds=>decide (ds.length<=20)&&ds.all (okT j)
 | j+1,.tuple ds=>decide (ds.length<=20)&&ds.all (okT j)
 | j+1,.dict ps=>decide (ps.length<=1)&&ps.all (λ p=>okT j p.2)
 | _+1,_=>true
theorem qT(ds:List PyData):dy (.tuple ds) "tuple" = true:=by simp[dy,tyD]
theorem yV(ds:List PyData):dy (.tuple ds) "list" = false:=by simp[dy,tyD]
theorem zA(ds:List PyData):dy (.tuple ds) "dict" = false:=by simp[dy,tyD]
theorem y7(ds:List PyData):dy (.list ds) "tuple" = false:=by simp[dy,tyD]
theorem yT(ds:List PyData):dy (.list ds) "list" = true:=by simp[dy,tyD]
theorem adz(ds:List PyData):dy (.list ds) "dict" = false:=by simp[dy,tyD]
theorem zM(ds:List (PyData×PyData)):dy (.dict ds) "tuple" = false:=by simp[dy,tyD]
theorem yW(ds:List (PyData×PyData)):dy (.dict ds) "list" = false:=by simp[dy,tyD]
theorem yS(ds:List (PyData×PyData)):dy (.dict ds) "dict" = true:=by simp[dy,tyD]
theorem av{M:MH}{a b:Addr}{o:MO}(h:ax M a o b=none):M b=none:=by
 unfold ax at h
 split at h
 ·cases h
 ·exact h
theorem aM{M:MH}{a b:Addr}{o:MO}(h:ax M a o b=none):b≠a:=λ e=>by rw[e,aa] at h;cases h
def Pl(d:PyData):Prop:=dy d "tuple" = false/\dy d "list" = false/\dy d "dict" = false
theorem nv{x:PyData}(h:imm x=true):Pl x\/∃ ds,x=.tuple ds/\acf ds=true:=by
 cases x with
 | none=>exact .inl ⟨by simp[dy,tyD],by simp[dy,tyD],by simp[dy,tyD]⟩
 | bool b=>exact .inl ⟨by simp[dy,tyD],by simp[dy,tyD],by simp[dy,tyD]⟩
 | int b=>exact .inl ⟨by simp[dy,tyD],by simp[dy,tyD],by simp[dy,tyD]⟩
 | str b=>exact .inl ⟨by simp[dy,tyD],by simp[dy,tyD],by simp[dy,tyD]⟩
 | tuple ds=>exact .inr ⟨ds,rfl,by simpa [imm] using h⟩
 | list ds=>simp[imm] at h
 | dict ds=>simp[imm] at h
def aE(j:Nat):SpD:=λ ws M Q=>∃ (w:W) (d:PyData) (A:List Addr),ws=[w]/\Tg M w d A/\okT j d=true/\A.Nodup/\∀ w' A' M',Tg M' w' d A'->A'.Nodup->(∀ q∈A',M q=none)->Ext M M'->Q w' M'
abbrev bx:SpD:=aE 7
theorem gC:∀ ws M Q,¬ aE 0 ws M Q:=λ _ _ _ ⟨_,d,_,_,_,h,_⟩=>by cases d<;>simp[okT] at h
theorem iS(j:Nat):∀ ws M Q,aE j ws M Q->ws.length=1:=by rintro ws M Q ⟨w,d,A,rfl,_⟩;rfl
theorem ua{A' A2:List Addr}{M1 M':MH}(n1:A'.Nodup)(n2:A2.Nodup)(l:∀ q∈A',M' q≠none)(f:∀ q∈A2,M' q=none):(A'++A2).Nodup:=
 List.nodup_append.mpr ⟨n1,n2,λ a ha b hb e=>l a ha (e ▸ f b hb)⟩
theorem y8{j:Nat}{M1:MH}{ws:List W}{ds:List PyData}{A:List Addr}(T:Tgs M1 ws ds A)(ok:∀ d∈ds,okT j d=true)(nd:A.Nodup)(l20:ds.length<=20){τ0:DS}{Q:QD}
  (k:∀ l acc A' M',Tgs M' acc ds A'->A'.Nodup->(∀ q∈A',M1 q=none)->Ext M1 M'->M' l=none->Q (.m l) (ax M' l (.lst acc))) :
  ∃ P:Nat->List W->DS->MH->Prop,P 0 [] (yP 1 [] τ0) M1 /\
   (∀ i w acc τ M,ws[i]? =some w->P i acc τ M->acc.length<sizeLine/\gN 0 w τ M λ τ2 M2=>o5 τ2 M2 λ b M3=>if b=true then bR (aE j) (af (ak 0) aG) τ2 M3 λ y M4=>P (i+1) (acc++[y]) τ2 M4 else P (i+1) acc τ2 M3) /\
   ∀ acc τ M,P ws.length acc τ M->∀ p,M p=none->Q (.m p) (ax M p (.lst acc)):=by
 have s16':=s16;refine⟨λ i acc τ M'=>i<=ds.length/\(∃ A',Tgs M' acc (ds.take i) A'/\A'.Nodup/\(∀ q∈A',M1 q=none))/\Ext M1 M'/\∃ x,τ=[x],⟨Nat.zero_le _,⟨[],.nil,List.nodup_nil,λ q hq=>by cases hq⟩,Ext.refl M1,_,rfl⟩,?_,?_⟩
 ·rintro i w acc τ M' hw ⟨hi,⟨A',T',n',f'⟩,x',x,rfl⟩;obtain⟨d,B,e1,t,sub,nB⟩:=T.at' i w hw;have hlt:=(List.getElem?_eq_some_iff.mp e1).1;have la:=T'.len;rw[List.length_take] at la;refine⟨by omega,?_⟩;refine⟨_,rfl,w,d,B,rfl,t.ext x',ok d (List.mem_of_getElem? e1),nB nd,λ w' A2 M2 T2 n2 f2 x2=>?_⟩;refine⟨by omega,⟨A'++A2,?_,ua (M1:=M1) n' n2 T'.live f2,λ q hq=>(List.mem_append.mp hq).elim (f' q) λ h=>Ext.none x' (f2 q h)⟩,x'.trans x2,_,rfl⟩;rw[List.take_succ,e1];exact(T'.ext x2).snoc T2
 ·rintro acc τ M' ⟨hi,⟨A',T',n',f'⟩,x',x,rfl⟩ p hp;rw[T.len,List.take_length] at T';exact k p acc A' M' T' n' f' x' hp
theorem hV(j:Nat):∀ ws M Q,aE (j+1) ws M Q->fV (aE j) {nx:=λ _ M'=>Q (.d .none) M',rt:=Q} (bO d6 ws) M:=by
 rintro ws M Q ⟨w,d,A,rfl,T,ok,nd,k⟩;have s16':=s16;have tup:∀ {ws ds B},((∃ ds,w=.d (.tuple ds)/\ws=ds.map W.d)\/∃ a,w=.m a/\M a=some (.tup ws))->d=.tuple ds->Tgs M ws ds B->B.Nodup->gO (dCB i4 (af (tw (lM (ak 0)) (gN 0) (o5) (bR (aE j) (af (ak 0) (aG))) 1 []) (aG))) {nx:=λ _ M'=>Q (.d .none) M',rt:=Q} (bO d6 [w]) M:=λ {ws ds B} h e t nB=>by
  subst e;simp only[okT,Bool.and_eq_true,decide_eq_true_eq,List.all_eq_true] at ok;refine⟨w,rfl,ws,h,?_⟩;refine y8 (Q:=λ w' M'=>i4 [w'] M' Q) t ok.2 nB ok.1 λ l acc A' M' T' n' f' x' hl=>?_;refine⟨l,acc,rfl,aa,λ p hp=>?_⟩;have hp':M' p=none:=av hp;have pl:p≠l:=aM hp;have x2:Ext M' (ax (ax M' l (.lst acc)) p (.tup acc)):=(Ext.new hl).upd hp';refine k (.m p) (p::A') _ (.t aa (T'.ext x2)) (List.nodup_cons.mpr ⟨λ z=>T'.live p z hp',n'⟩) (λ q hq=>?_) (x'.trans x2);rcases List.mem_cons.mp hq with e | hq
  ·rw[e];exact Ext.none x' hp'
  ·exact f' q hq
 cases T with
 | d x hx =>
  rcases nv hx with ⟨p1,p2,p3⟩ | ⟨ds,rfl,hds⟩
  ·refine⟨_,rfl,_,_,_,rfl,.d _,.tuple,_,rfl,eN p1 ?_⟩;refine⟨_,rfl,_,_,_,rfl,.d _,.list,_,rfl,eN p2 ?_⟩;refine⟨_,rfl,_,_,_,rfl,.d _,.dict,_,rfl,eN p3 ⟨_,rfl,?_⟩⟩;exact k _ [] M (.d _ hx) List.nodup_nil (λ q hq=>by cases hq) (Ext.refl M)
  ·refine⟨_,rfl,_,_,_,rfl,.d _,.tuple,_,rfl,j6 (qT _) ?_⟩;exact tup (.inl ⟨ds,rfl,rfl⟩) rfl (Tgs.imm hds) List.nodup_nil
 | @t a ws ds B h r =>
  refine⟨_,rfl,_,_,_,rfl,.t h,.tuple,_,rfl,j6 (qT _) ?_⟩;exact tup (.inr ⟨a,rfl,h⟩) rfl r (List.nodup_cons.mp nd).2
 | @l a ws ds B h r =>
  refine⟨_,rfl,_,_,_,rfl,.l h,.tuple,_,rfl,eN (y7 _) ?_⟩;refine⟨_,rfl,_,_,_,rfl,.l h,.list,_,rfl,j6 (yT _) ?_⟩;simp only[okT,Bool.and_eq_true,decide_eq_true_eq,List.all_eq_true] at ok;have⟨na,nB⟩:=List.nodup_cons.mp nd;have r1:Tgs (ax M a (.flst ws)) ws ds B:=r.frame λ q hq=>ab λ z=>na (z ▸ hq);refine⟨a,ws,h,_,rfl,a,_,rfl,aa,?_⟩;refine y8 (Q:=λ w' M'=>M' a=some (.flst ws)/\Q w' (ax M' a (.lst ws))) r1 ok.2 nB ok.1 λ l acc A' M' T' n' f' x' hl=>?_;have ha:M' a=some (.flst ws):=x' _ _ aa;have la:l≠a:=λ z=>by rw[z,ha] at hl;cases hl
  have none1:∀ q,ax M a (.flst ws) q=none->M q=none/\q≠a:=λ q hq=>⟨av hq,aM hq⟩;have x2:Ext M (ax (ax M' l (.lst acc)) a (.lst ws)):=λ q o e=>by
   by_cases z:q=a
   ·rw[z,aa];rw[z,h] at e;exact e
   ·rw[ab z];exact((x'.trans (Ext.new hl)) q o (by rw[ab z];exact e))
  refine⟨by rw[ab la.symm];exact ha,k (.m l) (l::A') _ (.l (by rw[ab la,aa]) ((T'.ext (Ext.new hl)).frame λ q hq=>ab λ z=>?_)) (List.nodup_cons.mpr ⟨λ z=>T'.live l z hl,n'⟩) (λ q hq=>?_) x2⟩
  ·exact(none1 q (f' q hq)).2 z
  ·rcases List.mem_cons.mp hq with e | hq
   ·rw[e];exact(none1 l (Ext.none x' hl)).1
   ·exact(none1 q (f' q hq)).1
 | @k a kvs ps B h r =>
  refine⟨_,rfl,_,_,_,rfl,.k h,.tuple,_,rfl,eN (zM _) ?_⟩;refine⟨_,rfl,_,_,_,rfl,.k h,.list,_,rfl,eN (yW _) ?_⟩;refine⟨_,rfl,_,_,_,rfl,.k h,.dict,_,rfl,j6 (yS _) ?_⟩;simp only[okT,Bool.and_eq_true,decide_eq_true_eq,List.all_eq_true] at ok;have⟨na,nB⟩:=List.nodup_cons.mp nd;have r1:Tgk (ax M a (.fdic kvs)) kvs ps B:=r.frame λ q hq=>ab λ z=>na (z ▸ hq);have hl1:kvs.length<=1:=by rw[r.len];exact ok.1
  refine⟨a,kvs,h,_,rfl,a,kvs,rfl,aa,λ p hp=>?_⟩;have pa:p≠a:=aM hp;have hpM:M p=none:=av hp;refine⟨λ i τ M'=>i<=kvs.length/\(∃ kvs' A',M' p=some (.dic kvs')/\kvs'.map (·.1)=(kvs.take i).map (·.1)/\Tgk M' kvs' (ps.take i) A'/\A'.Nodup/\(∀ q∈A',M q=none/\q≠a)/\p ∉ A')/\M' a=some (.fdic kvs)/\(∀ q o,q≠a->M q=some o->M' q=some o)/\∃ x y,τ=[x,y],⟨Nat.zero_le _,⟨[],[],aa,rfl,.nil,List.nodup_nil,λ q hq=>(by cases hq),λ z=>(by cases z)⟩,by rw[ab pa.symm,aa],λ q o n e=>by rw[ab (cI e hpM),ab n];exact e,_,_,rfl⟩,?_,?_⟩
  ·rintro i kv τ M' hkv ⟨hi,⟨kvs',A',hp',hk',T',n',f',np⟩,ha,x',x,y,rfl⟩;obtain⟨z,d,B2,ez,e1,t,sub,nB2⟩:=r.at' i kv hkv;obtain⟨kk,wv⟩:=kv;simp only at ez;subst ez;have hlt:=(List.getElem?_eq_some_iff.mp hkv).1;have i0:i=0:=by omega
   subst i0;have t':Tg M' wv d B2:=t.frame λ q hq=>by
    have hq2:=sub q hq;have ne:q≠a:=λ z=>na (z ▸ hq2);have lv:=t.live q hq;cases e:M q with
    | none=>exact absurd e lv
    | some o=>exact x' q o ne e
   refine⟨_,_,rfl,_,_,rfl,rfl,_,rfl,_,rfl,wv,d,B2,rfl,t',ok.2 _ (List.mem_of_getElem? e1),nB2 nB,λ w' A2 M2 T2 n2 f2 x2=>?_⟩;have e0:kvs'=[]:=by
    have:=congrArg List.length hk'
    simpa using this
   subst e0;refine⟨[],.inr z,x2 _ _ hp',rfl,by simp;omega,by omega,⟨[(.inr z,w')],A2,aa,?_,?_,n2,λ q hq=>?_,λ z=>?_⟩,?_,λ q o n e=>?_,_,_,rfl⟩
   ·rw[List.take_succ,hkv];rfl
   ·rw[List.take_succ,e1];have:=Tgk.cons (k:=z) (T2.frame (M':=ax M2 p (.dic (fX [] (.inr z) w'))) λ q hq=>ab λ z=>by rw[z] at hq;have:=f2 p hq;rw[hp'] at this;cases this) .nil;rw[List.append_nil] at this;exact this
   ·have h2:=f2 q hq;refine⟨?_,λ z=>by rw[z,ha] at h2;cases h2⟩;cases e:M q with
    | none=>rfl
    | some o =>
     have qa:q≠a:=λ z=>by rw[z,ha] at h2;cases h2
     rw[x' q o qa e] at h2;cases h2
   ·have:=f2 p z;rw[hp'] at this;cases this
   ·rw[ab pa.symm];exact x2 _ _ ha
   ·rw[ab (cI e hpM)];exact x2 _ _ (x' q o n e)
  ·rintro τ M' ⟨hi,⟨kvs',A',hp',hk',T',n',f',np⟩,ha,x',x,y,rfl⟩;rw[r.len,List.take_length] at T';have x2:Ext M (ax M' a (.dic kvs)):=λ q o e=>by
    by_cases z:q=a
    ·rw[z,aa];rw[z,h] at e;exact e
    ·rw[ab z];exact x' q o z e
   refine⟨ha,k (.m p) (p::A') _ (.k (by rw[ab pa];exact hp') (T'.frame λ q hq=>ab (f' q hq).2)) (List.nodup_cons.mpr ⟨np,n'⟩) (λ q hq=>?_) x2⟩;rcases List.mem_cons.mp hq with e | hq
   ·rw[e];exact hpM
   ·exact(f' q hq).1
def Tp(M M':MH):Prop:=∀ q ws,M q=some (.tup ws)->M' q=some (.tup ws)
theorem Tp.refl(M:MH):Tp M M:=λ _ _ h=>h
theorem Tp.trans{A B C:MH}(h:Tp A B)(k:Tp B C):Tp A C:=λ q ws e=>k q ws (h q ws e)
theorem Tp.upd{M M':MH}{a:Addr}{o:MO}(h:Tp M M')(ha:∀ ws,M a≠some (.tup ws)):Tp M (ax M' a o):=λ q ws e=>by rw[ab λ z=>ha ws (by rw[<- z];exact e)];exact h q ws e
theorem Tp.of{M M':MH}{a:Addr}{o:MO}(ha:M a=some o)(n:∀ ws,o ≠ .tup ws)(f:∀ q x,q≠a->M q=some x->M' q=some x):Tp M M':=λ q ws e=>f q _ (λ z=>n ws (by rw[z,ha] at e;exact Option.some.inj e)) e
def bw(j:Nat):SpD:=λ ws M Q=>∃ (w:W) (d:PyData) (A:List Addr),ws=[w]/\Tg M w d A/\okT j d=true/\A.Nodup/\∀ M',(∀ q,q ∉ A->M' q=M q)->(∀ q∈A,M' q≠none)->Tp M M'->Q (.d .none) M'
abbrev aH:SpD:=bw 7
theorem jh:∀ ws M Q,¬ bw 0 ws M Q:=λ _ _ _ ⟨_,d,_,_,_,h,_⟩=>by cases d<;>simp[okT] at h
theorem lO(j:Nat):∀ ws M Q,bw j ws M Q->ws.length=1:=by rintro ws M Q ⟨w,d,A,rfl,_⟩;rfl
theorem tQ{M:MH}{l:Addr}{o:MO}(h:M l=none):aaa (ax M l o) l=M:=by
 funext b;unfold aaa ax
 by_cases e:b=l
 ·subst e;simp[h]
 ·simp[e]
def adU(w:W)(x1 x2:Option W):DS:=[some w,x1,x2]
theorem changes{j:Nat}{M1:MH}{ws:List W}{ds:List PyData}{A:List Addr}(T:Tgs M1 ws ds A)(ok:∀ d∈ds,okT j d=true)(nd:A.Nodup){w0:W}{y1 y2:Option W}{D:Ed}
  (k:∀ x1 M',(∀ q,q ∉ A->M' q=M1 q)->(∀ q∈A,M' q≠none)->Tp M1 M'->D.nx (adU w0 x1 y2) M') :
  ∃ P:Nat->DS->MH->Prop,P 0 (adU w0 y1 y2) M1 /\
   (∀ i w τ M,ws[i]? =some w->P i τ M->gN 1 w τ M λ τ2 M2=>(cM (bR (bw j) (af (ak 1) (aG)))) {D with nx:=P (i+1),ct:=P (i+1),bk:=D.nx} τ2 M2) /\
   ∀ τ M,P ws.length τ M->D.nx τ M:=by
 refine⟨λ i τ M'=>(∃ A1 A2,A=A1++A2/\Tgs M1 (ws.drop i) (ds.drop i) A2/\(∀ q,q ∉ A1->M' q=M1 q)/\(∀ q∈A1,M' q≠none)/\Tp M1 M')/\∃ x1,τ=adU w0 x1 y2,⟨⟨[],A,rfl,T,λ _ _=>rfl,λ q hq=>(by cases hq),Tp.refl _⟩,_,rfl⟩,?_,?_⟩
 ·rintro i w τ M' hw ⟨⟨A1,A2,eA,t,f,lv,tp⟩,x1,rfl⟩;have hi:=(List.getElem?_eq_some_iff.mp hw).1;have hd:i<ds.length:=by rw[<- T.len];exact hi
  rw[List.drop_eq_getElem_cons hi,List.drop_eq_getElem_cons hd] at t;have ew:ws[i]=w:=by rw[List.getElem?_eq_getElem hi] at hw;exact Option.some.inj hw
  rw[ew] at t;generalize hr:ws.drop (i+1)=wr at t;generalize hr2:ds.drop (i+1)=dr at t;cases t with
  | @cons _ _ _ _ B A3 h t =>
   rw[eA] at nd;have n1:=List.nodup_append.mp nd;have n2:=List.nodup_append.mp n1.2.1;have h':Tg M' w ds[i] B:=h.frame λ q hq=>f q λ z=>n1.2.2 q z q (List.mem_append_left _ hq) rfl;refine⟨_,rfl,w,ds[i],B,rfl,h',ok _ (List.getElem_mem hd),n2.1,λ M2 f2 l2 tp2=>⟨⟨A1++B,A3,by rw[eA,List.append_assoc],by rw[hr,hr2];exact t,λ q hq=>?_,λ q hq=>?_,tp.trans tp2⟩,_,rfl⟩⟩
   ·rw[f2 q λ z=>hq (List.mem_append_right _ z)];exact f q λ z=>hq (List.mem_append_left _ z)
   ·by_cases hB:q∈B
    ·exact l2 q hB
    ·rw[f2 q hB];exact lv q ((List.mem_append.mp hq).resolve_right hB)
 ·rintro τ M' ⟨⟨A1,A2,eA,t,f,lv,tp⟩,x1,rfl⟩;rw[List.drop_length] at t;have:A2=[]:=by
   generalize ds.drop ws.length=dr at t;cases t;rfl
  subst this;rw[List.append_nil] at eA;subst eA;exact k x1 M' f lv tp
theorem kE(j:Nat):∀ ws M Q,bw (j+1) ws M Q->kb (bw j) {nx:=λ _ M'=>Q (.d .none) M',rt:=Q} (bO jy ws) M:=by
 rintro ws M Q ⟨w,d,A,rfl,T,ok,nd,k⟩;have s16':=s16;cases T with
 | d x hx =>
  rcases nv hx with ⟨p1,p2,p3⟩ | ⟨ds,rfl,hds⟩
  ·refine⟨_,rfl,_,_,_,rfl,.d _,.list,_,rfl,eN p2 ?_⟩;refine⟨_,rfl,_,_,_,rfl,.d _,.tuple,_,rfl,eN p1 ?_⟩;refine⟨_,rfl,_,_,_,rfl,.d _,.dict,_,rfl,eN p3 ?_⟩;exact k M (λ _ _=>rfl) (λ q hq=>by cases hq) (Tp.refl M)
  ·simp only[okT,Bool.and_eq_true,decide_eq_true_eq,List.all_eq_true] at ok;refine⟨_,rfl,_,_,_,rfl,.d _,.list,_,rfl,eN (yV _) ?_⟩;refine⟨_,rfl,_,_,_,rfl,.d _,.tuple,_,rfl,j6 (qT _) ?_⟩;refine⟨_,rfl,_,.inl ⟨ds,rfl,rfl⟩,?_⟩;refine changes (Tgs.imm hds) ok.2 List.nodup_nil λ x1 M' f lv tp=>?_;refine⟨_,rfl,_,_,_,rfl,.d _,.dict,_,rfl,eN (zA _) ?_⟩;exact k M' f lv tp
 | @t a ws ds B h r =>
  simp only[okT,Bool.and_eq_true,decide_eq_true_eq,List.all_eq_true] at ok;have⟨na,nB⟩:=List.nodup_cons.mp nd;refine⟨_,rfl,_,_,_,rfl,.t h,.list,_,rfl,eN (yV _) ?_⟩;refine⟨_,rfl,_,_,_,rfl,.t h,.tuple,_,rfl,j6 (qT _) ?_⟩;refine⟨_,rfl,_,.inr ⟨a,rfl,h⟩,?_⟩;refine changes r ok.2 nB λ x1 M' f lv tp=>?_;have h':M' a=some (.tup ws):=by rw[f a na];exact h
  refine⟨_,rfl,_,_,_,rfl,.t h',.dict,_,rfl,eN (zA _) ?_⟩;refine k M' (λ q hq=>f q λ z=>hq (List.mem_cons_of_mem _ z)) (λ q hq=>?_) tp;rcases List.mem_cons.mp hq with e | hq
  ·rw[e,h'];exact nofun
  ·exact lv q hq
 | @l a ws ds B h r =>
  simp only[okT,Bool.and_eq_true,decide_eq_true_eq,List.all_eq_true] at ok;have⟨na,nB⟩:=List.nodup_cons.mp nd;have r1:Tgs (ax M a (.flst ws)) ws ds B:=r.frame λ q hq=>ab λ z=>na (z ▸ hq);refine⟨_,rfl,_,_,_,rfl,.l h,.list,_,rfl,j6 (yT _) ?_⟩;refine⟨a,ws,h,_,rfl,a,_,rfl,aa,?_⟩;refine changes r1 ok.2 nB λ x1 M' f lv tp=>?_;have ha:M' a=some (.flst ws):=by rw[f a na,aa]
  refine⟨ha,_,rfl,a,_,rfl,aa,_,aa,by have:=r.len;omega,?_⟩;rw[jK];have hl:ax M' a (.lst (ws++[.d (.str "changed")])) a=some (.lst (ws++[.d (.str "changed")])):=aa;refine⟨_,rfl,_,_,_,rfl,.l hl,.tuple,_,rfl,eN (y7 _) ?_⟩;refine⟨_,rfl,_,_,_,rfl,.l hl,.dict,_,rfl,eN (adz _) ?_⟩;refine k _ (λ q hq=>?_) (λ q hq=>?_) (Tp.upd (λ q ws e=>tp q ws (by rw[ab λ z=>by rw[z,h] at e;cases e];exact e)) λ ws e=>by rw[h] at e;cases e)
  ·have q1:q≠a:=λ z=>hq (z ▸ List.mem_cons_self);rw[ab q1,f q λ z=>hq (List.mem_cons_of_mem _ z),ab q1]
  ·by_cases e:q=a
   ·rw[e,aa];exact nofun
   ·rw[ab e];exact lv q ((List.mem_cons.mp hq).resolve_left e)
 | @k a kvs ps B h r =>
  simp only[okT,Bool.and_eq_true,decide_eq_true_eq,List.all_eq_true] at ok;have⟨na,nB⟩:=List.nodup_cons.mp nd;refine⟨_,rfl,_,_,_,rfl,.k h,.list,_,rfl,eN (yW _) ?_⟩;refine⟨_,rfl,_,_,_,rfl,.k h,.tuple,_,rfl,eN (zM _) ?_⟩;refine⟨_,rfl,_,_,_,rfl,.k h,.dict,_,rfl,j6 (yS _) ?_⟩;cases r with
  | nil =>
   refine⟨_,rfl,a,_,[],rfl,h,rfl,λ l hl=>⟨l,[],rfl,aa,_,rfl,?_⟩⟩;rw[tQ hl];refine⟨λ i τ M'=>M'=M/\∃ x1 x2,τ=adU (.m a) x1 x2,⟨rfl,_,_,rfl⟩,λ i w τ M' hw=>(by simp at hw),λ τ M' hq110=>?_⟩;obtain⟨e,x1,x2,e2⟩:=hq110;subst e e2;refine⟨_,rfl,a,_,.inr "changed",rfl,h,rfl,by simp;omega,?_⟩;refine k _ (λ q hq=>ab λ z:q=a=>hq (by rw[z];exact List.mem_cons_self)) (λ q hq=>?_) (Tp.upd (Tp.refl _) λ ws e=>by rw[h] at e;cases e)
   by_cases e:q=a
   ·rw[e,aa];exact nofun
   ·cases (List.mem_cons.mp hq).resolve_left e
  | @cons z w ws d ds B1 B2 t1 t2 =>
   have e0:ds=[]:=by have:=ok.1;simp only[List.length_cons] at this;exact List.length_eq_zero_iff.mp (by omega)
   subst e0;cases t2;rw[List.append_nil] at *;refine⟨_,rfl,a,_,[z],rfl,h,rfl,λ l hl=>⟨l,[.str z],rfl,aa,_,rfl,?_⟩⟩;rw[tQ hl];refine⟨λ i τ M'=>(i=0->M'=M)/\(∀ q,q ∉ B1->M' q=M q)/\(∀ q∈B1,M' q≠none)/\Tp M M'/\∃ x1 x2,τ=adU (.m a) x1 x2,⟨λ _=>rfl,λ _ _=>rfl,t1.live,Tp.refl _,_,_,rfl⟩,λ i w' τ M' hw ⟨e,f,lv,tp,x1,x2,e2⟩=>?_,λ τ M' ⟨_,f,lv,tp,x1,x2,e2⟩=>?_⟩
   ·subst e2;have hi:=(List.getElem?_eq_some_iff.mp hw).1;have i0:i=0:=by simpa using hi
    subst i0;have e3:=e rfl;subst e3;cases hw;refine⟨_,rfl,_,rfl,a,_,.inr z,w,rfl,.inl h,rfl,by simp[dg],w,d,B1,rfl,t1,ok.2 _ List.mem_cons_self,nB,λ M2 f2 l2 tp2=>⟨λ z=>absurd z (by omega),f2,l2,tp2,_,_,rfl⟩⟩
   ·subst e2;have h':M' a=some (.dic [(.inr z,w)]):=by rw[f a na];exact h
    refine⟨_,rfl,a,_,.inr "changed",rfl,h',rfl,by simp;omega,?_⟩;refine k _ (λ q hq=>?_) (λ q hq=>?_) (Tp.upd tp λ ws e=>by rw[h] at e;cases e)
    ·rw[ab λ z:q=a=>hq (by rw[z];exact List.mem_cons_self)];exact f q λ z=>hq (List.mem_cons_of_mem _ z)
    ·by_cases e:q=a
     ·rw[e,aa];exact nofun
     ·rw[ab e];exact lv q ((List.mem_cons.mp hq).resolve_left e)
abbrev aa1(k:Nat):Str:=Str.ofString (toString (k:Int))
def things(k:Nat):List PyData:=[.int (k:Nat),.str (("text" : Str)++aa1 k),.tuple [.str "sheet",.tuple [.int 1,.int (k:Nat),.list [.tuple [.int (k:Nat),.str "web"]],.list []]],.list [.int (k:Nat),.list [.int (k:Nat),.tuple [.int (k:Nat)]]],.dict [(.str "k",.list [.int (k:Nat)])],.tuple [.none,.list [.int (k:Nat)],.bool true]]
abbrev outer(k:Nat)(d:PyData):PyData:=.tuple [.str "m",.int (k:Nat),d]
def scn:List Nat->Nat->Nat->Bool->Option Nat
 | [],p,n,_=>if p<=200 then some n else none
 | c::r,p,n,f=>bif c.blt 128 then (bif p.blt 6 || f then scn r (p+1) n f else bif c.ble 57&&Nat.ble 48 c then scn r (p+1) (n * 10+(c-48)) f else scn r (p+1) n true) else none
def numOf(z:Str):Option Nat:=scn z.cps.toList 0 0 false
theorem yZ:∀ (l:List Nat) (p n:Nat) (f:Bool) (k:Nat),scn l p n f=some k->(∀ c∈l,c<128)/\p+l.length<=200
 | [],p,n,f,k,h=>by
  unfold scn at h
  split at h
  ·exact⟨λ c hc=>(by cases hc),by rename_i h2;simpa using h2⟩
  ·cases h
 | c::r,p,n,f,k,h=>by
  unfold scn at h;cases hc:c.blt 128 with
  | false=>rw[hc] at h;cases h
  | true =>
   rw[hc] at h;have hc':c<128:=by simpa [Nat.blt_eq] using hc
   have key:∀ n f,scn r (p+1) n f=some k->(∀ d∈c::r,d<128)/\p+(c::r).length<=200:=λ n f h=>by obtain⟨h1,h2⟩:=yZ r (p+1) n f k h;refine⟨λ d hd=>(List.mem_cons.mp hd).elim (λ e=>e ▸ hc') (h1 d),?_⟩;rw[List.length_cons];omega
   simp only[cond_true] at h;cases h1:(p.blt 6 || f) with
   | true=>rw[h1] at h;exact key _ _ h
   | false =>
    rw[h1] at h;simp only[cond_false] at h;cases h2:(c.ble 57&&Nat.ble 48 c) with
    | true=>rw[h2] at h;exact key _ _ h
    | false=>rw[h2] at h;exact key _ _ h
def wV(k:Nat)(d:PyData):Bool:=okT 7 d&&d.showable&&decide (d.depth<=60)&&decide (numOf d.shown=some k)
abbrev zo(a:Nat):Bool:=(List.range 7).all λ k=>(things (a+k)).all λ d=>wV (a+k) (outer (a+k) d)
theorem acS:zo 0=true:=by decide +kernel
theorem aeP:zo 7=true:=by decide +kernel
theorem aeq:zo 14=true:=by decide +kernel
theorem adq:zo 21=true:=by decide +kernel
theorem aew:zo 28=true:=by decide +kernel
theorem adW:zo 35=true:=by decide +kernel
theorem ad0:zo 42=true:=by decide +kernel
theorem aaf:((List.range 51).all λ k=>decide ((aa1 k).length<=4))=true:=by decide +kernel
theorem jF{a k:Nat}(h:zo a=true)(h1:a<=k)(h2:k<a+7){d:PyData}(hd:d∈things k):wV k (outer k d)=true:=by have:=List.all_eq_true.mp h (k-a) (List.mem_range.mpr (by omega));rw[show a+(k-a)=k by omega] at this;exact List.all_eq_true.mp this d hd
theorem ng{k:Nat}(h:k<=48){d:PyData}(hd:d∈things k):wV k (outer k d)=true:=by
 by_cases h0:k<7
 ·exact jF acS (by omega) (by omega) hd
 by_cases h1:k<14
 ·exact jF aeP (by omega) (by omega) hd
 by_cases h2:k<21
 ·exact jF aeq (by omega) (by omega) hd
 by_cases h3:k<28
 ·exact jF adq (by omega) (by omega) hd
 by_cases h4:k<35
 ·exact jF aew (by omega) (by omega) hd
 by_cases h5:k<42
 ·exact jF adW (by omega) (by omega) hd
 exact jF ad0 (by omega) (by omega) hd
theorem yC{k:Nat}{d:PyData}(h:wV k d=true):okT 7 d=true/\hG d=true/\wM d.shown=true/\numOf d.shown=some k:=by
 have s16':=s16;simp only[wV,Bool.and_eq_true,decide_eq_true_eq] at h;obtain⟨⟨⟨h1,h2⟩,h3⟩,h4⟩:=h;obtain⟨a1,a2⟩:=yZ _ _ _ _ _ h4;refine⟨h1,?_,?_,h4⟩
 ·unfold hG;rw[h2,decide_eq_true h3,Bool.and_true,Bool.true_and];refine decide_eq_true ?_;have:d.shown.length=d.shown.cps.toList.length:=by simp[PySem.Str.length]
  omega
 ·unfold wM;rw[Array.all_eq_true_iff_forall_mem];intro c hc;exact decide_eq_true (a1 c (by simpa using hc))
theorem aaW{k:Nat}(h:k<=48):(aa1 k).length<=4:=of_decide_eq_true (List.all_eq_true.mp aaf k (List.mem_range.mpr (by omega)))
theorem aaQ:((List.range 51).all λ k=>decide (((k:Nat):Int).natAbs.log2<1920))=true:=by decide +kernel
theorem uA{k:Nat}(h:k<=48):((k:Int)).natAbs.log2<1920:=by have:=List.all_eq_true.mp aaQ k (List.mem_range.mpr (by omega));exact of_decide_eq_true this
def Nw(M0 M:MH)(w:W)(d:PyData):Prop:=∃ A,Tg M w d A/\A.Nodup/\∀ q∈A,M0 q=none
theorem Nw.ext{M0 M M':MH}{w:W}{d:PyData}(h:Nw M0 M w d)(x:Ext M M'):Nw M0 M' w d:=by obtain⟨A,t,n,f⟩:=h;exact⟨A,t.ext x,n,f⟩
theorem Nw.imm{M0 M:MH}{d:PyData}(h:imm d=true):Nw M0 M (.d d) d:=⟨[],.d _ h,List.nodup_nil,λ _ hq=>by cases hq⟩
def Nws(M0 M:MH)(ws:List W)(ds:List PyData):Prop:=∃ A,Tgs M ws ds A/\A.Nodup/\∀ q∈A,M0 q=none
theorem Nws.imm(M:MH){ds:List PyData}(h:acf ds=true):Nws M M (ds.map W.d) ds:=⟨[],Tgs.imm h,List.nodup_nil,λ _ hq=>by cases hq⟩
theorem Nws.snoc{M0 M M':MH}{ws:List W}{ds:List PyData}{w:W}{d:PyData}(h:Nws M0 M ws ds)(x0:Ext M0 M)(k:Nw M M' w d)(x:Ext M M'):Nws M0 M' (ws++[w]) (ds++[d]):=by obtain⟨A,t,n,f⟩:=h;obtain⟨B,t2,n2,f2⟩:=k;exact⟨A++B,(t.ext x).snoc t2,ua (M1:=M0) n n2 t.live f2,λ q hq=>(List.mem_append.mp hq).elim (f q) λ z=>Ext.none x0 (f2 q z)⟩
theorem Nws.new{M0 M:MH}{ws:List W}{ds:List PyData}(h:Nws M0 M ws ds)(x:Ext M0 M){p:Addr}(hp:M p=none):Nw M0 (ax M p (.lst ws)) (.m p) (.list ds)/\Nw M0 (ax M p (.tup ws)) (.m p) (.tuple ds):=by obtain⟨A,t,n,f⟩:=h;have p0:M0 p=none:=Ext.none x hp;have hn:(p::A).Nodup:=List.nodup_cons.mpr ⟨λ z=>t.live p z hp,n⟩;have hf:∀ q∈p::A,M0 q=none:=λ q hq=>(List.mem_cons.mp hq).elim (λ e=>e ▸ p0) (f q);exact⟨⟨p::A,.l aa (t.ext (Ext.new hp)),hn,hf⟩,⟨p::A,.t aa (t.ext (Ext.new hp)),hn,hf⟩⟩
theorem Nw.dic{M0 M:MH}{w:W}{d:PyData}{p:Addr}{z:Str}(hp:M0 p=none)(h:Nw (ax M0 p (.dic [])) M w d)(x:Ext (ax M0 p (.dic [])) M):Nw M0 (ax M p (.dic [(.inr z,w)])) (.m p) (.dict [(.str z,d)])/\Ext M0 (ax M p (.dic [(.inr z,w)])):=by
 obtain⟨A,t,n,f⟩:=h;have pA:p ∉ A:=λ q=>by have:=f p q;rw[aa] at this;cases this
 refine⟨⟨p::A,?_,List.nodup_cons.mpr ⟨pA,n⟩,λ q hq=>(List.mem_cons.mp hq).elim (λ e=>e ▸ hp) λ q=>av (f _ q)⟩,λ q o e=>?_⟩
 ·have:=Tgk.cons (k:=z) (t.frame (M':=ax M p (.dic [(.inr z,w)])) λ q hq=>ab λ e:q=p=>pA (e ▸ hq)) .nil;rw[List.append_nil] at this;exact .k aa this
 ·have qp:=cI e hp;rw[ab qp];exact x _ _ (by rw[ab qp];exact e)
theorem Nw.base{M0 M1 M:MH}{w:W}{d:PyData}(h:Nw M1 M w d)(x:Ext M0 M1):Nw M0 M w d:=by obtain⟨A,t,n,f⟩:=h;exact⟨A,t,n,λ q hq=>Ext.none x (f q hq)⟩
def cv:SpD:=λ ws M Q=>∃ (b:Addr) (k:Nat),ws=[.m b,.d (.int (k:Nat))]/\k<=48/\Bag M b/\∀ w d A M',Tg M' w d A->A.Nodup->(∀ q∈A,M q=none)->d∈things k->Bag M' b->(∀ q y,q≠b->M q=some y->M' q=some y)->Q w M'
theorem pO:∀ ws M Q,cv ws M Q->ws.length=2:=by rintro ws M Q ⟨b,k,rfl,_⟩;rfl
theorem nz:∀ ws M Q,cv ws M Q->nK aC {nx:=λ _ M'=>Q (.d .none) M',rt:=Q} (bO oB ws) M:=by
 rintro ws M Q ⟨b,k,rfl,hk,bg,K⟩;have s16':=s16;have nk:=aaW hk;refine⟨_,rfl,b,6,rfl,bg,by decide,by decide,λ r M0 r0 r1 bg0 f0=>?_⟩;have x0:∀ q y,q≠b->M q=some y->M0 q=some y:=λ q y n e=>by rw[f0 _ n];exact e
 have nn:∀ q,M0 q=none->M q=none:=λ q e=>by rw[<- f0 q λ z=>fJ bg0 (by rw[<- z];exact e)];exact e
 replace K:∀ w d A M',Tg M' w d A->A.Nodup->(∀ q∈A,M0 q=none)->d∈things k->Ext M0 M'->Q w M':=λ w d A M' t n f hd x =>
  K w d A M' t n (λ q hq=>nn q (f q hq)) hd (Ext.bag x bg0) λ q y n e=>x _ _ (x0 q y n e)
 clear bg f0 x0 nn bg0;replace K:∀ w d M',Nw M0 M' w d->d∈things k->Ext M0 M'->Q w M':=λ w d M' ⟨A,t,n,f⟩ hd x=>K w d A M' t n f hd x;have lv:∀ {M'},Ext M0 M'->∀ q o,M0 q=some o->M' q≠none:=λ x q o e=>by rw[x _ _ e];exact nofun
 have tl:(Str.ofString "text").length+(aa1 k).length<=sizeLine:=by
  have:(Str.ofString "text").length=4:=by decide
  omega
 refine⟨_,rfl,_,rfl,.inr ⟨_,rfl,uA hk,.inr ⟨_,_,rfl,rfl,tl,?_⟩⟩⟩;refine⟨_,rfl,_,rfl,_,rfl,(show 2<=sizeLine by omega),(show 1<=sizeLine by omega),λ a1 h1=>?_⟩;have x1:=Ext.new (o:=.lst [W.d (.tuple [.int (k:Nat),.str "web"])]) h1;have n1:=((Nws.imm M0 (ds:=[.tuple [.int (k:Nat),.str "web"]]) rfl).new (Ext.refl M0) h1).1;refine⟨by simp,λ a2 h2=>?_⟩;have x2:=Ext.new (o:=.lst []) h2;have n2:=((Nws.imm _ (ds:=[]) rfl).new (Ext.refl _) h2).1;have t3:=(((Nws.imm M0 (ds:=[.int 1,.int (k:Nat)]) rfl).snoc (Ext.refl _) n1 x1).snoc x1 n2 x2);refine⟨(show 4<=sizeLine by omega),λ a3 h3=>?_⟩;have n3:=(t3.new (x1.trans x2) h3).2;have x3:=(x1.trans x2).trans (Ext.new (o:=.tup [.d (.int 1),.d (.int (k:Nat)),.m a1,.m a2]) h3);refine⟨(show 2<=sizeLine by omega),λ a4 h4=>?_⟩;have n4:=(((Nws.imm M0 (ds:=[.str "sheet"]) rfl).snoc (Ext.refl _) n3 x3).new x3 h4).2;have x4:=x3.trans (Ext.new (o:=.tup [.d (.str "sheet"),.m a3]) h4);clear n1 n2 n3 t3 x1 x2 x3;dsimp only[List.map,List.cons_append,List.nil_append] at n4;generalize ax (ax (ax (ax M0 a1 _) a2 _) a3 _) a4 _=M4 at n4 x4;clear h1 h2 h3 h4;refine⟨_,rfl,_,rfl,_,rfl,_,rfl,(show 1<=sizeLine by omega),(show 2<=sizeLine by omega),λ a5 h5=>?_⟩;have n5:=((Nws.imm M4 (ds:=[.int (k:Nat),.tuple [.int (k:Nat)]]) rfl).new (Ext.refl _) h5).1;have x5:=Ext.new (o:=.lst [.d (.int (k:Nat)),.d (.tuple [.int (k:Nat)])]) h5;refine⟨(show 2<=sizeLine by omega),λ a6 h6=>?_⟩;have n6:=(((Nws.imm M4 (ds:=[.int (k:Nat)]) rfl).snoc (Ext.refl _) n5 x5).new x5 h6).1;have x6:=x5.trans (Ext.new (o:=.lst [.d (.int (k:Nat)),.m a5]) h6);clear n5 x5;dsimp only[List.map,List.cons_append,List.nil_append] at n6;generalize ax (ax M4 a5 _) a6 _=M6 at n6 x6;clear h5 h6;refine λ a7 h7=>⟨_,rfl,(show 1<=sizeLine by omega),λ a8 h8=>?_⟩;have n8:=((Nws.imm _ (ds:=[.int (k:Nat)]) rfl).new (Ext.refl _) h8).1;have x8:=Ext.new (o:=.lst [.d (.int (k:Nat))]) h8;obtain⟨n7,x7⟩:=Nw.dic (z:= "k") h7 n8 x8;refine⟨x8 _ _ aa,[(.inr "k",.m a8)],rfl,(show 1<=15 by decide),(show([.inr "k"]:List Key).Nodup by decide),?_⟩;dsimp only[List.map] at n7 x7;clear n8 x8;generalize ax (ax (ax M6 a7 _) a8 _) a7 _=M7 at n7 x7;clear h7 h8;refine⟨_,rfl,(show 1<=sizeLine by omega),λ a9 h9=>?_⟩;have n9:=((Nws.imm M7 (ds:=[.int (k:Nat)]) rfl).new (Ext.refl _) h9).1;have x9:=Ext.new (o:=.lst [.d (.int (k:Nat))]) h9;refine⟨(show 3<=sizeLine by omega),λ b0 g0=>?_⟩;have m0:=((((Nws.imm M7 (ds:=[.none]) rfl).snoc (Ext.refl _) n9 x9).snoc x9 (d:=.bool true) (Nw.imm rfl) (Ext.refl _)).new x9 g0).2;have y0:=x9.trans (Ext.new (o:=.tup [.d .none,.m a9,.d (.bool true)]) g0);clear n9 x9;dsimp only[List.map,List.cons_append,List.nil_append] at m0;generalize ax (ax M7 a9 _) b0 _=M10 at m0 y0;clear h9 g0;refine⟨(show 6<=sizeLine by omega),λ b1 g1=>?_⟩;have z1:=Ext.new (o:=.lst [.d (.int (k:Nat)),.d (.str (("text" : Str)++aa1 k)),.m a4,.m a6,.m a7,.m b0]) g1;have e4:=aa (M:=M10) (a:=b1) (o:=.lst [.d (.int (k:Nat)),.d (.str (("text" : Str)++aa1 k)),.m a4,.m a6,.m a7,.m b0]);have N4:=n4.ext ((x6.trans (x7.trans y0)).trans z1);have N6:=(n6.ext ((x7.trans y0).trans z1)).base x4;have N7:=(n7.ext (y0.trans z1)).base (x4.trans x6);have N0:=(m0.ext z1).base (x4.trans (x6.trans x7));have XX:=(x4.trans (x6.trans (x7.trans y0))).trans z1;have fin:∀ (M':MH) (w:W) (d:PyData) (ws:List W),M' b1=some (.lst ws)->atI ws r=some w->Nw M0 M' w d->d∈things k->Ext M0 M'->cU (.m b1) (.d (.int r)) M' Q:=λ M' w d ws e i n hd x =>
  ⟨r,w,rfl,by simp only[ixW,e];exact i,rfl,K w d M' n hd x⟩
 refine⟨_,rfl,_,rfl,?_⟩;have:r=0\/r=1\/r=2\/r=3\/r=4\/r=5:=by omega
 rcases this with rfl | rfl | rfl | rfl | rfl | rfl
 ·exact fin _ _ (.int (k:Nat)) _ e4 rfl (Nw.imm rfl) (by simp[things]) XX
 ·exact fin _ _ (.str (("text" : Str)++aa1 k)) _ e4 rfl (Nw.imm rfl) (by simp[things]) XX
 ·exact fin _ _ _ _ e4 rfl N4 (by simp[things]) XX
 ·exact fin _ _ _ _ e4 rfl N6 (by simp[things]) XX
 ·exact fin _ _ _ _ e4 rfl N7 (by simp[things]) XX
 ·exact fin _ _ _ _ e4 rfl N0 (by simp[things]) XX
abbrev FR(x y z g:Addr):List (Str×W):=[("lateness",.m x),("doubled",.m y),("cut_off",.m z),("messages",.m g)]
theorem agG{x y z g:Addr}:(FR x y z g).lookup ("lateness" : Str)=some (.m x):=rfl
theorem agZ{x y z g:Addr}:(FR x y z g).lookup ("doubled" : Str)=some (.m y):=rfl
theorem afa{x y z g:Addr}:(FR x y z g).lookup ("cut_off" : Str)=some (.m z):=rfl
theorem aeL{x y z g:Addr}:(FR x y z g).lookup ("messages" : Str)=some (.m g):=rfl
theorem aeR{x y z g:Addr}:(FR x y z g).lookup ("is_due" : Str)=none:=rfl
theorem afF{x y z g:Addr}:(FR x y z g).lookup ("come" : Str)=none:=rfl
theorem aft{x y z g:Addr}:(FR x y z g).lookup ("put" : Str)=none:=rfl
theorem afn{x y z g:Addr}:(FR x y z g).lookup ("late" : Str)=none:=rfl
theorem afC{x y z g:Addr}:(FR x y z g).lookup ("twice" : Str)=none:=rfl
theorem agk{x y z g:Addr}:(FR x y z g).lookup ("cut" : Str)=none:=rfl
theorem aer{x y z g:Addr}:(FR x y z g).lookup ("join" : Str)=none:=rfl
theorem afu{x y z g:Addr}:(FR x y z g).lookup ("many" : Str)=none:=rfl
abbrev cdC:MO:=.code dt ⟨43,77,43,103⟩
structure Msg where
 d:Nat
 z:Str
 k:PyData
 n:Nat
def due(ct:Str->Bool)(t:Nat)(m:Msg):Bool:=decide (m.d<=t)&&!ct m.z
def bJ:SpD:=λ ws M Q=>∃ (N:List Str) (r h:Addr),ws=[.m r,.m h]/\N.Nodup/\N.length<=60/\M r=some (.ins aq [])/\M h=some (.lst ((N.map PyData.str).map W.d)) /\
 ∀ x y z g M',(M x=none/\M y=none/\M z=none/\M g=none)->[x,y,z,g].Nodup->M' r=some (.ins aq (FR x y z g))->M' x=some (.dic (kf N (nW λ _=>0)))->M' y=some (.dic (kf N (bW λ _=>false)))->M' z=some (.dic (kf N (bW λ _=>false)))->M' g=some (.lst [])->(∀ b o,b≠r->M b=some o->M' b=some o)->Q (.d .none) M'
theorem mU:∀ ws M Q,bJ ws M Q->ws.length=2:=by rintro ws M Q ⟨N,r,h,rfl,_⟩;rfl
theorem yd{M:MH}{h p:Addr}{ws:List W}{o:MO}(hh:M h=some (.lst ws))(hp:ax M h (.flst ws) p=none):ax (ax (ax M h (.flst ws)) p o) h (.lst ws)=ax M p o/\M p=none/\ax (ax M h (.flst ws)) p o h=some (.flst ws):=by
 have p0:=av hp;have ph:=aM hp;refine⟨?_,p0,by rw[ab ph.symm,aa]⟩;funext b
 by_cases e:b=h
 ·rw[e,aa,ab ph.symm,hh]
 ·rw[ab e]
  by_cases e2:b=p
  ·rw[e2,aa,aa]
  ·rw[ab e2,ab e,ab e2]
theorem pK{N:List Str}{c:W}{i:Nat}{τ:DS}{M:MH}{Q:QD}{h:Addr}(nd:N.Nodup)(hl:N.length<=1000)(hv:τ[i]? =some (some (.m h)))(hh:M h=some (.lst ((N.map PyData.str).map W.d)))(k:∀ p,M p=none->Q (.m p) (ax M p (.dic (kf N λ _=>c)))):fm (dDC (cw (ak i)) (gN 0) o5 (ak 0) (dC c) 1 []) τ M Q:=by
 have sl:=s16;refine⟨h,_,hh,_,hv,h,_,rfl,aa,λ p hp=>⟨λ j τ' M'=>M'=ax (ax M h (.flst ((N.map PyData.str).map W.d))) p (.dic (kf (N.take j) λ _=>c))/\∃ x,τ'=[x],⟨rfl,_,rfl⟩,?_,?_⟩⟩
 ·rintro j w τ' M' hw ⟨rfl,x,rfl⟩;rw[List.map_map] at hw;obtain⟨z,hz,rfl⟩:=gM hw;have hj:=(List.getElem?_eq_some_iff.mp hz).1;refine⟨_,rfl,_,.inr z,aa,rfl,?_,?_,_,rfl⟩
  ·rw[kU,List.length_take];omega
  ·rw[jK,wc (abI nd hz)];have ht:N.take (j+1)=N.take j++[z]:=by rw[List.take_succ,hz];rfl
   rw[ht]
 ·rintro τ' M' ⟨e,x,rfl⟩;rw[e];have:N.take ((N.map PyData.str).map W.d).length=N:=List.take_of_length_le (by simp);rw[this];obtain⟨e1,p0,e2⟩:=yd (o:=.dic (kf N λ _=>c)) hh hp;exact⟨e2,by rw[e1];exact k p p0⟩
theorem kB:∀ ws M Q,bJ ws M Q->gu {nx:=λ _ M'=>Q (.d .none) M',rt:=Q} (bO jm ws) M:=by
 rintro ws M Q ⟨N,r,h,rfl,nd,hl,hr,hh,k⟩;have rh:h≠r:=xf hh hr (λ e=>nomatch e);have sl:=s16;have hl':N.length<=1000:=by omega
 dsimp only[gu,bS,fH];refine pK nd hl' rfl hh λ x hx=>⟨_,rfl,r,_,rfl,br hr hx,by decide,?_⟩;refine pK nd hl' rfl (by rw[ab rh];exact br hh hx) λ y hy=>⟨_,rfl,r,_,rfl,br aa hy,(by show 1<1000;decide),?_⟩;refine pK nd hl' rfl (by rw[ab rh];exact br (by rw[ab rh];exact br hh hx) hy) λ z hz=>⟨_,rfl,r,_,rfl,br aa hz,(by show 2<1000;decide),?_⟩;refine⟨by simp,λ g hg=>⟨_,rfl,r,_,rfl,br aa hg,(by show 3<1000;decide),?_⟩⟩;have rx:r≠x:=cI hr hx;have y0:=av (av hy);have z0:=av (av (av (av hz)));have g0:=av (av (av (av (av (av hg)))));have yr:=aM hy;have yx:=aM (av hy);have zr:=aM hz;have zy:=aM (av hz);have zx:=aM (av (av (av hz)));have gr:=aM hg;have gz:=aM (av hg);have gy:=aM (av (av (av hg)));have gx:=aM (av (av (av (av (av hg)))));refine k x y z g _ ⟨hx,y0,z0,g0⟩ ?_ aa ?_ ?_ ?_ ?_ λ b o n e=>?_
 ·simp[Ne.symm yx,Ne.symm zx,Ne.symm gx,Ne.symm zy,Ne.symm gy,Ne.symm gz]
 ·rw[ab rx.symm,ab gx.symm,ab rx.symm,ab zx.symm,ab rx.symm,ab yx.symm,ab rx.symm,aa];rfl
 ·rw[ab yr,ab gy.symm,ab yr,ab zy.symm,ab yr,aa]
 ·rw[ab zr,ab gz.symm,ab zr,aa]
 ·rw[ab gr,aa]
 ·rw[ab n,ab (cI e g0),ab n,ab (cI e z0),ab n,ab (cI e y0),ab n,ab (cI e hx)];exact e
structure Rl(M:MH)(r x y z g:Addr)(N:List Str)(lt:Str->Nat)(db ct:Str->Bool):Prop where
 hr:M r=some (.ins aq (FR x y z g))
 hx:M x=some (.dic (kf N (nW lt)))
 hy:M y=some (.dic (kf N (bW db)))
 hz:M z=some (.dic (kf N (bW ct)))
def bV:SpD:=λ ws M Q=>∃ (r x y z g:Addr) (N:List Str) (f:Str->Nat) (a:Str) (n:Nat),ws=[.m r,.d (.str a),.d (.int (n:Nat))]/\M r=some (.ins aq (FR x y z g))/\M x=some (.dic (kf N (nW f)))/\a∈N/\N.length<=60/\Q (.d .none) (ax M x (.dic (kf N (nW (cY f a n)))))
theorem lP:∀ ws M Q,bV ws M Q->ws.length=3:=by rintro ws M Q ⟨r,x,y,z,g,N,f,a,n,rfl,_⟩;rfl
theorem kD:∀ ws M Q,bV ws M Q->jW {nx:=λ _ M'=>Q (.d .none) M',rt:=Q} (bO j9 ws) M:=by
 rintro ws M Q ⟨r,x,y,z,g,N,f,a,n,rfl,hr,hx,ha,hl,k⟩;have sl:=s16;refine⟨_,rfl,_,rfl,r,_,_,rfl,hr,agG,_,rfl,x,_,.inr a,rfl,hx,rfl,by rw[kU];omega,?_⟩;rw[nD ha,adJ];exact k
def bL:SpD:=λ ws M Q=>∃ (r x y z g:Addr) (N:List Str) (f:Str->Bool) (a:Str) (n:Bool),ws=[.m r,.d (.str a),.d (.bool n)]/\M r=some (.ins aq (FR x y z g))/\M y=some (.dic (kf N (bW f)))/\a∈N/\N.length<=60/\Q (.d .none) (ax M y (.dic (kf N (bW (cY f a n)))))
theorem kC:∀ ws M Q,bL ws M Q->ws.length=3:=by rintro ws M Q ⟨r,x,y,z,g,N,f,a,n,rfl,_⟩;rfl
theorem jg:∀ ws M Q,bL ws M Q->iz {nx:=λ _ M'=>Q (.d .none) M',rt:=Q} (bO iQ ws) M:=by
 rintro ws M Q ⟨r,x,y,z,g,N,f,a,n,rfl,hr,hx,ha,hl,k⟩;have sl:=s16;refine⟨_,rfl,_,rfl,r,_,_,rfl,hr,agZ,_,rfl,y,_,.inr a,rfl,hx,rfl,by rw[kU];omega,?_⟩;rw[nD ha,vy];exact k
def ck:SpD:=λ ws M Q=>∃ (r x y z g:Addr) (N:List Str) (f:Str->Bool) (a:Str),ws=[.m r,.d (.str a)]/\M r=some (.ins aq (FR x y z g))/\M z=some (.dic (kf N (bW f)))/\a∈N/\N.length<=60/\Q (.d .none) (ax M z (.dic (kf N (bW (cY f a true)))))
theorem nR:∀ ws M Q,ck ws M Q->ws.length=2:=by rintro ws M Q ⟨r,x,y,z,g,N,f,a,rfl,_⟩;rfl
theorem mP:∀ ws M Q,ck ws M Q->lx {nx:=λ _ M'=>Q (.d .none) M',rt:=Q} (bO kM ws) M:=by
 rintro ws M Q ⟨r,x,y,z,g,N,f,a,rfl,hr,hx,ha,hl,k⟩;have sl:=s16;refine⟨_,rfl,r,_,_,rfl,hr,afa,_,rfl,z,_,.inr a,rfl,hx,rfl,by rw[kU];omega,?_⟩;rw[nD ha,vy];exact k
def aL:SpD:=λ ws M Q=>∃ (r x y z g:Addr) (N:List Str) (f:Str->Bool) (a:Str),ws=[.m r,.d (.str a)]/\M r=some (.ins aq (FR x y z g))/\M z=some (.dic (kf N (bW f)))/\a∈N/\N.length<=60/\Q (.d .none) (ax M z (.dic (kf N (bW (cY f a false)))))
theorem mO:∀ ws M Q,aL ws M Q->ws.length=2:=by rintro ws M Q ⟨r,x,y,z,g,N,f,a,rfl,_⟩;rfl
theorem ke:∀ ws M Q,aL ws M Q->j8 {nx:=λ _ M'=>Q (.d .none) M',rt:=Q} (bO jG ws) M:=by
 rintro ws M Q ⟨r,x,y,z,g,N,f,a,rfl,hr,hx,ha,hl,k⟩;have sl:=s16;refine⟨_,rfl,r,_,_,rfl,hr,afa,_,rfl,z,_,.inr a,rfl,hx,rfl,by rw[kU];omega,?_⟩;rw[nD ha,vy];exact k
structure Pm where
 m:Msg
 w:W
 t:Addr
 A:List Addr
abbrev own(p:Pm):List Addr:=p.t::p.A
structure IsP(M:MH)(p:Pm):Prop where
 tp:M p.t=some (.tup [.d (.int (p.m.d:Nat)),.d (.str p.m.z),p.w])
 th:Tg M p.w p.m.k p.A
abbrev pmW(ps:List Pm):MO:=.lst (ps.map λ p=>.m p.t)
theorem IsP.frame{M M':MH}{p:Pm}(h:IsP M p)(f:∀ q∈own p,M' q=M q):IsP M' p:=⟨(f _ List.mem_cons_self).trans h.tp,h.th.frame λ q hq=>f q (List.mem_cons_of_mem _ hq)⟩
theorem IsP.live{M:MH}{p:Pm}(h:IsP M p):∀ q∈own p,M q≠none:=λ q hq=>(List.mem_cons.mp hq).elim (λ e=>by rw[e,h.tp];exact nofun) (h.th.live q)
def aW:SpD:=λ ws M Q=>∃ (r x y z g:Addr) (N:List Str) (ct:Str->Bool) (p:Pm) (t:Nat),ws=[.m r,.m p.t,.d (.int (t:Nat))]/\M r=some (.ins aq (FR x y z g))/\M z=some (.dic (kf N (bW ct)))/\p.m.z∈N/\M p.t=some (.tup [.d (.int (p.m.d:Nat)),.d (.str p.m.z),p.w])/\Q (.d (.bool (due ct t p.m))) M
theorem jn:∀ ws M Q,aW ws M Q->ws.length=3:=by rintro ws M Q ⟨r,x,y,z,g,N,ct,m,t,rfl,_⟩;rfl
theorem dle(a b:Nat):decide ((a:Int)<=(b:Int))=decide (a<=b):=by simp[Int.ofNat_le]
theorem iU:∀ ws M Q,aW ws M Q->gE {nx:=λ _ M'=>Q (.d .none) M',rt:=Q} (bO gU ws) M:=by
 rintro ws M Q ⟨r,x,y,z,g,N,ct,m,t,rfl,hr,hz,hm,ht,k⟩;refine⟨_,rfl,m.t,_,rfl,ht,rfl,_,_,rfl,_,_,rfl,_,_,rfl,rfl,?_⟩;refine⟨_,rfl,_,rfl,.inl ⟨_,_,rfl,rfl,_,rfl,?_⟩⟩;rw[dle];unfold due at k;refine fe (λ h=>?_) (λ h=>?_)
 ·rw[h,Bool.true_and] at k;exact⟨_,rfl,r,_,_,rfl,hr,afa,_,rfl,z,_,.inr m.m.z,_,rfl,.inl hz,rfl,jP hm,_,rfl,k⟩
 ·rw[h,Bool.false_and] at k;exact k
def bK:SpD:=λ ws M Q=>∃ (r x y z g:Addr) (l:List W),ws=[.m r]/\M r=some (.ins aq (FR x y z g))/\M g=some (.lst l)/\Q (.d (.int (l.length:Nat))) M
theorem l3:∀ ws M Q,bK ws M Q->ws.length=1:=by rintro ws M Q ⟨r,x,y,z,g,l,rfl,_⟩;rfl
theorem kG:∀ ws M Q,bK ws M Q->jU {nx:=λ _ M'=>Q (.d .none) M',rt:=Q} (bO jB ws) M:=by
 rintro ws M Q ⟨r,x,y,z,g,l,rfl,hr,hg,k⟩;exact⟨_,rfl,r,_,_,rfl,hr,aeL,_,_,rfl,by simp only[yX,hg],rfl,k⟩
def aZ:SpD:=λ ws M Q=>∃ (r x y z g:Addr) (N:List Str) (ct:Str->Bool) (a:Str),ws=[.m r,.d (.str a)]/\M r=some (.ins aq (FR x y z g))/\M z=some (.dic (kf N (bW ct)))/\a∈N/\Q (.d (.bool (ct a))) M
theorem jt:∀ ws M Q,aZ ws M Q->ws.length=2:=by rintro ws M Q ⟨r,x,y,z,g,N,ct,a,rfl,_⟩;rfl
theorem iT:∀ ws M Q,aZ ws M Q->gD {nx:=λ _ M'=>Q (.d .none) M',rt:=Q} (bO gS ws) M:=by
 rintro ws M Q ⟨r,x,y,z,g,N,ct,a,rfl,hr,hz,ha,k⟩;exact⟨_,rfl,r,_,_,rfl,hr,afa,_,rfl,z,_,.inr a,_,rfl,.inl hz,rfl,jP ha,k⟩
theorem agq{x y z g:Addr}:(FR x y z g).lookup ("is_cut" : Str)=none:=rfl
theorem lu{α:Type}{gt:TGd}{tt:TTd}{te:TD}{τ0:DS}{M:MH}{F:List W->MH->Prop}(ps:List α)(φ:α->W)(c:α->Bool)(J:DS->Prop)(hL:ps.length<=1000)(h0:J τ0)
  (step:∀ a∈ps,∀ τ,J τ->∀ (Y:W->DS->MH->Prop) (No:DS->MH->Prop),(c a=true->∀ τ2,J τ2->Y (φ a) τ2 M)->(c a=false->∀ τ2,J τ2->No τ2 M)->gt (φ a) τ M λ τ2 M2=>tt τ2 M2 λ b M3=>if b=true then te τ2 M3 λ y M4=>Y y τ2 M4 else No τ2 M3)
  (k:F ((ps.filter c).map φ) M) :
  ∃ P:Nat->List W->DS->MH->Prop,P 0 [] τ0 M /\
   (∀ i w acc τ M,(ps.map φ)[i]? =some w->P i acc τ M->acc.length<sizeLine/\gt w τ M λ τ2 M2=>tt τ2 M2 λ b M3=>if b=true then te τ2 M3 λ y M4=>P (i+1) (acc++[y]) τ2 M4 else P (i+1) acc τ2 M3) /\
   ∀ acc τ M,P (ps.map φ).length acc τ M->F acc M:=by
 have sl:=s16;refine⟨λ i acc τ M'=>M'=M/\acc=((ps.take i).filter c).map φ/\J τ,⟨rfl,rfl,h0⟩,?_,?_⟩
 ·rintro i w acc τ M' hw ⟨rfl,rfl,hs⟩;obtain⟨a,ha,rfl⟩:=gM hw;have e:ps.take (i+1)=ps.take i++[a]:=by rw[List.take_succ,ha];rfl
  refine⟨?_,step a (List.mem_of_getElem? ha) τ hs (λ y τ2 M4=>M4=M'/\((ps.take i).filter c).map φ++[y]=((ps.take (i+1)).filter c).map φ/\J τ2) (λ τ2 M4=>M4=M'/\((ps.take i).filter c).map φ=((ps.take (i+1)).filter c).map φ/\J τ2) (λ hc τ2 j2=>⟨rfl,?_,j2⟩) (λ hc τ2 j2=>⟨rfl,?_,j2⟩)⟩
  ·rw[List.length_map];have:=List.length_filter_le c (ps.take i);rw[List.length_take] at this;omega
  ·rw[e,List.filter_append,List.map_append,List.filter_cons_of_pos hc];rfl
  ·rw[e,List.filter_append,List.filter_cons_of_neg (by rw[hc];decide)];simp
 ·rintro acc τ M' ⟨rfl,rfl,hs⟩;have e:ps.take (ps.map φ).length=ps:=List.take_of_length_le (by simp);rw[e];exact k
theorem oF{M:MH}{g p:Addr}{ws:List W}{l:MO}(hg:M g=some (.lst ws))(hp:ax M g (.flst ws) p=none):M p=none/\p≠g/\Ext M (ax (ax (ax M g (.flst ws)) p l) g (.lst ws))/\ax (ax (ax M g (.flst ws)) p l) g (.lst ws) p=some l:=by
 have h1:=av hp;have h2:=aM hp;refine⟨h1,h2,λ b o e=>?_,by rw[ab h2,aa]⟩
 by_cases h:b=g
 ·subst h;rw[hg] at e;cases e;exact aa
 ·rw[ab h,ab (cI e h1),ab h];exact e
abbrev fdW(R:List (Addr×Pm)):MO:=.lst (R.map λ e=>.m e.1)
abbrev fdT(p:Pm):MO:=.tup [.d (.str p.m.z),p.w]
def bU:SpD:=λ ws M Q=>∃ (r x y z g:Addr) (N:List Str) (ct:Str->Bool) (ps:List Pm) (t:Nat),ws=[.m r,.d (.int (t:Nat))]/\M az=some cdC/\M r=some (.ins aq (FR x y z g))/\M z=some (.dic (kf N (bW ct)))/\M g=some (pmW ps)/\(∀ p∈ps,p.m.z∈N)/\(∀ p∈ps,M p.t=some (.tup [.d (.int (p.m.d:Nat)),.d (.str p.m.z),p.w]))/\ps.length<=1000 /\
 ∀ (R:List (Addr×Pm)) (l g':Addr) (M':MH),(R.map (·.2)).Perm (ps.filter λ p=>due ct t p.m)->(∀ T:Pm->Pm->Prop,(ps.filter λ p=>due ct t p.m).Pairwise T->(R.map (·.2)).Pairwise λ a b=>a.m.d<b.m.d\/(a.m.d=b.m.d/\T a b))->M g'=none->M l=none->l≠g'->(∀ e∈R,M e.1=none/\M' e.1=some (fdT e.2))->M' l=some (fdW R)->M' r=some (.ins aq (FR x y z g'))->M' g'=some (pmW (ps.filter λ p=>!due ct t p.m))->(∀ b o,b≠r->M b=some o->M' b=some o)->Q (.m l) M'
theorem mx:∀ ws M Q,bU ws M Q->ws.length=2:=by rintro ws M Q ⟨r,x,y,z,g,N,ct,ms,t,rfl,_⟩;rfl
theorem kA:∀ ws M Q,bU ws M Q->jC aW {nx:=λ _ M'=>Q (.d .none) M',rt:=Q} (bO jv ws) M:=by
 rintro ws M Q ⟨r,x,y,z,g,N,ct,ms,t,rfl,hC,hr,hz,hg,hm,hi,hl,k⟩;have sl:=s16;have rg:r≠g:=xf hr hg (λ e=>nomatch e);have zg:z≠g:=xf hz hg (λ e=>nomatch e);have tg:∀ p∈ms,p.t≠g:=λ p hp=>xf (hi p hp) hg (λ e=>nomatch e);refine⟨g,_,hg,_,rfl,r,_,_,rfl,by rw[ab rg];exact hr,aeL,g,_,rfl,aa,?_⟩;refine lu ms (λ p=>W.m p.t) (λ p=>due ct t p.m) (λ τ=>∃ x1,τ=[x1,some (.m r),some (.d (.int (t:Nat)))]) hl (by exact⟨_,rfl⟩) (λ m hm' τ hτ Y No hY hN=>?_) (λ p hp=>?_)
 ·obtain⟨x1,rfl⟩:=hτ;refine⟨_,rfl,r,_,rfl,by rw[ab rg];exact hr,aeR (x:=x) (y:=y) (z:=z) (g:=g),_,rfl,_,rfl,r,x,y,z,g,N,ct,m,t,rfl,by rw[ab rg];exact hr,by rw[ab zg];exact hz,hm m hm',by rw[ab (tg m hm')];exact hi m hm',_,rfl,?_⟩;refine fe (λ h=>⟨_,rfl,hY h _ ⟨_,rfl⟩⟩) (λ h=>hN h _ ⟨_,rfl⟩)
 obtain⟨hp0,pg,x1,hp1⟩:=oF (l:=.lst ((ms.filter λ p=>due ct t p.m).map λ p=>W.m p.t)) hg hp;refine⟨br aa hp,?_⟩;generalize ax (ax (ax M g (.flst _)) p _) g (.lst _)=M1 at x1 hp1;refine⟨g,_,x1 _ _ hg,_,rfl,r,_,_,rfl,by rw[ab rg];exact x1 _ _ hr,aeL,g,_,rfl,aa,?_⟩;refine lu ms (λ p=>W.m p.t) (λ p=>!due ct t p.m) (λ τ=>∃ x1,τ=[x1,some (.m r),some (.d (.int (t:Nat)))]) hl (by exact⟨_,rfl⟩) (λ m hm' τ hτ Y No hY hN=>?_) (λ q hq=>?_)
 ·obtain⟨x3,rfl⟩:=hτ;refine⟨_,rfl,r,_,rfl,by rw[ab rg];exact x1 _ _ hr,aeR (x:=x) (y:=y) (z:=z) (g:=g),_,rfl,_,rfl,r,x,y,z,g,N,ct,m,t,rfl,by rw[ab rg];exact x1 _ _ hr,by rw[ab zg];exact x1 _ _ hz,hm m hm',by rw[ab (tg m hm')];exact x1 _ _ (hi m hm'),_,rfl,?_⟩;refine fe (λ h=>⟨_,rfl,hY h _ ⟨_,rfl⟩⟩) (λ h=>hN h _ ⟨_,rfl⟩)
 obtain⟨hq0,qg,x2,hq1⟩:=oF (l:=.lst ((ms.filter λ p=>!due ct t p.m).map λ p=>W.m p.t)) (x1 _ _ hg) hq;refine⟨br aa hq,_,rfl,r,_,rfl,x2 _ _ (x1 _ _ hr),(by show 4<1000;decide),?_⟩;generalize ax (ax (ax M1 g (.flst _)) q _) g (.lst _)=M2 at x2 hq1;have qM:M q=none:=Ext.none x1 hq0;have x3:Ext M M2:=x1.trans x2;have qr:q≠r:=λ e=>by rw[e,hr] at qM;cases qM
 have pr:p≠r:=λ e=>by rw[e,hr] at hp0;cases hp0
 have Cr:az≠r:=xf hC hr (λ e=>nomatch e);have hr3:ax M2 r (.ins aq (vP "messages" (.m q) (FR x y z g))) r=some (.ins aq (FR x y z q)):=aa;have x4:∀ b o,b≠r->M b=some o->ax M2 r (.ins aq (vP "messages" (.m q) (FR x y z g))) b=some o:=λ b o n e=>by rw[ab n];exact x3 _ _ e
 have hp3:ax M2 r (.ins aq (vP "messages" (.m q) (FR x y z g))) p=some (.lst ((ms.filter λ p=>due ct t p.m).map λ p=>W.m p.t)):=by rw[ab pr];exact x2 _ _ hp1
 have hq3:ax M2 r (.ins aq (vP "messages" (.m q) (FR x y z g))) q=some (pmW (ms.filter λ p=>!due ct t p.m)):=by rw[ab qr];exact hq1
 have nn3:∀ a,ax M2 r (.ins aq (vP "messages" (.m q) (FR x y z g))) a=none->M a=none:=λ a e=>Ext.none x3 (av e);generalize ax M2 r (.ins aq (vP "messages" (.m q) (FR x y z g)))=M3 at hr3 x4 hp3 hq3 nn3;have lf:(ms.filter λ p=>due ct t p.m).length<=ms.length:=List.length_filter_le _ _;obtain⟨D',e2,pm,od⟩:=abf (ms.filter λ p=>due ct t p.m) (λ p=>(p.m.d:Int)) (λ p=>W.m p.t);have ld:D'.length<=1000:=by rw[pm.length_eq];omega
 have inr:∀ p∈ms,p.t≠r:=λ p hp=>xf (hi p hp) hr (λ e=>nomatch e);have mem:∀ p∈D',p∈ms:=λ p hp=>(List.mem_filter.mp (pm.mem_iff.mp hp)).1;refine⟨_,rfl,p,_,(ms.filter λ p=>due ct t p.m).map λ p=>(p.m.d:Int),rfl,hp3,by rw[List.length_map];omega,x4 _ _ Cr hC,by simp,λ i w n hw hn=>?_,λ l hl'=>?_⟩
 ·obtain⟨m,h1,rfl⟩:=gM hw;obtain⟨m',h2,rfl⟩:=gM hn;rw[h1] at h2;cases h2;have hmm:=(List.mem_filter.mp (List.mem_of_getElem? h1)).1;exact⟨_,rfl,0,_,rfl,by simp only[ixW,x4 _ _ (inr m hmm) (hi m hmm)];rfl,rfl,rfl,rfl⟩
 rw[e2];refine⟨l,_,rfl,aa,?_⟩;rw[jK];have x5:Ext M3 (ax M3 l (.flst (D'.map λ p=>W.m p.t))):=Ext.new hl';generalize ax M3 l (.flst (D'.map λ p=>W.m p.t))=M4 at x5;refine⟨λ i acc τ M'=>∃ R:List (Addr×Pm),acc=R.map (λ e=>W.m e.1)/\R.map (·.2)=D'.take i/\(∀ e∈R,M e.1=none/\M' e.1=some (fdT e.2))/\Ext M4 M'/\∃ a b c,τ=[a,b,c],⟨[],rfl,rfl,λ e he=>(by cases he),Ext.refl _,_,_,_,rfl⟩,?_,?_⟩
 ·rintro i w acc τ M' hw ⟨R,rfl,hR,hE,xe,a,b,c,rfl⟩;obtain⟨m,h1,rfl⟩:=gM hw;have hmm:=mem m (List.mem_of_getElem? h1);have lR:=congrArg List.length hR;rw[List.length_map,List.length_take] at lR;refine⟨by rw[List.length_map];omega,m.t,_,rfl,xe _ _ (x5 _ _ (x4 _ _ (inr m hmm) (hi m hmm))),rfl,_,_,rfl,_,_,rfl,_,_,rfl,rfl,?_⟩;refine⟨_,rfl,_,rfl,(show 2<=sizeLine by omega),λ t' ht'=>?_⟩;refine⟨R++[(t',m)],by simp,by rw[List.map_append,hR,List.take_succ,h1];rfl,λ e he=>?_,xe.trans (Ext.new ht'),_,_,_,rfl⟩;rcases List.mem_append.mp he with he | he
  ·exact⟨(hE e he).1,br (hE e he).2 ht'⟩
  ·rw[List.mem_singleton.mp he];exact⟨nn3 _ (Ext.none x5 (Ext.none xe ht')),aa⟩
 ·rintro acc τ M' ⟨R,rfl,hR,hE,xe,a,b,c,rfl⟩ l' hl2;have e:D'.take (D'.map λ p=>W.m p.t).length=D':=List.take_of_length_le (by simp);rw[e] at hR;have q2:=xe _ _ (x5 _ _ hq3);have n1:=Ext.none x5 (Ext.none xe hl2);refine k R l' q _ (by rw[hR];exact pm) (by rw[hR];exact λ T hT=>(od T hT).imp λ {a b} h=>by rcases h with h | ⟨h1,h2⟩;exact .inl (by omega);exact .inr ⟨by omega,h2⟩) qM (nn3 _ n1) (λ e=>by rw[e,q2] at hl2;cases hl2) (λ e he=>⟨(hE e he).1,br (hE e he).2 hl2⟩) aa (br (xe _ _ (x5 _ _ hr3)) hl2) (br q2 hl2) λ b o n e=>br (xe _ _ (x5 _ _ (x4 _ _ n e))) hl2
def news(lt:Str->Nat)(db:Str->Bool)(a:Str)(k:PyData)(t n:Nat):List Msg:=if db a=true then [⟨t+1+lt a,a,k,n⟩,⟨t+1+lt a+1,a,k,n⟩] else [⟨t+1+lt a,a,k,n⟩]
def bY:SpD:=λ ws M Q=>∃ (r x y z g:Addr) (N:List Str) (lt:Str->Nat) (db:Str->Bool) (ps:List Pm) (a:Str) (w:W) (kd:PyData) (A:List Addr) (t n:Nat),ws=[.m r,.d (.str a),w,.d (.int (t:Nat))]/\Tg M w kd A/\okT 7 kd=true/\A.Nodup/\g ∉ A/\M r=some (.ins aq (FR x y z g))/\M x=some (.dic (kf N (nW lt)))/\M y=some (.dic (kf N (bW db)))/\M g=some (pmW ps)/\a∈N/\ps.length<=1000 /\
 ∀ (E:List Pm) (M':MH),E.map (·.m)=news lt db a kd t n->(∀ e∈E,IsP M' e/\∀ q∈own e,M q=none)->(E.flatMap own).Nodup->M' g=some (pmW (ps++E))->(∀ b o,b≠g->M b=some o->M' b=some o)->Q (.d .none) M'
theorem oX:∀ ws M Q,bY ws M Q->ws.length=4:=by rintro ws M Q ⟨r,x,y,z,g,N,lt,db,ms,a,w,kd,A,t,n,rfl,_⟩;rfl
theorem wC{M M1:MH}{g t1:Addr}{w1:W}{kd:PyData}{A1:List Addr}{ps:List Pm}{a:Str}{d n:Nat}(hg:M g=some (pmW ps))(T1:Tg M1 w1 kd A1)(n1:A1.Nodup)(f1:∀ q∈A1,M q=none)(x1:Ext M M1)(h1:M1 t1=none) :
  ax M1 t1 (.tup [.d (.int (d:Nat)),.d (.str a),w1]) g=some (pmW ps)/\IsP (ax (ax M1 t1 (.tup [.d (.int (d:Nat)),.d (.str a),w1])) g (pmW (ps++[⟨⟨d,a,kd,n⟩,w1,t1,A1⟩]))) ⟨⟨d,a,kd,n⟩,w1,t1,A1⟩/\(t1::A1).Nodup/\(∀ q∈t1::A1,M q=none) /\
  (∀ b o,b≠g->M b=some o->ax (ax M1 t1 (.tup [.d (.int (d:Nat)),.d (.str a),w1])) g (pmW (ps++[⟨⟨d,a,kd,n⟩,w1,t1,A1⟩])) b=some o):=by
 have t0:=Ext.none x1 h1;have gt:g≠t1:=λ e=>by rw[<- e,hg] at t0;cases t0
 have gA:∀ q∈A1,q≠g:=λ q hq e=>by have:=f1 q hq;rw[e,hg] at this;cases this
 have tA:∀ q∈A1,q≠t1:=λ q hq e=>T1.live q hq (by rw[e];exact h1);refine⟨by rw[ab gt];exact x1 _ _ hg,⟨by rw[ab gt.symm,aa],T1.frame λ q hq=>by rw[ab (gA q hq),ab (tA q hq)]⟩,List.nodup_cons.mpr ⟨λ z=>tA _ z rfl,n1⟩,λ q hq=>(List.mem_cons.mp hq).elim (λ e=>e ▸ t0) (f1 q),λ b o ne e=>?_⟩;rw[ab ne,ab (cI e t0)];exact x1 _ _ e
theorem lL:∀ ws M Q,bY ws M Q->lB bx {nx:=λ _ M'=>Q (.d .none) M',rt:=Q} (bO kP ws) M:=by
 rintro ws M Q ⟨r,x,y,z,g,N,lt,db,ms,a,w,kd,A,t,n,rfl,hT,ok,nd,gA,hr,hx,hy,hg,ha,hl,k⟩;have sl:=s16;have rg:r≠g:=xf hr hg (λ e=>nomatch e);have yg:y≠g:=xf hy hg (λ e=>nomatch e);refine⟨_,rfl,.inl ⟨_,_,rfl,rfl,_,rfl,r,_,_,rfl,hr,agG,_,rfl,x,_,.inr a,_,rfl,.inl hx,rfl,jP ha,.inl ⟨_,_,rfl,rfl,?_⟩⟩⟩;have e:((t:Int)+1+((lt a:Nat):Int))=((t+1+lt a:Nat):Int):=by omega
 dsimp only;rw[e];refine⟨_,rfl,r,_,_,rfl,hr,aeL,g,_,rfl,hg,_,rfl,_,rfl,_,rfl,w,kd,A,rfl,hT,ok,nd,λ w1 A1 M1 T1 n1 f1 x1=>⟨(show 3<=sizeLine by omega),λ t1 ht1=>?_⟩⟩;obtain⟨g1,p1,o1,q1,fr1⟩:=wC (a:=a) (d:=t+1+lt a) (n:=n) hg T1 n1 f1 x1 ht1;refine⟨_,g1,by rw[List.length_map];omega,?_⟩;have e1:(ms.map λ p:Pm=>W.m p.t)++[W.m t1]=(ms++[(⟨⟨t+1+lt a,a,kd,n⟩,w1,t1,A1⟩:Pm)]).map λ p=>W.m p.t:=by rw[List.map_append];rfl
 rw[e1];have hT2:=hT.frame (M':=ax (ax M1 t1 (.tup [.d (.int ((t+1+lt a:Nat):Int)),.d (.str a),w1])) g (pmW (ms++[⟨⟨t+1+lt a,a,kd,n⟩,w1,t1,A1⟩]))) λ q hq=>by
  have lv:=hT.live q hq;cases e:M q with
  | none=>exact absurd e lv
  | some o=>exact fr1 q o (λ z=>gA (z ▸ hq)) e
 have g2:=aa (M:=ax M1 t1 (.tup [.d (.int ((t+1+lt a:Nat):Int)),.d (.str a),w1])) (a:=g) (o:=pmW (ms++[⟨⟨t+1+lt a,a,kd,n⟩,w1,t1,A1⟩]));generalize ax (ax M1 t1 (.tup [.d (.int ((t+1+lt a:Nat):Int)),.d (.str a),w1])) g _=M2 at p1 fr1 hT2 g2;clear g1;refine⟨_,rfl,r,_,_,rfl,fr1 _ _ rg hr,agZ,_,rfl,y,_,.inr a,_,rfl,.inl (fr1 _ _ yg hy),rfl,jP ha,_,rfl,?_⟩;unfold news at k;refine fe (λ h=>?_) (λ h=>?_)
 ·rw[h,if_pos rfl] at k;refine⟨_,rfl,r,_,_,rfl,fr1 _ _ rg hr,aeL,g,_,rfl,g2,_,rfl,.inl ⟨_,_,rfl,rfl,_,rfl,_,rfl,w,kd,A,rfl,hT2,ok,nd,λ w3 A3 M3 T3 n3 f3 x3=>⟨(show 3<=sizeLine by omega),λ t3 ht3=>?_⟩⟩⟩;obtain⟨g3,p3,o3,q3,fr3⟩:=wC (a:=a) (d:=t+1+lt a+1) (n:=n) g2 T3 n3 f3 x3 ht3;refine⟨_,g3,by simp;omega,?_⟩;have e2:((ms++[(⟨⟨t+1+lt a,a,kd,n⟩,w1,t1,A1⟩:Pm)]).map λ p:Pm=>W.m p.t)++[W.m t3]=(ms++[(⟨⟨t+1+lt a,a,kd,n⟩,w1,t1,A1⟩:Pm)]++[(⟨⟨t+1+lt a+1,a,kd,n⟩,w3,t3,A3⟩:Pm)]).map λ p:Pm=>W.m p.t:=by simp only[List.map_append,List.map_cons,List.map_nil]
  rw[e2];have nn:∀ q,M2 q=none->M q=none:=λ q e=>by
   cases e4:M q with
   | none=>rfl
   | some o =>
    by_cases z:q=g
    ·rw[z,g2] at e;cases e
    ·rw[fr1 q o z e4] at e;cases e
  have live1:∀ q∈own (⟨⟨t+1+lt a,a,kd,n⟩,w1,t1,A1⟩:Pm),M2 q≠none/\q≠g:=λ q hq=>⟨p1.live q hq,λ z=>by have:=q1 q hq;rw[z,hg] at this;cases this⟩;refine k [⟨⟨t+1+lt a,a,kd,n⟩,w1,t1,A1⟩,⟨⟨t+1+lt a+1,a,kd,n⟩,w3,t3,A3⟩] _ rfl (λ e he=>?_) ?_ ?_ λ b o ne eb=>fr3 _ _ ne (fr1 _ _ ne eb)
  ·simp only[List.mem_cons,List.not_mem_nil,or_false] at he;rcases he with rfl | rfl
   ·refine⟨p1.frame λ q hq=>?_,q1⟩;cases e:M2 q with
    | none=>exact absurd e (live1 q hq).1
    | some o=>exact fr3 q o (live1 q hq).2 e
   ·exact⟨p3,λ q hq=>nn q (q3 q hq)⟩
  ·simp only[List.flatMap_cons,List.flatMap_nil,List.append_nil];exact List.nodup_append.mpr ⟨o1,o3,λ a ha b hb e=>(live1 a ha).1 (by rw[e];exact q3 b hb)⟩
  ·rw[aa,List.append_assoc];rfl
 ·rw[h,if_neg Bool.false_ne_true] at k;refine k [⟨⟨t+1+lt a,a,kd,n⟩,w1,t1,A1⟩] _ rfl (λ e he=>?_) ?_ g2 fr1
  ·rw[List.mem_singleton.mp he];exact⟨p1,q1⟩
  ·simp only[List.flatMap_cons,List.flatMap_nil,List.append_nil];exact o1
inductive Ro | t | r (k:Bool) | x (k:Bool) | y (k:Bool) | z (k:Bool) | g (k:Bool) | R | Y | U | B | T | A (k:Bool)
deriving DecidableEq
structure Rw where
 r:Addr
 t:Addr
 m:Msg
 u:Nat
structure Ad where
 r:Bool->Addr
 x:Bool->Addr
 y:Bool->Addr
 z:Bool->Addr
 R:Addr
 Y:Addr
 U:Addr
 B:Addr
 T:Addr
 A:Bool->Addr
 N:List Str
structure St where
 a:Bool->Str->Nat
 b:Bool->Str->Bool
 ct:Bool->Str->Bool
 g:Bool->Addr
 P:Bool->List Pm
 E:Bool->List Rw
 yk:List Str
 yb:Str->Bool
 cu:List (List Str)
 bl:List Msg
 fz:Bool
abbrev kyK(m:Msg):List Key:=[.inr m.z,.inr m.k.shown]
abbrev kyD(m:Msg):PyData:=.tuple [.str m.z,.str m.k.shown]
def cuF:Nat->List (List Str)->List (Key×W)
 | _,[]=>[]
 | i,c::cs=>(.inl (i:Int),.d (.list (c.map PyData.str)))::cuF (i+1) cs
abbrev rlW(A:Ad):List W:=[.m (A.r false),.m (A.r true)]
abbrev rwW(E:List Rw):MO:=.lst (E.map λ e=>.m e.r)
def cells(A:Ad)(S:St):Ro->Option (Addr×MO)
 | .t=>some (az,cdC)
 | .r k=>some (A.r k,.ins aq (FR (A.x k) (A.y k) (A.z k) (S.g k)))
 | .x k=>some (A.x k,.dic (kf A.N (nW (S.a k))))
 | .y k=>some (A.y k,.dic (kf A.N (bW (S.b k))))
 | .z k=>some (A.z k,.dic (kf A.N (bW (S.ct k))))
 | .g k=>some (S.g k,pmW (S.P k))
 | .R=>some (A.R,bif S.fz then .flst (rlW A) else .lst (rlW A))
 | .Y=>some (A.Y,.dic (kf S.yk (bW S.yb)))
 | .U=>some (A.U,.dic (cuF 1 S.cu))
 | .B=>some (A.B,.lst (S.bl.map λ m=>.d (kyD m)))
 | .T=>some (A.T,.lst [.m (A.A false),.m (A.A true)])
 | .A k=>some (A.A k,rwW (S.E k))
theorem jl{A:Ad}{S S':St}{c:Ro}{a:Addr}{o:MO}(h:cells A S c=some (a,o))(e:S'.g=S.g):∃ o',cells A S' c=some (a,o'):=by
 cases c with
 | g k =>
  cases h;exact⟨pmW (S'.P k),by show some (S'.g k,_)=some (S.g k,_);rw[e]⟩
 | _=>cases h;exact⟨_,rfl⟩
structure xq(M:MH)(e:Rw):Prop where
 t:M e.t=some (.tup ((kyK e.m).map kW))
 r:M e.r=some (.tup [.m e.t,.d (.int (e.u:Nat))])
theorem xq.tp{M M':MH}{e:Rw}(h:xq M e)(k:Tp M M'):xq M' e:=⟨k _ _ h.t,k _ _ h.r⟩
abbrev Dj(a b:Pm):Prop:=∀ x∈own a,∀ y∈own b,x≠y
theorem Dj.symm{a b:Pm}(h:Dj a b):Dj b a:=λ x hx y hy e=>h y hy x hx e.symm
theorem rK{ps:List Pm}(h:(ps.flatMap own).Nodup):(∀ p∈ps,(own p).Nodup)/\ps.Pairwise Dj:=List.pairwise_flatMap.mp h
theorem aeW{ps:List Pm}(h:(∀ p∈ps,(own p).Nodup)/\ps.Pairwise Dj):(ps.flatMap own).Nodup:=List.pairwise_flatMap.mpr h
theorem aaj{ps:List Pm}(h:ps.Pairwise Dj){p q:Pm}(hp:p∈ps)(hq:q∈ps)(n:p≠q):Dj p q:=by
 induction h with
 | nil=>cases hp
 | cons h1 _ ih =>
  rcases List.mem_cons.mp hp with e | hp<;>rcases List.mem_cons.mp hq with e' | hq
  ·exact absurd (e.trans e'.symm) n
  ·rw[e];exact h1 q hq
  ·rw[e'];exact(h1 p hp).symm
  ·exact ih hp hq
theorem pw_at{α:Type}{R:α->α->Prop}{l:List α}(h:l.Pairwise R){i:Nat}{a:α}(hi:l[i]? =some a):∀ b∈l.take i,R b a:=by rw[<- List.take_append_drop i l] at h;have hm:a∈l.drop i:=List.mem_of_getElem? (i:=0) (by rw[List.getElem?_drop];exact hi);exact λ b hb=>(List.pairwise_append.mp h).2.2 b hb a hm
structure Wo(M:MH)(b:Addr)(A:Ad)(S:St):Prop where
 wd:Wd M b (cells A S)
 is:∀ k,∀ p∈S.P k,IsP M p
 nd:∀ k,((S.P k).flatMap own).Nodup
 xd:∀ p∈S.P false,∀ q∈S.P true,Dj p q
 fr:∀ k,∀ p∈S.P k,∀ q∈own p,q≠b/\∀ c a o,cells A S c=some (a,o)->a≠q
 rw':∀ k,∀ e∈S.E k,xq M e
theorem Wo.dj{M:MH}{b:Addr}{A:Ad}{S:St}(h:Wo M b A S){j k:Bool}{p q:Pm}(hp:p∈S.P j)(hq:q∈S.P k)(n:j=k->p≠q):Dj p q:=by
 by_cases e:j=k
 ·subst e;exact aaj (rK (h.nd j)).2 hp hq (n rfl)
 ·cases j<;>cases k
  ·exact absurd rfl e
  ·exact h.xd p hp q hq
  ·exact(h.xd q hq p hp).symm
  ·exact absurd rfl e
def cA{α:Type}(f:Bool->α)(k:Bool)(v:α):Bool->α:=λ j=>if j=k then v else f j
theorem gg{α:Type}{f:Bool->α}{k:Bool}{v:α}:cA f k v k=v:=if_pos rfl
theorem gp{α:Type}{f:Bool->α}{k j:Bool}{v:α}(h:j≠k):cA f k v j=f j:=if_neg h
section
variable {A:Ad}{S:St}{k:Bool}
theorem aaw(g':Addr)(L:List Pm):cy (cy (cells A S) (.r k) (A.r k,.ins aq (FR (A.x k) (A.y k) (A.z k) g'))) (.g k) (g',pmW L)=cells A {S with g:=cA S.g k g',P:=cA S.P k L}:=by
 funext d;cases d with
 | r j=>by_cases e:j=k<;>simp[cy,cells,cA,e]
 | g j=>by_cases e:j=k<;>simp[cy,cells,cA,e]
 | _=>simp[cy,cells]
theorem zW(E:List Rw):cy (cells A S) (.A k) (A.A k,rwW E)=cells A {S with E:=cA S.E k E}:=by
 funext d;cases d with
 | A j=>by_cases e:j=k<;>simp[cy,cells,cA,e]
 | _=>simp[cy,cells]
end
abbrev eh(S:St)(k:Bool)(t:Nat)(g':Addr)(rows:List Rw):St:={S with g:=cA S.g k g',P:=cA S.P k ((S.P k).filter λ p=>!due (S.ct k) t p.m),E:=cA S.E k (S.E k++rows)}
theorem ad7{R:Type}[DecidableEq R]{M:MH}{b l:Addr}{C:R->Option (Addr×MO)}{o:MO}(h:Wd M b C)(n:∀ {c a x},C c=some (a,x)->a≠l)(nb:b≠l):Wd (ax M l o) b C:=h.same (λ c a x e=>ab (n e)) (ab nb)
def b9:SpD:=λ ws M Q=>∃ (b:Addr) (A:Ad) (S:St) (k:Bool) (t:Nat),ws=[.m (A.A k),.m (A.r k),.d (.int (t:Nat))]/\Wo M b A S/\(∀ p∈S.P k,p.m.z∈A.N/\wV p.m.n p.m.k=true)/\(S.P k).length<=900/\(S.E k).length<=900 /\
 ∀ g' (rows:List Rw) M',(rows.map (·.m)).Perm (((S.P k).filter λ p=>due (S.ct k) t p.m).map (·.m))->(∀ T:Msg->Msg->Prop,(((S.P k).filter λ p=>due (S.ct k) t p.m).map (·.m)).Pairwise T->(rows.map (·.m)).Pairwise λ a b=>a.d<b.d\/(a.d=b.d/\T a b))->(∀ e∈rows,e.u=t)->Wo M' b A (eh S k t g' rows)->Q (.d .none) M'
theorem pL:∀ ws M Q,b9 ws M Q->ws.length=3:=by rintro ws M Q ⟨b,A,S,k,t,rfl,_⟩;rfl
theorem nG:∀ ws M Q,b9 ws M Q->nu bU aH {nx:=λ _ M'=>Q (.d .none) M',rt:=Q} (bO nU ws) M:=by
 rintro ws M Q ⟨b,A,S,k,t,rfl,wo,hz,hP,hE0,K⟩;have sl:=s16;have wh:=wo.wd;refine⟨_,rfl,A.r k,_,rfl,wh.at' (c:=.r k) rfl,afF (x:=A.x k) (y:=A.y k) (z:=A.z k) (g:=S.g k),_,rfl,A.r k,A.x k,A.y k,A.z k,S.g k,A.N,S.ct k,S.P k,t,rfl,wh.at' (c:=.t) rfl,wh.at' (c:=.r k) rfl,wh.at' (c:=.z k) rfl,wh.at' (c:=.g k) rfl,λ p hp=>(hz p hp).1,λ p hp=>(wo.is k p hp).tp,by omega,λ R l g' M2 pm od hg' hl' lg hE hl hr2 hg2 f2=>?_⟩;have W2:=wh.move (c:=.r k) (d:=.g k) (λ e=>nomatch e) rfl rfl hg' hr2 hg2 f2;rw[aaw] at W2;have lvA:∀ {c a o},cells A S c=some (a,o)->a≠l/\a≠g':=λ {c a o} e=>by have:=wh.at' e;exact⟨λ z=>(by rw[z,hl'] at this;cases this),λ z=>(by rw[z,hg'] at this;cases this)⟩
 have c2:∀ {c a o},cells A {S with g:=cA S.g k g',P:=cA S.P k ((S.P k).filter λ p=>!due (S.ct k) t p.m)} c=some (a,o)->a=g'\/∃ o',cells A S c=some (a,o'):=λ {c a o} e=>by
  cases c with
  | r j=>cases e;exact .inr ⟨_,rfl⟩
  | g j =>
   cases e
   by_cases q:j=k
   ·subst q;exact .inl (gg)
   ·refine .inr ⟨pmW (S.P j),?_⟩;show some (S.g j,_)=some (cA S.g k g' j,_);rw[gp q]
  | _=>cases e;exact .inr ⟨_,rfl⟩
 have bl:b≠l:=λ z=>fJ wh.bg (by rw[z];exact hl');have W3:Wd (ax M2 l (.flst (R.map λ e=>W.m e.1))) b _:=ad7 W2 (l:=l) (λ {c a o} e=>by
  rcases c2 e with z | ⟨o',e'⟩
  ·rw[z];exact λ z=>lg z.symm
  ·exact(lvA e').1) bl
 have lv0:∀ j,∀ p∈S.P j,∀ q∈own p,M q≠none:=λ j p hp=>(wo.is j p hp).live;have keep2:∀ j,∀ p∈S.P j,∀ q∈own p,ax M2 l (.flst (R.map λ e=>W.m e.1)) q=M q:=λ j p hp q hq=>by
  have lv:=lv0 j p hp q hq;rw[ab λ z:q=l=>lv (by rw[z];exact hl')];cases e:M q with
  | none=>exact absurd e lv
  | some x=>exact f2 q x ((wo.fr j p hp q hq).2 (.r k) _ _ rfl).symm e
 have tp3:Tp M (ax M2 l (.flst (R.map λ e=>W.m e.1))):=(Tp.of (wh.at' (c:=.r k) rfl) (λ ws e=>nomatch e) f2).upd λ ws e=>by rw[hl'] at e;cases e
 have e3:∀ e∈R,M e.1=none/\ax M2 l (.flst (R.map λ e=>W.m e.1)) e.1=some (fdT e.2):=λ e he=>⟨(hE e he).1,by rw[ab (xf (hE e he).2 hl (λ z=>nomatch z))];exact(hE e he).2⟩;have hA3:ax M2 l (.flst (R.map λ e=>W.m e.1)) (A.A k)=some (rwW (S.E k)):=W3.at' (c:=.A k) rfl;refine⟨l,_,rfl,hl,?_⟩;generalize ax M2 l (.flst (R.map λ e=>W.m e.1))=M3 at W3 keep2 tp3 e3 hA3;clear W2 hr2 hg2 f2 hl;have hRm:∀ e∈R,e.2∈S.P k/\due (S.ct k) t e.2.m=true:=λ e he=>List.mem_filter.mp (pm.mem_iff.mp (List.mem_map.mpr ⟨e,he,rfl⟩));have lRR:R.length<=900:=by have:=pm.length_eq;rw[List.length_map] at this;rw[this];exact Nat.le_trans (List.length_filter_le _ _) hP
 have pd:R.Pairwise λ a b=>Dj a.2 b.2:=by have h1:=(rK (wo.nd k)).2.filter (λ p=>due (S.ct k) t p.m);exact List.pairwise_map.mp ((pm.pairwise_iff λ {a b} h=>Dj.symm h).mpr h1)
 have is3:∀ j,∀ p∈S.P j,IsP M3 p:=λ j p hp=>(wo.is j p hp).frame (keep2 j p hp);have aO:∀ e∈R,A.A k ∉ e.2.A:=λ e he z=>(wo.fr k e.2 (hRm e he).1 _ (List.mem_cons_of_mem _ z)).2 (.A k) _ _ rfl rfl;refine⟨λ i τ M'=>∃ rows:List Rw,rows.map (·.m)=(R.take i).map (·.2.m)/\(∀ e∈rows,e.u=t/\xq M' e)/\(∀ q,M3 q≠none->q≠A.A k->(∀ e∈R.take i,q ∉ e.2.A)->M' q=M3 q)/\(∀ q,M3 q≠none->M' q≠none)/\M' (A.A k)=some (rwW (S.E k++rows))/\Tp M3 M'/\∃ x3 x4 x5,τ=[some (.m (A.A k)),some (.m (A.r k)),some (.d (.int (t:Nat))),x3,x4,x5],⟨[],rfl,λ e he=>(by cases he),λ q _ _ _=>rfl,λ q h=>h,by rw[List.append_nil];exact hA3,Tp.refl _,_,_,_,rfl⟩,?_,?_⟩
 ·rintro i w τ M' hw ⟨rows,eR,ro,f,lv,hA,tp,x3,x4,x5,rfl⟩;obtain⟨e,he,rfl⟩:=gM hw;have hm:=List.mem_of_getElem? he;obtain⟨hp,_⟩:=hRm e hm;have dj:=pw_at pd he;have h3:=(yC (hz _ hp).2);have eth:∀ q∈e.2.A,M' q=M3 q:=λ q hq=>f q ((is3 k _ hp).th.live q hq) (λ z=>aO e hm (z ▸ hq)) λ e' he' z=>dj e' he' q (List.mem_cons_of_mem _ z) q (List.mem_cons_of_mem _ hq) rfl;have T1:Tg M' e.2.w e.2.m.k e.2.A:=(is3 k _ hp).th.frame eth;have lr:rows.length<=900:=by have:=congrArg List.length eR;rw[List.length_map,List.length_map,List.length_take] at this;omega
  refine⟨e.1,_,rfl,tp _ _ (e3 e hm).2,rfl,_,_,rfl,_,_,rfl,rfl,?_⟩;refine⟨_,rfl,_,rfl,e.2.w,e.2.m.k,_,rfl,T1.th,h3.2.1,(show 2<=sizeLine by omega),λ t1 ht1=>?_⟩;refine⟨_,rfl,A.A k,_,rfl,br hA ht1,_,rfl,_,rfl,(show 2<=sizeLine by omega),λ r1 hr1=>?_⟩;have hr0:=av hr1;have rt:=aM hr1;have hA':ax (ax M' t1 (.tup [.d (.str e.2.m.z),.d (.str e.2.m.k.shown)])) r1 (.tup [.m t1,.d (.int (t:Nat))]) (A.A k)=some (rwW (S.E k++rows)):=br (br hA ht1) hr1;refine⟨_,hA',by rw[List.length_map,List.length_append];omega,?_⟩;have e5:((S.E k++rows).map λ e:Rw=>W.m e.r)++[W.m r1]=(S.E k++(rows++[(⟨r1,t1,e.2.m,t⟩:Rw)])).map λ e=>W.m e.r:=by simp
  rw[e5];have tA:t1≠A.A k:=λ z=>by rw[z,hA] at ht1;cases ht1
  have rA:r1≠A.A k:=λ z=>by rw[z,hA] at hr0;cases hr0
  have tp4:Tp M' (ax (ax (ax M' t1 (.tup [.d (.str e.2.m.z),.d (.str e.2.m.k.shown)])) r1 (.tup [.m t1,.d (.int (t:Nat))])) (A.A k) (rwW (S.E k++(rows++[⟨r1,t1,e.2.m,t⟩])))):=((Tp.refl M').upd λ ws e=>by rw[ht1] at e;cases e).upd (λ ws e=>by rw[hr0] at e;cases e) |>.upd λ ws e=>by rw[hA] at e;cases e
  have g1:∀ q,M' q≠none->q≠A.A k->ax (ax (ax M' t1 (.tup [.d (.str e.2.m.z),.d (.str e.2.m.k.shown)])) r1 (.tup [.m t1,.d (.int (t:Nat))])) (A.A k) (rwW (S.E k++(rows++[⟨r1,t1,e.2.m,t⟩]))) q=M' q:=λ q h1 h2=>by rw[ab h2,ab λ z:q=r1=>h1 (by rw[z];exact hr0),ab λ z:q=t1=>h1 (by rw[z];exact ht1)]
  have ht4:ax (ax (ax M' t1 (.tup [.d (.str e.2.m.z),.d (.str e.2.m.k.shown)])) r1 (.tup [.m t1,.d (.int (t:Nat))])) (A.A k) (rwW (S.E k++(rows++[⟨r1,t1,e.2.m,t⟩]))) t1=some (.tup [.d (.str e.2.m.z),.d (.str e.2.m.k.shown)]):=by rw[ab tA,ab rt.symm,aa]
  have hr4:ax (ax (ax M' t1 (.tup [.d (.str e.2.m.z),.d (.str e.2.m.k.shown)])) r1 (.tup [.m t1,.d (.int (t:Nat))])) (A.A k) (rwW (S.E k++(rows++[⟨r1,t1,e.2.m,t⟩]))) r1=some (.tup [.m t1,.d (.int (t:Nat))]):=by rw[ab rA,aa]
  have hA4:ax (ax (ax M' t1 (.tup [.d (.str e.2.m.z),.d (.str e.2.m.k.shown)])) r1 (.tup [.m t1,.d (.int (t:Nat))])) (A.A k) (rwW (S.E k++(rows++[⟨r1,t1,e.2.m,t⟩]))) (A.A k)=some (rwW (S.E k++(rows++[⟨r1,t1,e.2.m,t⟩]))):=aa;have lv4:∀ q,M' q≠none->ax (ax (ax M' t1 (.tup [.d (.str e.2.m.z),.d (.str e.2.m.k.shown)])) r1 (.tup [.m t1,.d (.int (t:Nat))])) (A.A k) (rwW (S.E k++(rows++[⟨r1,t1,e.2.m,t⟩]))) q≠none:=λ q h1=>by
   by_cases z:q=A.A k
   ·rw[z,aa];exact nofun
   ·rw[g1 q h1 z];exact h1
  generalize ax (ax (ax M' t1 _) r1 _) (A.A k) _=M4 at tp4 g1 ht4 hr4 hA4 lv4;have T4:Tg M4 e.2.w e.2.m.k e.2.A:=T1.frame λ q hq=>g1 q (T1.live q hq) λ z=>aO e hm (z ▸ hq);refine⟨_,rfl,e.2.w,e.2.m.k,e.2.A,rfl,T4,h3.1,(List.nodup_cons.mp ((rK (wo.nd k)).1 _ hp)).2,λ M5 f5 l5 tp5=>?_⟩;refine⟨rows++[⟨r1,t1,e.2.m,t⟩],by rw[List.map_append,eR,List.take_succ,he];simp,λ e' he'=>?_,λ q h1 h2 h3=>?_,λ q h1=>?_,by rw[f5 _ (aO e hm)];exact hA4,(tp.trans tp4).trans tp5,_,_,_,rfl⟩
  ·rcases List.mem_append.mp he' with h | h
   ·exact⟨(ro e' h).1,(ro e' h).2.tp (tp4.trans tp5)⟩
   ·rw[List.mem_singleton.mp h];exact⟨rfl,⟨tp5 _ _ ht4,tp5 _ _ hr4⟩⟩
  ·rw[List.take_succ,he] at h3;have n1:=h3 e (List.mem_append_right _ (by simp));have n2:=f q h1 h2 λ e' he'=>h3 e' (List.mem_append_left _ he');rw[f5 q n1,g1 q (by rw[n2];exact h1) h2,n2]
  ·by_cases z:q∈e.2.A
   ·exact l5 q z
   ·rw[f5 q z];exact lv4 q (lv q h1)
 rintro τ M' ⟨rows,eR,ro,f,lv,hA,tp,x3,x4,x5,rfl⟩;rw[List.length_map,List.take_length] at f eR;have W4:Wd M' b (cells A (eh S k t g' rows)):=by
  have:=(W3.set (c:=.A k) (rwW (S.E k++rows)) rfl);rw[zW] at this;have na:∀ {c a o},cells A (eh S k t g' rows) c=some (a,o)->M3 a≠none/\∀ e∈R,a ∉ e.2.A:=λ {c a o} e=>by
   obtain⟨o',e'⟩:=jl (S':={S with g:=cA S.g k g',P:=cA S.P k ((S.P k).filter λ p=>!due (S.ct k) t p.m)}) e rfl;refine⟨by rw[W3.at' e'];exact nofun,λ e he z=>?_⟩;rcases c2 e' with z1 | ⟨o2,z1⟩
   ·exact lv0 k _ (hRm e he).1 a (List.mem_cons_of_mem _ z) (by rw[z1];exact hg')
   ·exact(wo.fr k _ (hRm e he).1 a (List.mem_cons_of_mem _ z)).2 _ _ _ z1 rfl
  refine this.same (λ c a o e=>?_) ?_
  ·by_cases z:a=A.A k
   ·rw[z,aa];exact hA
   ·rw[ab z];exact f a (na e).1 z (na e).2
  ·have b3:=fJ W3.bg;have bA:b≠A.A k:=(W3.nb (c:=.A k) rfl).symm;rw[ab bA];exact f b b3 bA λ e he z=>(wo.fr k _ (hRm e he).1 b (List.mem_cons_of_mem _ z)).1 rfl
 have eP:∀ j,∀ p∈(eh S k t g' rows).P j,p∈S.P j/\(j=k->due (S.ct k) t p.m=false):=λ j p hp=>by
  by_cases q:j=k
  ·subst q;have h:=(show p∈cA S.P j _ j from hp);rw[gg] at h;have:=List.mem_filter.mp h;exact⟨this.1,λ _=>by simpa using this.2⟩
  ·have h:=(show p∈cA S.P k _ j from hp);rw[gp q] at h;exact⟨h,λ z=>absurd z q⟩
 refine K g' rows M' ?_ (λ T hT=>?_) (λ e he=>(ro e he).1) ⟨W4,λ j p hp=>?_,λ j=>?_,λ p hp q hq=>wo.xd p (eP false p hp).1 q (eP true q hq).1,λ j p hp q hq=>?_,λ j e he=>?_⟩
 ·rw[eR];have e6:R.map (·.2.m)=(R.map (·.2)).map (·.m):=by rw[List.map_map];rfl
  rw[e6];exact pm.map _
 ·rw[eR];have e6:R.map (·.2.m)=(R.map (·.2)).map (·.m):=by rw[List.map_map];rfl
  rw[e6];exact List.pairwise_map.mpr (od (λ a b=>T a.m b.m) (List.pairwise_map.mp hT))
 ·obtain⟨hp0,hd⟩:=eP j p hp;refine(is3 j p hp0).frame λ q hq=>f q ((is3 j p hp0).live q hq) ((wo.fr j p hp0 q hq).2 (.A k) _ _ rfl).symm λ e he z=>?_;refine wo.dj (hRm e he).1 hp0 (λ ek z2=>?_) q (List.mem_cons_of_mem _ z) q hq rfl;have h1:=(hRm e he).2;rw[z2,hd ek.symm] at h1;cases h1
 ·by_cases q:j=k
  ·subst q;show((cA S.P j _ j).flatMap own).Nodup;rw[gg];have:=rK (wo.nd j);exact aeW ⟨λ p hp=>this.1 p (List.mem_filter.mp hp).1,this.2.filter _⟩
  ·show((cA S.P k _ j).flatMap own).Nodup;rw[gp q];exact wo.nd j
 ·obtain⟨hp0,_⟩:=eP j p hp;refine⟨(wo.fr j p hp0 q hq).1,λ c a o e z=>?_⟩;obtain⟨o',e'⟩:=jl (S':={S with g:=cA S.g k g',P:=cA S.P k ((S.P k).filter λ p=>!due (S.ct k) t p.m)}) e rfl;rcases c2 e' with z1 | ⟨o2,z1⟩
  ·exact lv0 j p hp0 q hq (by rw[<- z,z1];exact hg')
  ·exact(wo.fr j p hp0 q hq).2 _ _ _ z1 z
 ·by_cases q:j=k
  ·subst q;have h:=(show e∈cA S.E j _ j from he);rw[gg] at h;rcases List.mem_append.mp h with h | h
   ·exact(wo.rw' j e h).tp (tp3.trans tp)
   ·exact(ro e h).2
  ·have h:=(show e∈cA S.E k _ j from he);rw[gp q] at h;exact(wo.rw' j e h).tp (tp3.trans tp)
section
variable {A:Ad}{S:St}{k:Bool}
theorem abd(f:Str->Nat):cy (cells A S) (.x k) (A.x k,.dic (kf A.N (nW f)))=cells A {S with a:=cA S.a k f}:=by
 funext d;cases d with
 | x j=>by_cases e:j=k<;>simp[cy,cells,cA,e]
 | _=>simp[cy,cells]
theorem z6(f:Str->Bool):cy (cells A S) (.y k) (A.y k,.dic (kf A.N (bW f)))=cells A {S with b:=cA S.b k f}:=by
 funext d;cases d with
 | y j=>by_cases e:j=k<;>simp[cy,cells,cA,e]
 | _=>simp[cy,cells]
theorem pW(f:Str->Bool):cy (cells A S) (.z k) (A.z k,.dic (kf A.N (bW f)))=cells A {S with ct:=cA S.ct k f}:=by
 funext d;cases d with
 | z j=>by_cases e:j=k<;>simp[cy,cells,cA,e]
 | _=>simp[cy,cells]
theorem hZ(f:Bool):cy (cells A S) .R (A.R,bif f then .flst (rlW A) else .lst (rlW A))=cells A {S with fz:=f}:=by
 funext d;cases d<;>simp[cy,cells]
end
theorem eQ{α:Type}{f:Bool->α}{k:Bool}:cA f k (f k)=f:=by
 funext j
 by_cases e:j=k
 ·rw[e,gg]
 ·rw[gp e]
section
variable {A:Ad}{S S':St}{M M':MH}{b:Addr}
theorem Wo.put(wo:Wo M b A S)(w':Wd M' b (cells A S'))(eP:S'.P=S.P)(eE:S'.E=S.E)(eg:S'.g=S.g)(f:∀ q,(∀ c a o,cells A S c=some (a,o)->a≠q)->q≠b->M' q=M q)(tp:Tp M M'):Wo M' b A S':=by
 refine⟨w',?_,?_,?_,?_,?_⟩
 ·rw[eP];exact λ k p hp=>(wo.is k p hp).frame λ q hq=>f q (wo.fr k p hp q hq).2 (wo.fr k p hp q hq).1
 ·rw[eP];exact wo.nd
 ·rw[eP];exact wo.xd
 ·rw[eP];exact λ k p hp q hq=>⟨(wo.fr k p hp q hq).1,λ c a o h=>by obtain⟨o',h'⟩:=jl (S':=S) h eg.symm;exact(wo.fr k p hp q hq).2 c a o' h'⟩
 ·rw[eE];exact λ k e he=>(wo.rw' k e he).tp tp
theorem Wo.take(wo:Wo M b A S)(bg:Bag M' b)(f:∀ q,q≠b->M' q=M q):Wo M' b A S:=wo.put (wo.wd.take bg f) rfl rfl rfl (λ q _ n=>f q n) λ q ws e=>by
 rw[f q λ z=>by
  cases wo.wd.bg with
  | mk _ _ _ _ h _=>rw[z,h] at e;cases e]
 exact e
theorem Wo.one(wo:Wo M b A S){c:Ro}{a:Addr}{o o':MO}(h:cells A S c=some (a,o))(no:∀ ws,o ≠ .tup ws)(eC:cy (cells A S) c (a,o')=cells A S')(eP:S'.P=S.P)(eE:S'.E=S.E)(eg:S'.g=S.g):Wo (ax M a o') b A S':=
 wo.put (by rw[<- eC];exact wo.wd.set o' h) eP eE eg (λ q n _=>ab λ z=>n _ _ _ h z.symm) ((Tp.refl M).upd λ ws e=>by rw[wo.wd.at' h] at e;exact no ws (Option.some.inj e))
end
def stp{α:Type}(f g:Bool->α):Nat->Bool->α
 | 0=>f
 | 1=>cA f false (g false)
 | _=>cA (cA f false (g false)) true (g true)
theorem qc{α:Type}(f g:Bool->α)(j:Nat):stp f g (j+2)=g:=by
 funext k;cases k<;>simp[stp,cA]
theorem uL{α:Type}(f g:Bool->α){j:Nat}{k:Bool}(h:j<=(bif k then 1 else 0)):stp f g j k=f k:=by
 cases k
 ·have:j=0:=by simpa using h
  subst this;rfl
 ·have:j=0\/j=1:=by simp at h;omega
  rcases this with rfl | rfl
  ·rfl
  ·simp[stp,cA]
theorem lY{α:Type}(f g:Bool->α){j:Nat}{k:Bool}(h:j=(bif k then 1 else 0)):cA (stp f g j) k (g k)=stp f g (j+1):=by subst h;cases k<;>rfl
theorem aaI{A:Ad}{j:Nat}{w:W}(h:(rlW A)[j]? =some w):∃ k,j=(bif k then 1 else 0)/\w=.m (A.r k):=by
 match j,h with
 | 0,h=>cases h;exact⟨false,rfl,rfl⟩
 | 1,h=>cases h;exact⟨true,rfl,rfl⟩
 | j+2,h=>simp[rlW] at h
def bq:SpD:=λ ws M Q=>∃ (b:Addr) (A:Ad) (S:St) (z:Str) (y:Bool),ws=[.m b,.m A.R,.d (.str z),.d (.bool y)]/\Wo M b A S/\S.fz=false/\z∈A.N/\A.N.length<=60/\S.a true=S.a false/\S.ct true=S.ct false/\(∀ z,S.a false z<=2)/\y=S.b false z /\
 ∀ a' ct' y' M',a' true=a' false->ct' true=ct' false->(∀ z,a' false z<=2)->Wo M' b A {S with a:=a',ct:=ct',b:=cA S.b false (cY (S.b false) z y')}->Q (.d (.bool y')) M'
theorem kI:∀ ws M Q,bq ws M Q->ws.length=4:=by rintro ws M Q ⟨b,A,S,z,y,rfl,_⟩;rfl
theorem u4{α:Type}(f:Str->α)(z:Str):cY f z (f z)=f:=by
 funext y
 by_cases e:y=z
 ·rw[e];exact qj
 ·exact mV e
theorem aaR{f:Str->Nat}{z:Str}{n k:Nat}(h:∀ y,f y<=k)(hn:n<=k):∀ y,cY f z n y<=k:=λ y=>by unfold cY;split;exact hn;exact h y
theorem jO:∀ ws M Q,bq ws M Q->iB aC bV ck aL bL {nx:=λ _ M'=>Q (.d .none) M',rt:=Q} (bO iC ws) M:=by
 rintro ws M Q ⟨b,A,S,z,y,rfl,wo,hf,hz,hl,ea,ec,ha,ey,K⟩;have sl:=s16;refine⟨_,rfl,b,8,rfl,wo.wd.bg,by decide,by decide,λ r8 M1 _ _ bg1 f1=>?_⟩;have wo1:=wo.take bg1 f1;refine⟨_,rfl,b,3,rfl,bg1,by decide,by decide,λ v M2 v0 v1 bg2 f2=>?_⟩;have wo2:=wo1.take bg2 f2;clear wo wo1 bg1 f1 bg2 f2;obtain⟨n,rfl⟩:∃ n:Nat,v=(n:Int):=⟨v.toNat,by omega⟩;have hR:cells A S .R=some (A.R,.lst (rlW A)):=by simp[cells,hf]
 have wF:Wo (ax M2 A.R (.flst (rlW A))) b A {S with fz:=true}:=wo2.one hR (λ ws e=>nomatch e) (hZ true) rfl rfl rfl
 let a1:Bool->Str->Nat:=λ k=>bif decide (r8<2) then cY (S.a k) z n else S.a k
 let c1:Bool->Str->Bool:=λ k=>bif decide (r8<2) then S.ct k else bif PyData.eqv (.int r8) (.int 2) then cY (S.ct k) z true else bif decide (r8<5) then cY (S.ct k) z false else S.ct k
 refine⟨A.R,_,wo2.wd.at' hR,_,rfl,A.R,_,rfl,aa,λ j τ M'=>∃ x6,Wo M' b A {S with a:=stp S.a a1 j,ct:=stp S.ct c1 j,fz:=true}/\τ=[some (.m b),some (.m A.R),some (.d (.str z)),some (.d (.bool y)),some (.d (.int r8)),some (.d (.int (n:Nat))),x6],⟨_,wF,rfl⟩,?_,?_⟩
 ·rintro j w τ M' hw ⟨x6,w1,rfl⟩;obtain⟨k,hj,rfl⟩:=aaI hw;have ej:∀ {M'},Wo M' b A {S with a:=cA (stp S.a a1 j) k (a1 k),ct:=cA (stp S.ct c1 j) k (c1 k),fz:=true}->Wo M' b A {S with a:=stp S.a a1 (j+1),ct:=stp S.ct c1 (j+1),fz:=true}:=λ h=>by rw[lY _ _ hj,lY _ _ hj] at h;exact h
  have na:stp S.a a1 j k=S.a k:=uL _ _ (Nat.le_of_eq hj);have nc:stp S.ct c1 j k=S.ct k:=uL _ _ (Nat.le_of_eq hj);have W:=w1.wd;have hx:=W.at' (c:=.x k) rfl;have hzz:=W.at' (c:=.z k) rfl;dsimp only at hx hzz;rw[na] at hx;rw[nc] at hzz;have cx:cells A {S with a:=stp S.a a1 j,ct:=stp S.ct c1 j,fz:=true} (.x k)=some (A.x k,.dic (kf A.N (nW (stp S.a a1 j k)))):=rfl;have cz:cells A {S with a:=stp S.a a1 j,ct:=stp S.ct c1 j,fz:=true} (.z k)=some (A.z k,.dic (kf A.N (bW (stp S.ct c1 j k)))):=rfl;refine⟨_,rfl,_,_,rfl,rfl,_,rfl,fe (λ b1=>?_) (λ b1=>⟨_,rfl,_,_,.d,.d,rfl,_,rfl,fe (λ b2=>?_) (λ b2=>⟨_,rfl,_,_,rfl,rfl,_,rfl,fe (λ b3=>?_) (λ b3=>?_)⟩)⟩)⟩
  ·have q1:a1 k=cY (S.a k) z n:=by simp only[a1,b1,cond_true]
   have q2:c1 k=stp S.ct c1 j k:=by rw[nc];simp only[c1,b1,cond_true]
   refine⟨_,rfl,A.r k,_,rfl,W.at' (c:=.r k) rfl,afn (x:=A.x k) (y:=A.y k) (z:=A.z k) (g:=S.g k),_,rfl,_,rfl,A.r k,A.x k,A.y k,A.z k,S.g k,A.N,S.a k,z,n,rfl,W.at' (c:=.r k) rfl,hx,hz,hl,?_⟩;have h:=w1.one cx (o':=.dic (kf A.N (nW (cY (S.a k) z n)))) (λ ws e=>nomatch e) (abd _) rfl rfl rfl;refine⟨_,ej ?_,rfl⟩;rw[q1,q2,eQ];exact h
  ·have q1:a1 k=stp S.a a1 j k:=by rw[na];simp only[a1,b1,cond_false]
   have q2:c1 k=cY (S.ct k) z true:=by simp only[c1,b1,b2,cond_true,cond_false]
   refine⟨_,rfl,A.r k,_,rfl,W.at' (c:=.r k) rfl,agk (x:=A.x k) (y:=A.y k) (z:=A.z k) (g:=S.g k),_,rfl,A.r k,A.x k,A.y k,A.z k,S.g k,A.N,S.ct k,z,rfl,W.at' (c:=.r k) rfl,hzz,hz,hl,?_⟩;have h:=w1.one cz (o':=.dic (kf A.N (bW (cY (S.ct k) z true)))) (λ ws e=>nomatch e) (pW _) rfl rfl rfl;refine⟨_,ej ?_,rfl⟩;rw[q1,q2,eQ];exact h
  ·have q1:a1 k=stp S.a a1 j k:=by rw[na];simp only[a1,b1,cond_false]
   have q2:c1 k=cY (S.ct k) z false:=by simp only[c1,b1,b2,b3,cond_true,cond_false]
   refine⟨_,rfl,A.r k,_,rfl,W.at' (c:=.r k) rfl,aer (x:=A.x k) (y:=A.y k) (z:=A.z k) (g:=S.g k),_,rfl,A.r k,A.x k,A.y k,A.z k,S.g k,A.N,S.ct k,z,rfl,W.at' (c:=.r k) rfl,hzz,hz,hl,?_⟩;have h:=w1.one cz (o':=.dic (kf A.N (bW (cY (S.ct k) z false)))) (λ ws e=>nomatch e) (pW _) rfl rfl rfl;refine⟨_,ej ?_,rfl⟩;rw[q1,q2,eQ];exact h
  ·have q1:a1 k=stp S.a a1 j k:=by rw[na];simp only[a1,b1,cond_false]
   have q2:c1 k=stp S.ct c1 j k:=by rw[nc];simp only[c1,b1,b2,b3,cond_false]
   refine⟨_,ej ?_,rfl⟩;rw[q1,q2,eQ,eQ];exact w1
 rintro τ M' ⟨x6,w1,rfl⟩;rw[show(rlW A).length=0+2 from rfl,qc,qc] at w1;have hRF:cells A {S with a:=a1,ct:=c1,fz:=true} .R=some (A.R,.flst (rlW A)):=rfl;refine⟨w1.wd.at' hRF,?_⟩;have w2:Wo (ax M' A.R (.lst (rlW A))) b A {S with a:=a1,ct:=c1,fz:=false}:=w1.one hRF (λ ws e=>nomatch e) (hZ false) rfl rfl rfl;generalize ax M' A.R (.lst (rlW A))=M3 at w2;have eF:({S with a:=a1,ct:=c1,fz:=false}:St)={S with a:=a1,ct:=c1}:=by rw[<- hf]
 rw[eF] at w2;have ka:a1 true=a1 false:=by simp only[a1,ea]
 have kc:c1 true=c1 false:=by simp only[c1,ec]
 have kl:∀ y,a1 false y<=2:=by
  simp only[a1];cases decide (r8<2)
  ·exact ha
  ·exact aaR ha (by omega)
 refine⟨_,rfl,_,_,rfl,rfl,_,rfl,fe (λ b1=>?_) (λ b1=>?_)⟩
 ·have W:=w2.wd;have hR2:M3 A.R=some (.lst (rlW A)):=W.at' (c:=.R) (by simp[cells,hf]);refine⟨_,rfl,0,_,rfl,by simp only[ixW,hR2];rfl,rfl,A.r false,_,rfl,W.at' (c:=.r false) rfl,afC (x:=A.x false) (y:=A.y false) (z:=A.z false) (g:=S.g false),_,rfl,_,rfl,_,_,rfl,rfl,A.r false,A.x false,A.y false,A.z false,S.g false,A.N,S.b false,z,_,rfl,W.at' (c:=.r false) rfl,W.at' (c:=.y false) rfl,hz,hl,?_⟩;refine⟨_,rfl,_,_,rfl,rfl,?_⟩;exact K a1 c1 _ _ ka kc kl (w2.one (c:=.y false) rfl (λ ws e=>nomatch e) (z6 _) rfl rfl rfl)
 ·refine⟨_,rfl,K a1 c1 y M3 ka kc kl ?_⟩;rw[ey,u4,eQ];exact w2
theorem qe:∀ (cu:List (List Str)) (s i:Nat) (c:List Str),cu[i]? =some c->dg (cuF s cu) (.inl ((s+i:Nat):Int))=some (.d (.list (c.map PyData.str)))
 | [],s,i,c,h=>by simp at h
 | d::cu,s,0,c,h=>by
  cases h;show dg ((.inl (s:Int),_)::cuF (s+1) cu) _=_;rw[bZ,Nat.add_zero,if_pos rfl]
 | d::cu,s,i+1,c,h=>by show dg ((.inl (s:Int),_)::cuF (s+1) cu) _=_;rw[bZ,if_neg (λ e=>by have:=Sum.inl.inj e;omega)];have:=qe cu (s+1) i c (by simpa using h);rw[show s+1+i=s+(i+1) by omega] at this;exact this
theorem qX:∀ (cu:List (List Str)) (s i:Nat),i<s\/s+cu.length<=i->dg (cuF s cu) (.inl (i:Int))=none
 | [],s,i,h=>rfl
 | d::cu,s,i,h=>by show dg ((.inl (s:Int),_)::cuF (s+1) cu) _=_;rw[List.length_cons] at h;rw[bZ,if_neg (λ e=>by have:=Sum.inl.inj e;omega)];exact qX cu (s+1) i (by omega)
theorem qO:∀ (cu:List (List Str)) (s:Nat) (c:List Str),cuF s (cu++[c])=cuF s cu++[(.inl ((s+cu.length:Nat):Int),.d (.list (c.map PyData.str)))]
 | [],s,c=>by simp[cuF]
 | d::cu,s,c=>by show _::cuF (s+1) (cu++[c])=_::(cuF (s+1) cu++_);rw[qO cu (s+1) c,List.length_cons,show s+1+cu.length=s+(cu.length+1) by omega]
theorem uq:∀ (cu:List (List Str)) (s:Nat),(cuF s cu).length=cu.length
 | [],_=>rfl
 | d::cu,s=>by show _+1=_+1;rw[uq cu (s+1)]
theorem abG(cu:List (List Str))(c:List Str):fX (cuF 1 cu) (.inl ((1+cu.length:Nat):Int)) (.d (.list (c.map PyData.str)))=cuF 1 (cu++[c]):=by rw[qO];unfold fX;have:=ft (.inl ((1+cu.length:Nat):Int):Key) (cuF 1 cu);rw[qX cu 1 (1+cu.length) (.inr (Nat.le_refl _))] at this;rw[this];rfl
def Ap(cu:List (List Str))(z:Str)(t1 t2:Nat):Prop:=t1 > 190\/t2=t1+1\/(t2=t1/\∃ i c,t1=i+2/\cu[i]? =some c/\z∈c)\/(t1<t2/\(t2 > 190\/∃ c,cu[t1]? =some c/\z∈c))
def cq:SpD:=λ ws M Q=>∃ (ts:List Nat) (z:Str) (U:Addr) (cu:List (List Str)),ws=[.d (.list (ts.map λ(t:Nat)=>.int (t:Nat))),.d (.str z),.m U]/\M U=some (.dic (cuF 1 cu))/\((∃ t,ts=[t])\/∃ t1 t2,ts=[t1,t2]/\Ap cu z t1 t2)/\Q (.d (.bool true)) M
theorem qi:∀ ws M Q,cq ws M Q->ws.length=3:=by rintro ws M Q ⟨ts,z,U,cu,rfl,_⟩;rfl
theorem ir(a b:Nat):PyData.eqv (.int (a:Int)) (.int (b:Int))=decide (a=b):=by
 rw[vI]
 by_cases e:a=b
 ·simp[e]
 ·have:(a:Int)≠b:=by omega
  simp[e,this]
theorem om:∀ ws M Q,cq ws M Q->ni {nx:=λ _ M'=>Q (.d .none) M',rt:=Q} (bO oT ws) M:=by
 rintro ws M Q ⟨ts,z,U,cu,rfl,hU,h,k⟩;rcases h with ⟨t,rfl⟩ | ⟨t1,t2,rfl,h⟩
 ·refine⟨_,rfl,_,_,rfl,rfl,rfl,_,_,.d,.d,rfl,_,rfl,?_⟩;refine j6 (by show PyData.eqv (.int ((1:Nat):Int)) (.int ((1:Nat):Int))=true;rw[ir];rfl) ?_;exact adH k
 ·refine⟨_,rfl,_,_,rfl,rfl,rfl,_,_,.d,.d,rfl,_,rfl,?_⟩;refine eN (by show PyData.eqv (.int ((2:Nat):Int)) (.int ((1:Nat):Int))=false;rw[ir];rfl) ?_;refine⟨_,rfl,0,_,rfl,rfl,rfl,_,_,rfl,rfl,_,rfl,fe (λ _=>adH k) (λ b1=>?_)⟩;refine⟨_,rfl,1,_,rfl,rfl,rfl,_,rfl,0,_,rfl,rfl,rfl,.inl ⟨_,_,rfl,rfl,_,_,.d,.d,rfl,_,rfl,?_⟩⟩;have e1:((t1:Nat):Int)+1=((t1+1:Nat):Int):=by omega
  dsimp only;rw[e1,ir];refine fe (λ _=>k) (λ b2=>?_);refine⟨_,rfl,1,_,rfl,rfl,rfl,_,rfl,0,_,rfl,rfl,rfl,_,_,.d,.d,rfl,_,rfl,?_⟩;rw[ir];have n1:¬ t1 > 190:=by have:=of_decide_eq_false b1;omega
  have n2:=of_decide_eq_false b2;rcases h with h | h | ⟨e,i,c,ei,hc,hz⟩ | ⟨lt,h⟩
  ·exact absurd h n1
  ·exact absurd h n2
  ·refine j6 (decide_eq_true e) ?_;refine⟨_,rfl,_,rfl,_,rfl,0,_,rfl,rfl,rfl,_,_,rfl,rfl,?_⟩;refine⟨U,_,.inl ((i+1:Nat):Int),_,rfl,.inl hU,?_,by rw[show i+1=1+i by omega];exact qe cu 1 i c hc,z,c,rfl,?_,?_⟩
   ·show W.d (.int ((t1:Int)-1))=W.d (.int _);rw[show(t1:Int)-1=((i+1:Nat):Int) by omega]
   ·have:(c.map PyData.str).map W.d=mE c:=by unfold mE;rw[List.map_map];rfl
    rw[<- this];exact .l
   ·show Q (.d (.bool (decide (z∈c)))) M;rw[decide_eq_true hz];exact k
  ·refine eN (decide_eq_false (by omega)) ?_;refine⟨_,rfl,1,_,rfl,rfl,rfl,_,_,rfl,rfl,_,rfl,fe (λ _=>k) (λ b3=>?_)⟩;have n3:¬ t2 > 190:=by have:=of_decide_eq_false b3;omega
   rcases h with h | ⟨c,hc,hz⟩
   ·exact absurd h n3
   refine⟨_,rfl,_,rfl,_,rfl,0,_,rfl,rfl,rfl,.inl ⟨_,_,rfl,rfl,?_⟩⟩;refine⟨U,_,.inl ((t1+1:Nat):Int),_,rfl,.inl hU,by dsimp only;rw[e1];rfl,by rw[show t1+1=1+t1 by omega];exact qe cu 1 t1 c hc,z,c,rfl,?_,_,rfl,j6 (by show decide (z∈c)=true;exact decide_eq_true hz) ?_⟩
   ·have:(c.map PyData.str).map W.d=mE c:=by unfold mE;rw[List.map_map];rfl
    rw[<- this];exact .l
   refine⟨_,rfl,1,_,rfl,rfl,rfl,_,rfl,0,_,rfl,rfl,rfl,_,_,rfl,rfl,?_⟩;show Q (.d (.bool (decide ((t1:Int)<(t2:Int))))) M;rw[decide_eq_true (by omega:((t1:Nat):Int)<(t2:Int))];exact k
structure Gh where
 du:Nat->Nat
 zn:Nat->Str
 kn:Nat->PyData
 db:Nat->Bool
 n:Nat
structure Gd(G:Gh)(m:Msg):Prop where
 lo:1<=m.n
 hi:m.n<=G.n
 z:m.z=G.zn m.n
 k:m.k=G.kn m.n
 d:m.d=G.du m.n\/(m.d=G.du m.n+1/\G.db m.n=true)
def prim(G:Gh)(m:Msg):Bool:=decide (m.d=G.du m.n)
def Ln(a b:Msg):Prop:=a.n<b.n\/(a.n=b.n/\a.d<b.d)
def Lt(a b:Msg):Prop:=a.d<b.d\/(a.d=b.d/\Ln a b)
abbrev Ev:=Msg×Nat
structure Iv(G:Gh)(P0 P1:List Msg)(E0 E1:List Ev)(T:Nat)(cu:List (List Str)):Prop where
 gd:∀ m∈P0,Gd G m
 ge:∀ e∈E0,Gd G e.1
 pw:P0.Pairwise Ln
 p1:P1=P0.filter (prim G)
 e1:E1=E0.filter λ e=>prim G e.1
 xe:∀ e∈E0,∀ m∈P0,e.1.n=m.n->prim G e.1=true/\prim G m=false
 ee:E0.Pairwise λ e e'=>e.1.n=e'.1.n->prim G e.1=true/\prim G e'.1=false/\Ap cu e.1.z e.2 e'.2
 he:∀ e∈E0,e.1.d<=e.2/\e.2<=T
 cut:∀ m∈P0,∀ u,m.d<=u->u<=T->∃ c,cu[u-1]? =some c/\m.z∈c
 al:∀ n,1<=n->n<=G.n->(∃ m,(m∈P0\/∃ t,(m,t)∈E0)/\m.n=n/\m.d=G.du n)/\(G.db n=true->∃ m,(m∈P0\/∃ t,(m,t)∈E0)/\m.n=n/\m.d=G.du n+1)
 d2:∀ n,1<=n->n<=G.n->2<=G.du n
theorem Ap.mono{cu cu':List (List Str)}{z:Str}{t1 t2:Nat}(hx:∀ (i:Nat) c,cu[i]? =some c->cu'[i]? =some c)(h:Ap cu z t1 t2):Ap cu' z t1 t2:=by
 rcases h with h | h | ⟨h,i,c,e,hc,hz⟩ | ⟨h,h2 | ⟨c,hc,hz⟩⟩
 ·exact .inl h
 ·exact .inr (.inl h)
 ·exact .inr (.inr (.inl ⟨h,i,c,e,hx i c hc,hz⟩))
 ·exact .inr (.inr (.inr ⟨h,.inl h2⟩))
 ·exact .inr (.inr (.inr ⟨h,.inr ⟨c,hx t1 c hc,hz⟩⟩))
theorem rH{G:Gh}{m:Msg}:prim G m=true ↔ m.d=G.du m.n:=decide_eq_true_iff
theorem qx{G:Gh}{m:Msg}:prim G m=false ↔ m.d≠G.du m.n:=decide_eq_false_iff_not
theorem sC{ct:Str->Bool}{t:Nat}{m:Msg}:due ct t m=true ↔ m.d<=t/\ct m.z=false:=by
 unfold due;simp[Bool.and_eq_true]
theorem two_of{G:Gh}{a b:Msg}(ha:Gd G a)(hb:Gd G b)(n:a.n=b.n)(d:a.d<b.d):prim G a=true/\prim G b=false/\a.z=b.z/\b.d=a.d+1:=by
 have h1:=ha.d;have h2:=hb.d;rw[n] at h1;refine⟨rH.mpr ?_,qx.mpr ?_,by rw[ha.z,hb.z,n],?_⟩
 ·rw[n];omega
 ·omega
 ·omega
theorem adZ{L L':List Msg}(p:L.Perm L')(h:L.Pairwise Lt)(h':L'.Pairwise Lt):L=L':=
 List.Perm.eq_of_pairwise (λ a b _ _ h1 h2=>by
  exfalso
  unfold Lt Ln at h1 h2;omega) h h' p
theorem oU{G:Gh}{P0 P1:List Msg}{E0 E1:List Ev}{T t:Nat}{cu cu':List (List Str)}{ct:Str->Bool}{L0 L1:List Msg}(I:Iv G P0 P1 E0 E1 T cu)
  (q0:L0.Perm (P0.filter (due ct t)))(s0:L0.Pairwise Lt)(q1:L1.Perm (P1.filter (due ct t)))(s1:L1.Pairwise Lt)(ht:T<=t)(hx:∀ (i:Nat) c,cu[i]? =some c->cu'[i]? =some c)
  (h1:∀ m∈P0,due ct t m=false->∀ u,m.d<=u->u<=t->∃ c,cu'[u-1]? =some c/\m.z∈c)
  (h3:∀ m∈P0,m.d+1<=t->Ap cu' m.z t t)
  (h4:∀ e∈E0,∀ m∈P0,m.z=e.1.z->m.d=e.1.d+1->Ap cu' e.1.z e.2 t) :
  Iv G (P0.filter λ m=>!due ct t m) (P1.filter λ m=>!due ct t m) (E0++L0.map λ m=>(m,t)) (E1++L1.map λ m=>(m,t)) t cu':=by
 have mem0:∀ m∈L0,m∈P0/\due ct t m=true:=λ m hm=>List.mem_filter.mp (q0.mem_iff.mp hm);have memP:∀ m∈P0.filter (λ m=>!due ct t m),m∈P0/\due ct t m=false:=λ m hm=>by have:=List.mem_filter.mp hm;exact⟨this.1,by simpa using this.2⟩
 have e0:L1=L0.filter (prim G):=by
  refine adZ (q1.trans ?_) s1 (s0.filter _);rw[I.p1];have:(P0.filter (prim G)).filter (due ct t)=(P0.filter (due ct t)).filter (prim G):=by rw[List.filter_filter,List.filter_filter];congr 1;funext m;exact Bool.and_comm _ _
  rw[this];exact(q0.filter _).symm
 have gdE:∀ e∈E0++L0.map (λ m=>(m,t)),Gd G e.1:=λ e he=>by
  rcases List.mem_append.mp he with he | he
  ·exact I.ge e he
  ·obtain⟨m,hm,rfl⟩:=List.mem_map.mp he;exact I.gd m (mem0 m hm).1
 refine⟨λ m hm=>I.gd m (memP m hm).1,gdE,I.pw.filter _,?_,?_,λ e he m hm en=>?_,?_,λ e he=>?_,λ m hm u h5 h6=>?_,λ n hn1 hn2=>?_,I.d2⟩
 ·rw[I.p1,List.filter_filter,List.filter_filter];congr 1;funext m;exact Bool.and_comm _ _
 ·rw[List.filter_append,<- I.e1,e0,List.filter_map];rfl
 ·obtain⟨hm0,hmd⟩:=memP m hm;rcases List.mem_append.mp he with he | he
  ·exact I.xe e he m hm0 en
  ·obtain⟨a,ha,rfl⟩:=List.mem_map.mp he;obtain⟨ha0,had⟩:=mem0 a ha;obtain⟨d1,d2⟩:=sC.mp had;have ez:a.z=m.z:=by rw[(I.gd a ha0).z,(I.gd m hm0).z];exact congrArg G.zn en
   have d3:¬ m.d<=t:=λ z=>by have:=sC.mpr ⟨z,by rw[<- ez];exact d2⟩;rw[hmd] at this;cases this
   have:=two_of (I.gd a ha0) (I.gd m hm0) en (by omega);exact⟨this.1,this.2.1⟩
 ·refine List.pairwise_append.mpr ⟨I.ee.imp λ h en=>⟨(h en).1,(h en).2.1,(h en).2.2.mono hx⟩,?_,λ e he e' he' en=>?_⟩
  ·refine List.pairwise_map.mpr (s0.imp_of_mem λ {a b} ha hb h en=>?_);obtain⟨ha0,had⟩:=mem0 a ha;obtain⟨hb0,hbd⟩:=mem0 b hb;have hd:a.d<b.d:=by have en':a.n=b.n:=en;unfold Lt Ln at h;omega
   obtain⟨w1,w2,w3,w4⟩:=two_of (I.gd a ha0) (I.gd b hb0) en hd;exact⟨w1,w2,h3 a ha0 (by have:=(sC.mp hbd).1;omega)⟩
  ·obtain⟨m,hm,rfl⟩:=List.mem_map.mp he';obtain⟨hm0,hmd⟩:=mem0 m hm;obtain⟨w1,w2⟩:=I.xe e he m hm0 en;refine⟨w1,w2,h4 e he m hm0 (by rw[(I.gd m hm0).z,(I.ge e he).z];exact(congrArg G.zn en).symm) ?_⟩;have g1:=rH.mp w1;have g2:=qx.mp w2;have g3:=(I.gd m hm0).d;have en':e.1.n=m.n:=en;rw[en'] at g1;omega
 ·rcases List.mem_append.mp he with he | he
  ·have:=I.he e he;exact⟨this.1,by omega⟩
  ·obtain⟨m,hm,rfl⟩:=List.mem_map.mp he;exact⟨(sC.mp (mem0 m hm).2).1,Nat.le_refl t⟩
 ·obtain⟨hm0,hmd⟩:=memP m hm;exact h1 m hm0 hmd u h5 h6
 ·have key:∀ d,(∃ m,(m∈P0\/∃ t,(m,t)∈E0)/\m.n=n/\m.d=d)->∃ m,(m∈P0.filter (λ m=>!due ct t m)\/∃ u,(m,u)∈E0++L0.map λ m=>(m,t))/\m.n=n/\m.d=d:=λ d hq111=>by
   obtain⟨m,hm,e1,e2⟩:=hq111;refine⟨m,?_,e1,e2⟩;rcases hm with hm | ⟨u,hu⟩
   ·cases q:due ct t m with
    | false=>exact .inl (List.mem_filter.mpr ⟨hm,by rw[q];rfl⟩)
    | true=>exact .inr ⟨t,List.mem_append_right _ (List.mem_map.mpr ⟨m,q0.mem_iff.mpr (List.mem_filter.mpr ⟨hm,q⟩),rfl⟩)⟩
   ·exact .inr ⟨u,List.mem_append_left _ hu⟩
  obtain⟨a1,a2⟩:=I.al n hn1 hn2;exact⟨key _ a1,λ h=>key _ (a2 h)⟩
theorem vK{G:Gh}{P0 P1:List Msg}{E0 E1:List Ev}{T:Nat}{cu:List (List Str)}{ct:Str->Bool}{c:List Str}{L0 L1:List Msg}(I:Iv G P0 P1 E0 E1 T cu)(hl:cu.length=T)(hc:∀ m∈P0,ct m.z=true->m.z∈c)
  (q0:L0.Perm (P0.filter (due ct (T+1))))(s0:L0.Pairwise Lt)(q1:L1.Perm (P1.filter (due ct (T+1))))(s1:L1.Pairwise Lt) :
  Iv G (P0.filter λ m=>!due ct (T+1) m) (P1.filter λ m=>!due ct (T+1) m) (E0++L0.map λ m=>(m,T+1)) (E1++L1.map λ m=>(m,T+1)) (T+1) (cu++[c]):=by
 have hx:∀ (i:Nat) d,cu[i]? =some d->(cu++[c])[i]? =some d:=λ i d h=>by rw[List.getElem?_append_left (List.getElem?_eq_some_iff.mp h).1];exact h
 have d2:∀ m∈P0,2<=m.d:=λ m hm=>by have g:=I.gd m hm;have:=I.d2 _ g.lo g.hi;have:=g.d;omega
 refine oU I q0 s0 q1 s1 (by omega) hx (λ m hm hd u h5 h6=>?_) (λ m hm h5=>?_) λ e he m hm ez ed=>?_
 ·by_cases h:u<=T
  ·obtain⟨d,e1,e2⟩:=I.cut m hm u h5 h;exact⟨d,hx _ _ e1,e2⟩
  ·have eu:u=T+1:=by omega
   subst eu;refine⟨c,by rw[Nat.add_sub_cancel,<- hl];simp,hc m hm ?_⟩;cases q:ct m.z with
   | true=>rfl
   | false =>
    have:=sC.mpr ⟨h5,q⟩;rw[hd] at this;cases this
 ·have:=d2 m hm;obtain⟨d,e1,e2⟩:=I.cut m hm T (by omega) (Nat.le_refl T);exact .inr (.inr (.inl ⟨rfl,T-1,d,by omega,hx _ _ e1,e2⟩))
 ·obtain⟨a1,a2⟩:=I.he e he
  by_cases h:e.2=T
  ·exact .inr (.inl (by omega))
  ·obtain⟨d,e1,e2⟩:=I.cut m hm (e.2+1) (by omega) (by omega);exact .inr (.inr (.inr ⟨by omega,.inr ⟨d,by rw[Nat.add_sub_cancel] at e1;exact hx _ _ e1,by rw[<- ez];exact e2⟩⟩))
theorem wm{G:Gh}{P0 P1:List Msg}{E0 E1:List Ev}{T t:Nat}{cu:List (List Str)}{ct:Str->Bool}{L0 L1:List Msg}(I:Iv G P0 P1 E0 E1 T cu)(hT:T<t)(h190:190<t)(hd:∀ m∈P0,due ct t m=true)
  (q0:L0.Perm (P0.filter (due ct t)))(s0:L0.Pairwise Lt)(q1:L1.Perm (P1.filter (due ct t)))(s1:L1.Pairwise Lt) :
  Iv G (P0.filter λ m=>!due ct t m) (P1.filter λ m=>!due ct t m) (E0++L0.map λ m=>(m,t)) (E1++L1.map λ m=>(m,t)) t cu:=
 oU I q0 s0 q1 s1 (Nat.le_of_lt hT) (λ _ _ h=>h) (λ m hm h=>by rw[hd m hm] at h;cases h) (λ m hm _=>.inl h190) λ e he m hm _ _=>.inr (.inr (.inr ⟨Nat.lt_of_le_of_lt (I.he e he).2 hT,.inl h190⟩))
def wJ{α:Type}(f:Nat->α)(n:Nat)(v:α):Nat->α:=λ j=>if j=n then v else f j
theorem bF{α:Type}{f:Nat->α}{n:Nat}{v:α}:wJ f n v n=v:=if_pos rfl
theorem cK{α:Type}{f:Nat->α}{n j:Nat}{v:α}(h:j<n):wJ f n v j=f j:=if_neg (by omega)
abbrev kh(G:Gh)(d:Nat)(z:Str)(k:PyData)(b:Bool):Gh:=⟨wJ G.du (G.n+1) d,wJ G.zn (G.n+1) z,wJ G.kn (G.n+1) k,wJ G.db (G.n+1) b,G.n+1⟩
theorem iK{G:Gh}{d:Nat}{z:Str}{k:PyData}{b:Bool}{m:Msg}(h:Gd G m):Gd (kh G d z k b) m/\prim (kh G d z k b) m=prim G m:=by
 have hi:=h.hi;have l:m.n<G.n+1:=by omega
 refine⟨⟨h.lo,Nat.le_succ_of_le hi,?_,?_,?_⟩,?_⟩
 ·rw[show(kh G d z k b).zn m.n=G.zn m.n from cK l];exact h.z
 ·rw[show(kh G d z k b).kn m.n=G.kn m.n from cK l];exact h.k
 ·rw[show(kh G d z k b).du m.n=G.du m.n from cK l,show(kh G d z k b).db m.n=G.db m.n from cK l];exact h.d
 ·unfold prim;rw[show(kh G d z k b).du m.n=G.du m.n from cK l]
theorem yu{G:Gh}{P0 P1:List Msg}{E0 E1:List Ev}{T:Nat}{cu:List (List Str)}(I:Iv G P0 P1 E0 E1 T cu)(h1:1<=T)(lt:Str->Nat)(db:Str->Bool)(z:Str)(k:PyData) :
  Iv (kh G (T+1+lt z) z k (db z)) (P0++news lt db z k T (G.n+1)) (P1++news lt (λ _=>false) z k T (G.n+1)) E0 E1 T cu:=by
 have gn:∀ m∈news lt db z k T (G.n+1),Gd (kh G (T+1+lt z) z k (db z)) m/\m.n=G.n+1/\T+1<=m.d:=λ m hm=>by
  unfold news at hm
  split at hm
  ·rename_i hb
   simp only[List.mem_cons,List.not_mem_nil,or_false] at hm;rcases hm with rfl | rfl
   ·exact⟨⟨Nat.le_add_left 1 _,Nat.le_refl _,bF.symm,bF.symm,.inl bF.symm⟩,rfl,by show T+1<=T+1+lt z;omega⟩
   ·exact⟨⟨Nat.le_add_left 1 _,Nat.le_refl _,bF.symm,bF.symm,.inr ⟨by show _=wJ _ _ _ _+1;rw[bF],by show wJ _ _ _ _=true;rw[bF];exact hb⟩⟩,rfl,by show T+1<=T+1+lt z+1;omega⟩
  ·rw[List.mem_singleton.mp hm];exact⟨⟨Nat.le_add_left 1 _,Nat.le_refl _,bF.symm,bF.symm,.inl bF.symm⟩,rfl,by show T+1<=T+1+lt z;omega⟩
 have pn:(news lt db z k T (G.n+1)).Pairwise Ln:=by
  unfold news
  split
  ·refine .cons (λ m hm=>?_) (.cons (λ _ h=>by cases h) .nil);rw[List.mem_singleton.mp hm];exact .inr ⟨rfl,Nat.lt_succ_self _⟩
  ·exact .cons (λ _ h=>by cases h) .nil
 have fn:(news lt db z k T (G.n+1)).filter (prim (kh G (T+1+lt z) z k (db z)))=news lt (λ _=>false) z k T (G.n+1):=by
  have a1:prim (kh G (T+1+lt z) z k (db z)) ⟨T+1+lt z,z,k,G.n+1⟩=true:=rH.mpr bF.symm;have a2:prim (kh G (T+1+lt z) z k (db z)) ⟨T+1+lt z+1,z,k,G.n+1⟩=false:=qx.mpr (by show T+1+lt z+1≠wJ _ _ _ _;rw[bF];omega);unfold news;cases hb:db z with
  | true =>
   rw[hb] at a1 a2;rw[if_pos rfl,if_neg Bool.false_ne_true,List.filter_cons_of_pos a1,List.filter_cons_of_neg (by rw[a2];decide)];rfl
  | false =>
   rw[hb] at a1;rw[if_neg Bool.false_ne_true,List.filter_cons_of_pos a1];rfl
 have gl:∀ m,Gd G m->m.n<G.n+1:=λ m h=>Nat.lt_succ_of_le h.hi;refine⟨λ m hm=>?_,λ e he=>(iK (I.ge e he)).1,?_,?_,?_,λ e he m hm en=>?_,?_,I.he,λ m hm u h5 h6=>?_,λ n hn1 (hn2:n<=G.n+1)=>?_,λ n hn1 (hn2:n<=G.n+1)=>?_⟩
 ·rcases List.mem_append.mp hm with hm | hm
  ·exact(iK (I.gd m hm)).1
  ·exact(gn m hm).1
 ·refine List.pairwise_append.mpr ⟨I.pw,pn,λ a ha c hc=>.inl ?_⟩;rw[(gn c hc).2.1];exact gl a (I.gd a ha)
 ·rw[List.filter_append,fn,I.p1];congr 1;exact List.filter_congr λ m hm=>(iK (I.gd m hm)).2.symm
 ·rw[I.e1];exact List.filter_congr λ e he=>(iK (I.ge e he)).2.symm
 ·rcases List.mem_append.mp hm with hm | hm
  ·rw[(iK (I.ge e he)).2,(iK (I.gd m hm)).2];exact I.xe e he m hm en
  ·have:=gl e.1 (I.ge e he);rw[en,(gn m hm).2.1] at this;omega
 ·refine I.ee.imp_of_mem λ {a c} ha hc h en=>?_;rw[(iK (I.ge a ha)).2,(iK (I.ge c hc)).2];exact h en
 ·rcases List.mem_append.mp hm with hm | hm
  ·exact I.cut m hm u h5 h6
  ·have:=(gn m hm).2.2;omega
 ·by_cases e:n=G.n+1
  ·subst e;have m0:(⟨T+1+lt z,z,k,G.n+1⟩:Msg)∈news lt db z k T (G.n+1):=by unfold news;split<;>simp
   refine⟨⟨_,.inl (List.mem_append_right _ m0),rfl,bF.symm⟩,λ hb=>?_⟩;have hb':db z=true:=by rw[<- hb];exact bF.symm
   refine⟨⟨T+1+lt z+1,z,k,G.n+1⟩,.inl (List.mem_append_right _ ?_),rfl,by show _=wJ _ _ _ _+1;rw[bF]⟩;unfold news;rw[if_pos hb'];simp
  ·have l:n<G.n+1:=by omega
   obtain⟨a1,a2⟩:=I.al n hn1 (by omega);have key:∀ d,(∃ m,(m∈P0\/∃ t,(m,t)∈E0)/\m.n=n/\m.d=d)->∃ m,(m∈P0++news lt db z k T (G.n+1)\/∃ t,(m,t)∈E0)/\m.n=n/\m.d=d:=λ d ⟨m,hm,e1,e2⟩ =>
    ⟨m,hm.elim (λ h=>.inl (List.mem_append_left _ h)) .inr,e1,e2⟩
   rw[show(kh G (T+1+lt z) z k (db z)).du n=G.du n from cK l,show(kh G (T+1+lt z) z k (db z)).db n=G.db n from cK l];exact⟨key _ a1,λ h=>key _ (a2 h)⟩
 ·by_cases e:n=G.n+1
  ·subst e;rw[show(kh G (T+1+lt z) z k (db z)).du (G.n+1)=T+1+lt z from bF];omega
  ·rw[show(kh G (T+1+lt z) z k (db z)).du n=G.du n from cK (by omega)];exact I.d2 n hn1 (by omega)
def tsN(E:List Ev)(n:Nat):List Nat:=(E.filter λ e=>decide (e.1.n=n)).map (·.2)
theorem mz(E:List Ev)(e:Ev)(n:Nat):tsN (E++[e]) n=if n=e.1.n then tsN E n++[e.2] else tsN E n:=by
 unfold tsN
 by_cases h:n=e.1.n
 ·rw[if_pos h,List.filter_append,List.map_append];simp[List.filter_cons,h.symm]
 ·rw[if_neg h,List.filter_append,List.filter_cons_of_neg (by simpa using λ z=>h z.symm)];simp
theorem vh{E:List Ev}{n:Nat}:tsN E n=[] ↔ ∀ e∈E,e.1.n≠n:=by
 unfold tsN;rw[List.map_eq_nil_iff,List.filter_eq_nil_iff];simp
section
variable {G:Gh}{P1:List Msg}{E0 E1:List Ev}{T:Nat}{cu:List (List Str)}
theorem yO(I:Iv G [] P1 E0 E1 T cu){i:Nat}{e:Ev}(he:E0[i]? =some e):prim G e.1=true ↔ tsN (E0.take i) e.1.n=[]:=by
 have hm:=List.mem_of_getElem? he;constructor
 ·intro h;refine vh.mpr λ e' he' en=>?_;have:=(pw_at I.ee he e' he' en).2.1;rw[h] at this;cases this
 ·intro h;cases q:prim G e.1 with
  | true=>rfl
  | false =>
   exfalso
   have g:=I.ge e hm;obtain⟨⟨m,h1,h2,h3⟩,_⟩:=I.al e.1.n g.lo g.hi;rcases h1 with h1 | ⟨t,h1⟩
   ·cases h1
   have hp:prim G m=true:=rH.mpr (by rw[h2];exact h3);have hi:=(List.getElem?_eq_some_iff.mp he).1;have ee:=I.ee;rw[<- List.take_append_drop i E0,List.drop_eq_getElem_cons hi] at h1 ee;have hg:E0[i]=e:=by rw[List.getElem?_eq_getElem hi] at he;exact Option.some.inj he
   rw[hg] at h1 ee;rcases List.mem_append.mp h1 with h1 | h1
   ·exact vh.mp h _ h1 h2
   ·rcases List.mem_cons.mp h1 with h1 | h1
    ·rw[<- h1,hp] at q;cases q
    ·have:=((List.pairwise_cons.mp (List.pairwise_append.mp ee).2.1).1 _ h1 h2.symm).1;rw[q] at this;cases this
theorem tZ(I:Iv G [] P1 E0 E1 T cu){n:Nat}(h1:1<=n)(h2:n<=G.n):(∃ t,tsN E0 n=[t]/\G.db n=false)\/∃ t1 t2,tsN E0 n=[t1,t2]/\G.db n=true/\Ap cu (G.zn n) t1 t2:=by
 have pw:=I.ee.filter (λ e=>decide (e.1.n=n));have mem:∀ e∈E0.filter (λ e=>decide (e.1.n=n)),e∈E0/\e.1.n=n:=λ e he=>by have:=List.mem_filter.mp he;exact⟨this.1,by simpa using this.2⟩
 obtain⟨⟨m,a1,a2,a3⟩,al⟩:=I.al n h1 h2;have inF:∀ m,(m∈([]:List Msg)\/∃ t,(m,t)∈E0)->m.n=n->∃ t,(m,t)∈E0.filter λ e=>decide (e.1.n=n):=λ m h e=>by
  rcases h with h | ⟨t,h⟩
  ·cases h
  ·exact⟨t,List.mem_filter.mpr ⟨h,by simpa using e⟩⟩
 obtain⟨t0,f0⟩:=inF m a1 a2;unfold tsN;generalize E0.filter (λ e=>decide (e.1.n=n))=F at pw mem inF f0
 match F,pw,mem,inF,f0 with
 | [],_,_,_,f0=>cases f0
 | [e],_,mem,inF,f0 =>
  refine .inl ⟨e.2,rfl,?_⟩;cases q:G.db n with
  | false=>rfl
  | true =>
   obtain⟨m',b1,b2,b3⟩:=al q;obtain⟨t1,f1⟩:=inF m' b1 b2;have c1:=List.mem_singleton.mp f0;have c2:=List.mem_singleton.mp f1;have:m=m':=congrArg Prod.fst (c1.trans c2.symm);rw[this] at a3;omega
 | [e1,e2],pw,mem,_,_ =>
  have h3:=(List.pairwise_cons.mp pw).1 e2 List.mem_cons_self;obtain⟨m1,m2⟩:=mem e1 List.mem_cons_self;obtain⟨m3,m4⟩:=mem e2 (List.mem_cons_of_mem _ List.mem_cons_self);obtain⟨w1,w2,w3⟩:=h3 (by rw[m2,m4]);refine .inr ⟨e1.2,e2.2,rfl,?_,?_⟩
  ·have g:=(I.ge e2 m3).d;have:=qx.mp w2;rw[m4] at g this;exact(g.resolve_left this).2
  ·rw[<- m2,<- (I.ge e1 m1).z];exact w3
 | e1::e2::e3::F,pw,mem,_,_ =>
  exfalso
  obtain⟨p1,p2⟩:=List.pairwise_cons.mp pw;obtain⟨p3,_⟩:=List.pairwise_cons.mp p2;have m1:=(mem e1 List.mem_cons_self).2;have m2:=(mem e2 (List.mem_cons_of_mem _ List.mem_cons_self)).2;have m3:=(mem e3 (List.mem_cons_of_mem _ (List.mem_cons_of_mem _ List.mem_cons_self))).2;have a:=(p1 e2 List.mem_cons_self (by rw[m1,m2])).2.1;have b:=(p3 e3 List.mem_cons_self (by rw[m2,m3])).1;rw[a] at b;cases b
end
theorem zc{K:List Str}{f:Str->Bool}(h:∀ z,z ∉ K->f z=false)(z:Str):(dg (kf K (bW f)) (.inr z)).getD (.d (.bool false))=.d (.bool (f z)):=by
 by_cases q:z∈K
 ·rw[jP q];rfl
 ·rw[zR q,h z q];rfl
def yM(K:List Str)(z:Str):List Str:=if z∈K then K else K++[z]
theorem adD{α:Type}{K:List Str}{f:Str->α}{g:α->W}{z:Str}{v:α}:fX (kf K λ y=>g (f y)) (.inr z) (g v)=kf (yM K z) λ y=>g (cY f z v y):=by
 unfold yM
 by_cases q:z∈K
 ·rw[if_pos q,nD q];refine rG λ y _=>?_;unfold cY
  split<;>rfl
 ·rw[if_neg q];have e:kf K (λ y=>g (f y))=kf K λ y=>g (cY f z v y):=rG λ y hy=>by rw[mV (λ e:y=z=>q (e ▸ hy))]
  rw[e];have:=wc (f:=λ y=>g (cY f z v y)) q;simp only[qj] at this;exact this
theorem pM{K:List Str}{z y:Str}:y∈yM K z ↔ y∈K\/y=z:=by
 unfold yM
 by_cases q:z∈K
 ·rw[if_pos q];exact⟨.inl,λ h=>h.elim id λ e=>e ▸ q⟩
 ·rw[if_neg q,List.mem_append,List.mem_singleton]
theorem zT{K:List Str}{z:Str}(h:K.Nodup):(yM K z).Nodup:=by
 unfold yM
 by_cases q:z∈K
 ·rw[if_pos q];exact h
 ·rw[if_neg q];exact List.nodup_append.mpr ⟨h,by simp,λ a ha b hb e=>q (by rw[List.mem_singleton.mp hb] at e;exact e ▸ ha)⟩
structure Ky(N K:List Str)(f:Str->Bool):Prop where
 no:∀ z,z ∉ K->f z=false
 nd:K.Nodup
 sub:∀ z∈K,z∈N
theorem Ky.len{N K:List Str}{f:Str->Bool}(h:Ky N K f):K.length<=N.length:=List.Nodup.length_le_of_subset h.nd h.sub
theorem Ky.set{N K:List Str}{f:Str->Bool}(h:Ky N K f){z:Str}(hz:z∈N)(v:Bool):Ky N (yM K z) (cY f z v):=
 ⟨λ y hy=>by have h1:y ∉ K:=λ q=>hy (pM.mpr (.inl q));have h2:y≠z:=λ q=>hy (pM.mpr (.inr q));rw[mV h2];exact h.no y h1,zT h.nd,λ y hy=>(pM.mp hy).elim (h.sub y) λ e=>e ▸ hz⟩
abbrev ev(e:Rw):Ev:=(e.m,e.u)
abbrev pms(ps:List Pm):List Msg:=ps.map (·.m)
abbrev evs(es:List Rw):List Ev:=es.map ev
structure Law(M:MH)(b:Addr)(A:Ad)(S:St)(G:Gh)(T:Nat):Prop where
 wo:Wo M b A S
 iv:Iv G (pms (S.P false)) (pms (S.P true)) (evs (S.E false)) (evs (S.E true)) T S.cu
 a:S.a true=S.a false
 ct:S.ct true=S.ct false
 b1:S.b true=λ _=>false
 ha:∀ z,S.a false z<=2
 yk:Ky A.N S.yk S.yb
 yb:S.yb=S.b false
 bl:∀ m∈S.bl,1<=m.n/\m.n<=G.n/\m.z=G.zn m.n/\m.k=G.kn m.n/\G.db m.n=true
 bl2:∀ n,1<=n->n<=G.n->G.db n=true->∃ m∈S.bl,m.n=n
 bll:S.bl.length<=G.n
 nm:∀ n,1<=n->n<=G.n->G.zn n∈A.N/\wV n (G.kn n)=true
 sz:∀ k,(S.P k).length+(S.E k).length<=2 * G.n
 du:∀ m∈pms (S.P false),m.d<=T+4
 fz:S.fz=false
structure Na(A:Ad):Prop where
 asc:∀ z∈A.N,wM z=true
 one:1<=A.N.length
 len:A.N.length<=4
abbrev fI(A:Ad)(b:Addr)(n:Nat)(x0 x9 x10 x11 x12 x13 x14 x15 x16 x17:Option W):DS:=[x0,some (.m b),some (.d (yY A.N)),some (.m A.R),some (.m A.Y),some (.m A.U),some (.m A.B),some (.m A.T),some (.d (.int (n:Nat))),x9,x10,x11,x12,x13,x14,x15,x16,x17]
theorem ag8(N:List Str)(h:1<=N.length)(r:Int)(h0:0<=r)(h1:r<(N.length:Nat))(M:MH):∃ z,z∈N/\ixW M (.d (yY N)) r=some (.d (.str z)):=by
 obtain⟨i,rfl⟩:∃ i:Nat,r=(i:Int):=⟨r.toNat,by omega⟩;have hi:i<N.length:=by omega
 refine⟨N[i],List.getElem_mem _,?_⟩;show(atI (N.map PyData.str) (i:Int)).map W.d=_;rw[zd (by omega) (by rw[List.length_map];omega)];simp
theorem pH{lo:Int}{n:Nat}:(lz lo n).length=n:=by simp[lz]
theorem qG{lo:Int}{n i:Nat}{w:W}(h:(lz lo n)[i]? =some w):i<n/\w=.d (.int (lo+(i:Int))):=by
 unfold lz at h;rw[List.getElem?_map] at h;obtain⟨j,hj,rfl⟩:=Option.map_eq_some_iff.mp h;have:=List.getElem?_eq_some_iff.mp hj;obtain⟨h1,h2⟩:=this;rw[List.length_range] at h1;simp at h2;subst h2;exact⟨h1,rfl⟩
abbrev agf:TSd:=
 ip (lZ (af (dI 2) (aG))) (gN 10)
    (cM (bR b9 (af (dOp cU (ak 7) (ak 10)) (af (dOp cU (ak 3) (ak 10)) (af (ak 9) (aG))))))
structure wO(P:List Pm)(ct:Str->Bool)(t:Nat)(rows:List Rw):Prop where
 pm:(rows.map (·.m)).Perm ((P.filter λ p=>due ct t p.m).map (·.m))
 od:∀ T:Msg->Msg->Prop,((P.filter λ p=>due ct t p.m).map (·.m)).Pairwise T->(rows.map (·.m)).Pairwise λ a b=>a.d<b.d\/(a.d=b.d/\T a b)
 u:∀ e∈rows,e.u=t
section
variable {A:Ad}{b:Addr}{S:St}{M:MH}{D:Ed}{t n:Nat}{x0 x9 x10 x11 x12 x13 x14 x15 x16 x17:Option W}
theorem acW(wo:Wo M b A S)(hf:S.fz=false)(hz:∀ k,∀ p∈S.P k,p.m.z∈A.N/\wV p.m.n p.m.k=true)(hs:∀ k,(S.P k).length+(S.E k).length<=900)
  (K:∀ g0 g1 rows0 rows1 M' x10,wO (S.P false) (S.ct false) t rows0->wO (S.P true) (S.ct true) t rows1->Wo M' b A (eh (eh S false t g0 rows0) true t g1 rows1)->D.nx (fI A b n x0 (some (.d (.int (t:Nat)))) x10 x11 x12 x13 x14 x15 x16 x17) M') :
  agf D (fI A b n x0 (some (.d (.int (t:Nat)))) x10 x11 x12 x13 x14 x15 x16 x17) M:=by
 have sl:=s16;refine⟨_,rfl,by omega,by omega,λ j τ M'=>(∃ x10,τ=fI A b n x0 (some (.d (.int (t:Nat)))) x10 x11 x12 x13 x14 x15 x16 x17)/\((j=0/\Wo M' b A S)\/(j=1/\∃ g0 rows0,wO (S.P false) (S.ct false) t rows0/\Wo M' b A (eh S false t g0 rows0))\/(j=2/\∃ g0 g1 rows0 rows1,wO (S.P false) (S.ct false) t rows0/\wO (S.P true) (S.ct true) t rows1/\Wo M' b A (eh (eh S false t g0 rows0) true t g1 rows1))),⟨⟨_,rfl⟩,.inl ⟨rfl,wo⟩⟩,?_,?_⟩
 ·rintro j w τ M1 hw ⟨⟨y10,rfl⟩,h⟩;obtain⟨hj,rfl⟩:=qG hw;rcases h with ⟨rfl,w1⟩ | ⟨rfl,g0,rows0,c0,w1⟩ | ⟨rfl,_⟩
  ·have hT:=w1.wd.at' (c:=.T) rfl;have hR:=w1.wd.at' (c:=.R) (p:=A.R) (o:=.lst (rlW A)) (by simp[cells,hf]);refine⟨_,rfl,_,rfl,0,_,rfl,by simp only[ixW,hT];rfl,rfl,_,rfl,_,rfl,0,_,rfl,by simp only[ixW,hR];rfl,rfl,_,rfl,b,A,S,false,t,rfl,w1,hz false,by have:=hs false;omega,by have:=hs false;omega,λ g' rows M' pm od u wo'=>?_⟩;exact⟨⟨_,rfl⟩,.inr (.inl ⟨rfl,g',rows,⟨pm,od,u⟩,wo'⟩)⟩
  ·have hT:=w1.wd.at' (c:=.T) rfl;have hR:=w1.wd.at' (c:=.R) (p:=A.R) (o:=.lst (rlW A)) (by simp[cells,hf]);refine⟨_,rfl,_,rfl,1,_,rfl,by simp only[ixW,hT];rfl,rfl,_,rfl,_,rfl,1,_,rfl,by simp only[ixW,hR];rfl,rfl,_,rfl,b,A,_,true,t,rfl,w1,hz true,by have:=hs true;show(S.P true).length<=900;omega,by have:=hs true;show(S.E true).length<=900;omega,λ g' rows M' pm od u wo'=>?_⟩;exact⟨⟨_,rfl⟩,.inr (.inr ⟨rfl,g0,g',rows0,rows,c0,⟨pm,od,u⟩,wo'⟩)⟩
  ·exact absurd hj (by decide)
 ·rintro τ M1 ⟨⟨y10,rfl⟩,h⟩;rw[pH] at h;rcases h with ⟨h,_⟩ | ⟨h,_⟩ | ⟨_,g0,g1,rows0,rows1,c0,c1,w1⟩
  ·exact absurd h (by decide)
  ·exact absurd h (by decide)
  ·exact K g0 g1 rows0 rows1 M1 y10 c0 c1 w1
end
section
variable {A:Ad}{b:Addr}{S:St}{M M':MH}{G:Gh}{T:Nat}
theorem wO.lt{P:List Pm}{ct:Str->Bool}{t:Nat}{rows:List Rw}(h:wO P ct t rows)(pw:(pms P).Pairwise Ln):(rows.map (·.m)).Perm ((pms P).filter (due ct t))/\(rows.map (·.m)).Pairwise Lt/\evs rows=(rows.map (·.m)).map λ m=>(m,t):=by
 have e:(P.filter λ p=>due ct t p.m).map (·.m)=(pms P).filter (due ct t):=by rw[List.filter_map];rfl
 refine⟨by rw[<- e];exact h.pm,h.od Ln (by rw[e];exact pw.filter _),?_⟩;rw[List.map_map];exact List.map_congr_left λ r hr=>by show(r.m,r.u)=(r.m,t);rw[h.u r hr]
theorem Law.hz(h:Law M b A S G T):∀ k,∀ p∈S.P k,p.m.z∈A.N/\wV p.m.n p.m.k=true:=λ k p hp=>by
 have g:Gd G p.m:=by
  cases k with
  | false=>exact h.iv.gd _ (List.mem_map.mpr ⟨p,hp,rfl⟩)
  | true =>
   have:p.m∈pms (S.P true):=List.mem_map.mpr ⟨p,hp,rfl⟩;rw[h.iv.p1] at this;exact h.iv.gd _ (List.mem_filter.mp this).1
 have:=h.nm _ g.lo g.hi;rw[g.z,g.k];exact this
theorem Law.pw(h:Law M b A S G T)(k:Bool):(pms (S.P k)).Pairwise Ln:=by
 cases k with
 | false=>exact h.iv.pw
 | true=>rw[h.iv.p1];exact h.iv.pw.filter _
theorem rE{P:List Pm}{E rows:List Rw}{ct:Str->Bool}{t c:Nat}(h:wO P ct t rows)(hs:P.length+E.length<=c):(P.filter λ p=>!due ct t p.m).length+(E++rows).length<=c:=by
 have h1:=h.pm.length_eq;rw[List.length_map,List.length_map] at h1;rw[List.length_append,h1];have:P.length=(P.filter λ p=>due ct t p.m).length+(P.filter λ p=>!due ct t p.m).length:=by rw[<- List.countP_eq_length_filter,<- List.countP_eq_length_filter,List.length_eq_countP_add_countP (λ p:Pm=>due ct t p.m)];congr 1;exact List.countP_congr λ p _=>by simp
 omega
theorem Law.told{t:Nat}{cu':List (List Str)}{g0 g1:Addr}{rows0 rows1:List Rw}(h:Law M b A S G T)(c0:wO (S.P false) (S.ct false) t rows0)(c1:wO (S.P true) (S.ct true) t rows1)
  (wo:Wo M' b A (eh (eh {S with cu:=cu'} false t g0 rows0) true t g1 rows1))(ht:T<=t)
  (iv:∀ L0 L1:List Msg,L0.Perm ((pms (S.P false)).filter (due (S.ct false) t))->L0.Pairwise Lt->L1.Perm ((pms (S.P true)).filter (due (S.ct false) t))->L1.Pairwise Lt ->
   Iv G ((pms (S.P false)).filter λ m=>!due (S.ct false) t m) ((pms (S.P true)).filter λ m=>!due (S.ct false) t m) (evs (S.E false)++L0.map λ m=>(m,t)) (evs (S.E true)++L1.map λ m=>(m,t)) t cu') :
  Law M' b A (eh (eh {S with cu:=cu'} false t g0 rows0) true t g1 rows1) G t:=by
 have l0:=c0.lt (h.pw false);have l1:=c1.lt (h.pw true);rw[h.ct] at l1;have e0:pms ((S.P false).filter λ p=>!due (S.ct false) t p.m)=(pms (S.P false)).filter λ m=>!due (S.ct false) t m:=by rw[List.filter_map];rfl
 have e1:pms ((S.P true).filter λ p=>!due (S.ct true) t p.m)=(pms (S.P true)).filter λ m=>!due (S.ct false) t m:=by rw[List.filter_map,h.ct];rfl
 have e2:evs (S.E false++rows0)=evs (S.E false)++(rows0.map (·.m)).map λ m=>(m,t):=by rw[<- l0.2.2];exact List.map_append
 have e3:evs (S.E true++rows1)=evs (S.E true)++(rows1.map (·.m)).map λ m=>(m,t):=by rw[<- l1.2.2];exact List.map_append
 refine⟨wo,?_,h.a,h.ct,h.b1,h.ha,h.yk,h.yb,h.bl,h.bl2,h.bll,h.nm,λ k=>?_,λ m hm=>?_,h.fz⟩
 ·show Iv G (pms ((S.P false).filter λ p=>!due (S.ct false) t p.m)) (pms ((S.P true).filter λ p=>!due (S.ct true) t p.m)) (evs (S.E false++rows0)) (evs (S.E true++rows1)) t cu';rw[e0,e1,e2,e3];exact iv _ _ l0.1 l0.2.1 l1.1 l1.2.1
 ·cases k with
  | false=>exact rE c0 (h.sz false)
  | true=>exact rE c1 (h.sz true)
 ·have hm':m∈pms ((S.P false).filter λ p=>!due (S.ct false) t p.m):=hm;rw[e0] at hm';have:=h.du m (List.mem_filter.mp hm').1;omega
end
abbrev adt:TSd:=
 bS (dW (dOp cU (ak 2) (bR aC (af (ak 1) (af (dCB iV (af (ak 2) (aG))) (aG))))) (gN 12)) <|
    jN (ak 4) (ak 12) (bR bq (af (ak 1) (af (ak 3) (af (ak 12) (af (si (ak 4) (ak 12) (dC (.d (.bool false)))) (aG))))))
section
variable {A:Ad}{S S':St}{M M':MH}{b:Addr}{k:Bool}
theorem zS(K:List Str)(f:Str->Bool):cy (cells A S) .Y (A.Y,.dic (kf K (bW f)))=cells A {S with yk:=K,yb:=f}:=by
 funext d;cases d<;>simp[cy,cells]
theorem zX(L:List Msg):cy (cells A S) .B (A.B,.lst (L.map λ m=>.d (kyD m)))=cells A {S with bl:=L}:=by
 funext d;cases d<;>simp[cy,cells]
theorem zV(c:List (List Str)):cy (cells A S) .U (A.U,.dic (cuF 1 c))=cells A {S with cu:=c}:=by
 funext d;cases d<;>simp[cy,cells]
theorem aaC(L:List Pm):cy (cells A S) (.g k) (S.g k,pmW L)=cells A {S with P:=cA S.P k L}:=by
 funext d;cases d with
 | g j=>by_cases e:j=k<;>simp[cy,cells,cA,e]
 | _=>simp[cy,cells]
theorem adB{M M':MH}{b:Addr}(bg:Bag M b)(f:∀ q y,q≠b->M q=some y->M' q=some y):Tp M M':=λ q ws e=>f q _ (λ z=>by
 cases bg with
 | mk _ _ _ _ h _=>rw[z,h] at e;cases e) e
theorem Wo.frame(wo:Wo M b A S)(bg:Bag M' b)(f:∀ q y,q≠b->M q=some y->M' q=some y):Wo M' b A S:=
 ⟨wo.wd.frame bg f,λ k p hp=>(wo.is k p hp).frame λ q hq=>by
  cases e:M q with
  | none=>exact absurd e ((wo.is k p hp).live q hq)
  | some x=>exact f q x (wo.fr k p hp q hq).1 e,wo.nd,wo.xd,wo.fr,λ k e he=>(wo.rw' k e he).tp (adB wo.wd.bg f)⟩
theorem Wo.ext(wo:Wo M b A S)(x:Ext M M'):Wo M' b A S:=wo.frame (Ext.bag x wo.wd.bg) λ q y _ e=>x q y e
structure Ds(b:Addr)(A:Ad)(S:St)(L:List Addr):Prop where
 b:b ∉ L
 c:∀ {c a o},cells A S c=some (a,o)->a ∉ L
 p:∀ k,∀ p∈S.P k,∀ q∈own p,q ∉ L
theorem Wo.ds(wo:Wo M b A S){L:List Addr}(h:∀ q∈L,M q=none):Ds b A S L:=
 ⟨λ z=>fJ wo.wd.bg (h b z),λ {c a o} e z=>(by have:=wo.wd.at' e;rw[h a z] at this;cases this),λ k p hp q hq z=>(wo.is k p hp).live q hq (h q z)⟩
theorem Wo.chg(wo:Wo M b A S){L:List Addr}(d:Ds b A S L)(f:∀ q,q ∉ L->M' q=M q)(tp:Tp M M'):Wo M' b A S:=
 ⟨wo.wd.same (λ c a o e=>f a (d.c e)) (f b d.b),λ k p hp=>(wo.is k p hp).frame λ q hq=>f q (d.p k p hp q hq),wo.nd,wo.xd,wo.fr,λ k e he=>(wo.rw' k e he).tp tp⟩
theorem Ds.same{L:List Addr}(d:Ds b A S L)(eg:S'.g=S.g)(eP:S'.P=S.P):Ds b A S' L:=
 ⟨d.b,λ {c a o} e=>by obtain⟨o',e'⟩:=jl (S':=S) e eg.symm;exact d.c e',by rw[eP];exact d.p⟩
end
section
variable {A:Ad}{b:Addr}{S:St}{M:MH}{D:Ed}{G:Gh}{T n:Nat}{x0 x9 x10 x11 x12 x13 x14 x15 x16 x17:Option W}
theorem Law.take{M':MH}(h:Law M b A S G T)(bg:Bag M' b)(f:∀ q,q≠b->M' q=M q):Law M' b A S G T:={h with wo:=h.wo.take bg f}
theorem ad8(na:Na A)(h:Law M b A S G T)(K:∀ S' M' x12,Law M' b A S' G T->S'.cu=S.cu->D.nx (fI A b n x0 x9 x10 x11 x12 x13 x14 x15 x16 x17) M'):adt D (fI A b n x0 x9 x10 x11 x12 x13 x14 x15 x16 x17) M:=by
 have sl:=s16;have l1:=na.one;have l4:=na.len;refine⟨_,rfl,_,rfl,_,rfl,_,_,rfl,rfl,rfl,b,_,rfl,h.wo.wd.bg,?_,?_,λ r M1 q0 q1 bg1 f1=>?_⟩
 ·rw[List.length_map];omega
 ·rw[List.length_map];omega
 rw[List.length_map] at q1;obtain⟨z,hz,hx⟩:=ag8 A.N l1 r q0 q1 M1;refine⟨r,_,rfl,hx,rfl,?_⟩;have h1:=h.take bg1 f1;have Wx:=h1.wo.wd;refine⟨_,rfl,_,rfl,_,rfl,_,rfl,.k (Wx.at' (c:=.Y) rfl),_,rfl,_,.k (k:=.inr z) (Wx.at' (c:=.Y) rfl),?_⟩;rw[zc h1.yk.no];refine⟨b,A,S,z,S.yb z,rfl,h1.wo,h1.fz,hz,by omega,h1.a,h1.ct,h1.ha,by rw[h1.yb],λ a' ct' y' M2 ka kc kl wo2=>?_⟩;have lk:=h1.yk.len;refine⟨_,rfl,_,rfl,A.Y,_,.inr z,rfl,wo2.wd.at' (c:=.Y) rfl,rfl,by rw[kU];show S.yk.length<sizeLine;omega,?_⟩;rw[show fX (kf S.yk (bW S.yb)) (.inr z) (.d (.bool y'))=kf (yM S.yk z) (bW (cY S.yb z y')) from adD (g:=λ v:Bool=>W.d (.bool v))];have wo3:=wo2.one (c:=.Y) rfl (o':=.dic (kf (yM S.yk z) (bW (cY S.yb z y')))) (λ ws e=>nomatch e) (zS _ _) rfl rfl rfl;refine K _ _ _ ⟨wo3,h1.iv,ka,kc,h1.b1,kl,h1.yk.set hz y',?_,h1.bl,h1.bl2,h1.bll,h1.nm,h1.sz,h1.du,h1.fz⟩ rfl;show cY S.yb z y'=cY (S.b false) z y';rw[h1.yb]
abbrev agQ:TSd:=cM (eU aq "put" bY (ak 14) (af (ak 12) (af (ak 13) (af (ak 9) (aG)))))
theorem adI{k:Bool}{z:Str}{w:W}{d:PyData}{L:List Addr}{t m:Nat}(wo:Wo M b A S)(hT:Tg M w d L)(ok:okT 7 d=true)(nd:L.Nodup)(ds:Ds b A S L)(hz:z∈A.N)(hl:(S.P k).length<=900)
  (K:∀ (E:List Pm) M',pms E=news (S.a k) (S.b k) z d t m->Wo M' b A {S with P:=cA S.P k (S.P k++E)}->Tg M' w d L->Ds b A {S with P:=cA S.P k (S.P k++E)} L->D.nx (fI A b n x0 (some (.d (.int (t:Nat)))) x10 x11 (some (.d (.str z))) (some w) (some (.m (A.r k))) x15 x16 x17) M') :
  agQ D (fI A b n x0 (some (.d (.int (t:Nat)))) x10 x11 (some (.d (.str z))) (some w) (some (.m (A.r k))) x15 x16 x17) M:=by
 have W:=wo.wd;refine⟨_,rfl,A.r k,_,rfl,W.at' (c:=.r k) rfl,aft (x:=A.x k) (y:=A.y k) (z:=A.z k) (g:=S.g k),_,rfl,_,rfl,_,rfl,A.r k,A.x k,A.y k,A.z k,S.g k,A.N,S.a k,S.b k,S.P k,z,w,d,L,t,m,rfl,hT,ok,nd,ds.c (c:=.g k) rfl,W.at' (c:=.r k) rfl,W.at' (c:=.x k) rfl,W.at' (c:=.y k) rfl,W.at' (c:=.g k) rfl,hz,by omega,λ E M4 eE hE ndE hg4 f4=>?_⟩;have lv:∀ q,M q≠none->q≠S.g k->M4 q=M q:=λ q h1 h2=>by
  cases e:M q with
  | none=>exact absurd e h1
  | some x=>exact f4 q x h2 e
 have cn:∀ {c a o},cells A {S with P:=cA S.P k (S.P k++E)} c=some (a,o)->∃ o',cells A S c=some (a,o'):=λ {c a o} e=>jl e rfl;have W4:Wd M4 b (cells A {S with P:=cA S.P k (S.P k++E)}):=by
  have:=(W.set (c:=.g k) (pmW (S.P k++E)) rfl).ext (M':=M4) λ q o e=>by
   by_cases z:q=S.g k
   ·rw[z,aa] at e;rw[z,hg4];exact e
   ·rw[ab z] at e;exact f4 q o z e
  rw[aaC] at this;exact this
 have mem:∀ j,∀ p∈cA S.P k (S.P k++E) j,p∈S.P j\/(j=k/\p∈E):=λ j p hp=>by
  by_cases e:j=k
  ·subst e;rw[gg] at hp;exact(List.mem_append.mp hp).imp id λ h=>⟨rfl,h⟩
  ·rw[gp e] at hp;exact .inl hp
 have old:∀ j,∀ p∈S.P j,∀ q∈own p,M4 q=M q:=λ j p hp q hq=>lv q ((wo.is j p hp).live q hq) ((wo.fr j p hp q hq).2 (.g k) _ _ rfl).symm;have dje:∀ j,∀ p∈S.P j,∀ e∈E,Dj p e:=λ j p hp e he x hx y hy z=>(wo.is j p hp).live x hx (by rw[z];exact(hE e he).2 y hy);refine K E M4 eE ⟨W4,λ j p hp=>?_,λ j=>?_,λ p hp q hq=>?_,λ j p hp q hq=>?_,λ j e he=>(wo.rw' j e he).tp (Tp.of (W.at' (c:=.g k) rfl) (λ ws e=>nomatch e) f4)⟩ (hT.frame λ q hq=>lv q (hT.live q hq) λ e=>ds.c (c:=.g k) rfl (e ▸ hq)) ⟨ds.b,λ {c a o} e=>by obtain⟨o',e'⟩:=cn e;exact ds.c e',λ j p hp q hq zz=>?_⟩
 ·rcases mem j p hp with h | ⟨_,h⟩
  ·exact(wo.is j p h).frame (old j p h)
  ·exact(hE p h).1
 ·show((cA S.P k (S.P k++E) j).flatMap own).Nodup
  by_cases e:j=k
  ·subst e;rw[gg,List.flatMap_append];refine List.nodup_append.mpr ⟨wo.nd j,ndE,λ a ha c hc e=>?_⟩;obtain⟨p,hp,ha⟩:=List.mem_flatMap.mp ha;obtain⟨e',he',hc⟩:=List.mem_flatMap.mp hc;exact dje j p hp e' he' a ha c hc e
  ·rw[gp e];exact wo.nd j
 ·rcases mem false p hp with h | ⟨e,h⟩<;>rcases mem true q hq with h' | ⟨e',h'⟩
  ·exact wo.xd p h q h'
  ·exact dje _ p h q h'
  ·exact(dje _ q h' p h).symm
  ·rw[<- e] at e';cases e'
 ·rcases mem j p hp with h | ⟨_,h⟩
  ·exact⟨(wo.fr j p h q hq).1,λ c a o e=>by obtain⟨o',e'⟩:=cn e;exact(wo.fr j p h q hq).2 c a o' e'⟩
  ·have q0:=(hE p h).2 q hq;refine⟨λ e=>fJ W.bg (by rw[<- e];exact q0),λ c a o e e2=>?_⟩;obtain⟨o',e'⟩:=cn e;have:=W.at' e';rw[e2,q0] at this;cases this
 ·rcases mem j p hp with h | ⟨_,h⟩
  ·exact ds.p j p h q hq zz
  ·exact hT.live q zz ((hE p h).2 q hq)
abbrev afV:TSd:=
 bS (dH (ip (cw (ak 3)) (gN 14)
     agQ)) <|
    cM (bR aH (af (ak 13) (aG)))
theorem afM{z:Str}{w:W}{d:PyData}{L:List Addr}{t m:Nat}(wo:Wo M b A S)(hf:S.fz=false)(hT:Tg M w d L)(ok:okT 7 d=true)(nd:L.Nodup)(ds:Ds b A S L)(hz:z∈A.N)(hl:∀ k,(S.P k).length<=900)
  (K:∀ (E0 E1:List Pm) M' x14,pms E0=news (S.a false) (S.b false) z d t m->pms E1=news (S.a true) (S.b true) z d t m->Wo M' b A {S with P:=cA (cA S.P false (S.P false++E0)) true (S.P true++E1)}->D.nx (fI A b n x0 (some (.d (.int (t:Nat)))) x10 x11 (some (.d (.str z))) (some w) x14 x15 x16 x17) M') :
  afV D (fI A b n x0 (some (.d (.int (t:Nat)))) x10 x11 (some (.d (.str z))) (some w) x14 x15 x16 x17) M:=by
 have hR:cells A S .R=some (A.R,.lst (rlW A)):=by simp[cells,hf]
 have wF:Wo (ax M A.R (.flst (rlW A))) b A {S with fz:=true}:=wo.one hR (λ ws e=>nomatch e) (hZ true) rfl rfl rfl;have TF:=hT.frame (M':=ax M A.R (.flst (rlW A))) λ q hq=>ab λ e=>ds.c hR (e ▸ hq);have dF:Ds b A {S with fz:=true} L:=ds.same rfl rfl;refine⟨A.R,_,wo.wd.at' hR,_,rfl,A.R,_,rfl,aa,λ j τ M'=>(∃ x14,τ=fI A b n x0 (some (.d (.int (t:Nat)))) x10 x11 (some (.d (.str z))) (some w) x14 x15 x16 x17)/\Tg M' w d L/\((j=0/\Wo M' b A {S with fz:=true}/\Ds b A {S with fz:=true} L)\/(j=1/\∃ E0,pms E0=news (S.a false) (S.b false) z d t m/\Wo M' b A {S with fz:=true,P:=cA S.P false (S.P false++E0)}/\Ds b A {S with fz:=true,P:=cA S.P false (S.P false++E0)} L)\/(j=2/\∃ E0 E1,pms E0=news (S.a false) (S.b false) z d t m/\pms E1=news (S.a true) (S.b true) z d t m/\Wo M' b A {S with fz:=true,P:=cA (cA S.P false (S.P false++E0)) true (S.P true++E1)}/\Ds b A {S with fz:=true,P:=cA (cA S.P false (S.P false++E0)) true (S.P true++E1)} L)),⟨⟨_,rfl⟩,TF,.inl ⟨rfl,wF,dF⟩⟩,?_,?_⟩
 ·rintro j w' τ M1 hw ⟨⟨y14,rfl⟩,T1,h⟩;obtain⟨k,hj,rfl⟩:=aaI hw;rcases h with ⟨rfl,w1,d1⟩ | ⟨rfl,E0,e0,w1,d1⟩ | ⟨rfl,_⟩
  ·have ek:k=false:=by cases k;rfl;cases hj
   subst ek;refine adI (k:=false) (m:=m) w1 T1 ok nd d1 hz (hl false) λ E M2 eE w2 T2 d2=>?_;exact⟨⟨_,rfl⟩,T2,.inr (.inl ⟨rfl,E,eE,w2,d2⟩)⟩
  ·have ek:k=true:=by cases k;cases hj;rfl
   subst ek;refine adI (k:=true) (m:=m) w1 T1 ok nd d1 hz (hl true) λ E M2 eE w2 T2 d2=>?_;exact⟨⟨_,rfl⟩,T2,.inr (.inr ⟨rfl,E0,E,e0,eE,w2,d2⟩)⟩
  ·cases k<;>cases hj
 rintro τ M1 ⟨⟨y14,rfl⟩,T1,h⟩;rcases h with ⟨h,_⟩ | ⟨h,_⟩ | ⟨_,E0,E1,e0,e1,w1,d1⟩
 ·cases h
 ·cases h
 have hRF:cells A {S with fz:=true,P:=cA (cA S.P false (S.P false++E0)) true (S.P true++E1)} .R=some (A.R,.flst (rlW A)):=rfl;refine⟨w1.wd.at' hRF,?_⟩;have w2:Wo (ax M1 A.R (.lst (rlW A))) b A {S with fz:=false,P:=cA (cA S.P false (S.P false++E0)) true (S.P true++E1)}:=w1.one hRF (λ ws e=>nomatch e) (hZ false) rfl rfl rfl;have T2:=T1.frame (M':=ax M1 A.R (.lst (rlW A))) λ q hq=>ab λ e=>d1.c hRF (e ▸ hq);have d2:Ds b A {S with fz:=false,P:=cA (cA S.P false (S.P false++E0)) true (S.P true++E1)} L:=d1.same rfl rfl;generalize ax M1 A.R (.lst (rlW A))=M3 at w2 T2;refine⟨_,rfl,w,d,L,rfl,T2,ok,nd,λ M4 f4 _ tp4=>K E0 E1 M4 y14 e0 e1 ?_⟩;have w4:=w2.chg d2 f4 tp4;have eF:({S with fz:=false,P:=cA (cA S.P false (S.P false++E0)) true (S.P true++E1)}:St)={S with P:=cA (cA S.P false (S.P false++E0)) true (S.P true++E1)}:=by rw[<- hf]
 rw[eF] at w4;exact w4
end
abbrev ac3:TSd:=
 bS (dW (dOp cU (ak 2) (bR aC (af (ak 1) (af (dCB iV (af (ak 2) (aG))) (aG))))) (gN 12)) <|
    bS (dW (dOp dG (ak 8) (dI 1)) (gN 8)) <|
    bS (dW (ig (af (dS "m") (af (ak 8) (af (bR cv (af (ak 1) (af (ak 8) (aG)))) (aG))))) (gN 13)) <|
    bS (dIf (bI (si (ak 4) (ak 12) (dC (.d (.bool false)))))
     (cM (d9 (ak 6) (ach (af (ak 12) (af (dCB lD (af (ak 13) (aG))) (aG))))))
     (cN)) <|
    afV
theorem qQ(lt:Str->Nat)(db:Str->Bool)(a:Str)(k:PyData)(t n:Nat):(news lt db a k t n).length<=2:=by
 unfold news
 split
 ·exact Nat.le_refl 2
 ·exact(show 1<=2 by decide)
theorem acH{lt:Str->Nat}{db:Str->Bool}{a:Str}{k:PyData}{t n:Nat}(h2:lt a<=2):∀ m∈news lt db a k t n,m.d<=t+4:=λ m hm=>by
 unfold news at hm
 split at hm
 ·simp only[List.mem_cons,List.not_mem_nil,or_false] at hm;rcases hm with rfl | rfl
  ·show t+1+lt a<=t+4;omega
  ·show t+1+lt a+1<=t+4;omega
 ·rw[List.mem_singleton.mp hm];show t+1+lt a<=t+4;omega
section
variable {A:Ad}{b:Addr}{S:St}{M:MH}{D:Ed}{G:Gh}{T n:Nat}{x0 x9 x10 x11 x12 x13 x14 x15 x16 x17:Option W}
theorem aeG(na:Na A)(h:Law M b A S G T)(h1:1<=T)(h9:T<=900)(hn:G.n<48)
  (K:∀ S' G' M' x12 x13 x14,Law M' b A S' G' T->G'.n=G.n+1->S'.cu=S.cu->D.nx (fI A b (G.n+1) x0 (some (.d (.int (T:Nat)))) x10 x11 x12 x13 x14 x15 x16 x17) M') :
  ac3 D (fI A b G.n x0 (some (.d (.int (T:Nat)))) x10 x11 x12 x13 x14 x15 x16 x17) M:=by
 have sl:=s16;have l1:=na.one;have l4:=na.len;refine⟨_,rfl,_,rfl,_,rfl,_,_,rfl,rfl,rfl,b,_,rfl,h.wo.wd.bg,?_,?_,λ r M1 q0 q1 bg1 f1=>?_⟩
 ·rw[List.length_map];omega
 ·rw[List.length_map];omega
 rw[List.length_map] at q1;obtain⟨z,hz,hx⟩:=ag8 A.N l1 r q0 q1 M1;refine⟨r,_,rfl,hx,rfl,?_⟩;have h1':=h.take bg1 f1;have wo1:=h1'.wo;refine⟨_,rfl,.inl ⟨_,_,rfl,rfl,?_⟩⟩;have e1:((G.n:Nat):Int)+1=((G.n+1:Nat):Int):=by omega
 dsimp only;rw[e1];refine⟨_,rfl,_,rfl,_,rfl,b,G.n+1,rfl,by omega,bg1,λ w d A0 M2 T2 nd fresh hd bg2 f2=>⟨(show 3<=sizeLine by omega),λ t1 ht1=>?_⟩⟩;obtain⟨k1,k2,k3,k4⟩:=yC (ng (k:=G.n+1) (by omega) hd);have x3:Ext M2 (ax M2 t1 (.tup [.d (.str "m"),.d (.int ((G.n+1:Nat):Int)),w])):=Ext.new ht1;have T3:Tg (ax M2 t1 (.tup [.d (.str "m"),.d (.int ((G.n+1:Nat):Int)),w])) (.m t1) (outer (G.n+1) d) (t1::A0):=by have:=Tgs.cons (.d (M:=ax M2 t1 (.tup [.d (.str "m"),.d (.int ((G.n+1:Nat):Int)),w])) (.str "m") rfl) (Tgs.cons (.d (.int ((G.n+1:Nat):Int)) rfl) (Tgs.cons (T2.ext x3) .nil));simp only[List.nil_append,List.append_nil] at this;exact .t aa this
 have nd3:(t1::A0).Nodup:=List.nodup_cons.mpr ⟨λ q=>T2.live t1 q ht1,nd⟩;have fr3:∀ q∈t1::A0,M1 q=none:=λ q hq=>by
  rcases List.mem_cons.mp hq with e | hq
  ·cases e1:M1 t1 with
   | none=>rw[e];exact e1
   | some y =>
    exfalso
    by_cases eb:t1=b
    ·exact fJ bg2 (by rw[<- eb];exact ht1)
    ·have:=f2 t1 y eb e1;rw[ht1] at this;cases this
  ·exact fresh q hq
 have ds:Ds b A S (t1::A0):=wo1.ds fr3;have wo3:Wo (ax M2 t1 (.tup [.d (.str "m"),.d (.int ((G.n+1:Nat):Int)),w])) b A S:=(wo1.frame bg2 f2).ext x3;generalize ax M2 t1 _=M3 at T3 wo3;clear x3 T2 bg2 f2 fr3 ht1;have Wx:=wo3.wd;have hP:∀ k,(S.P k).length<=900:=λ k=>by have:=h.sz k;omega
 have fin:∀ (bl:List Msg) (M4:MH),Tg M4 (.m t1) (outer (G.n+1) d) (t1::A0)->Wo M4 b A {S with bl:=bl} ->
   (∀ m∈bl,m∈S.bl\/(m=⟨0,z,outer (G.n+1) d,G.n+1⟩/\S.b false z=true))->(∀ m∈S.bl,m∈bl)->(S.b false z=true->(⟨0,z,outer (G.n+1) d,G.n+1⟩:Msg)∈bl)->bl.length<=G.n+1 ->
   afV D (fI A b (G.n+1) x0 (some (.d (.int (T:Nat)))) x10 x11 (some (.d (.str z))) (some (.m t1)) x14 x15 x16 x17) M4:=by
  intro bl M4 T4 wo4 b1 b2 b3 b4;refine afM (m:=G.n+1) wo4 h.fz T4 k1 nd3 (ds.same rfl rfl) hz hP λ E0 E1 M5 x14 e0 e1 wo5=>?_;have e0':pms E0=news (S.a false) (S.b false) z (outer (G.n+1) d) T (G.n+1):=e0;have e1':pms E1=news (S.a false) (λ _=>false) z (outer (G.n+1) d) T (G.n+1):=by rw[<- h.a,<- h.b1];exact e1
  refine K _ (kh G (T+1+S.a false z) z (outer (G.n+1) d) (S.b false z)) M5 _ _ _ ⟨wo5,?_,h.a,h.ct,h.b1,h.ha,h.yk,h.yb,λ m hm=>?_,λ j hj1 hj2 hb=>?_,b4,λ j hj1 hj2=>?_,λ k=>?_,λ m hm=>?_,h.fz⟩ rfl rfl
  ·have:=yu h.iv h1 (S.a false) (S.b false) z (outer (G.n+1) d);rw[<- e0',<- e1'] at this;show Iv _ (pms (S.P false++E0)) (pms (S.P true++E1)) (evs (S.E false)) (evs (S.E true)) T S.cu;rw[show pms (S.P false++E0)=pms (S.P false)++pms E0 from List.map_append,show pms (S.P true++E1)=pms (S.P true)++pms E1 from List.map_append];exact this
  ·rcases b1 m hm with hm | ⟨rfl,hb⟩
   ·obtain⟨a1,a2,a3,a4,a5⟩:=h.bl m hm;have l:m.n<G.n+1:=by omega
    exact⟨a1,Nat.le_succ_of_le a2,by rw[a3];exact(cK l).symm,by rw[a4];exact(cK l).symm,by rw[<- a5];exact cK l⟩
   ·exact⟨Nat.le_add_left 1 _,Nat.le_refl _,bF.symm,bF.symm,by rw[<- hb];exact bF⟩
  ·by_cases e:j=G.n+1
   ·subst e;have hb':S.b false z=true:=by rw[<- hb];exact bF.symm
    exact⟨_,b3 hb',rfl⟩
   ·have l:j<G.n+1:=by have:j<=G.n+1:=hj2;omega
    obtain⟨m,a1,a2⟩:=h.bl2 j hj1 (by omega) (by rw[<- hb];exact(cK l).symm);exact⟨m,b2 m a1,a2⟩
  ·by_cases e:j=G.n+1
   ·subst e;rw[show(kh G (T+1+S.a false z) z (outer (G.n+1) d) (S.b false z)).zn (G.n+1)=z from bF,show(kh G (T+1+S.a false z) z (outer (G.n+1) d) (S.b false z)).kn (G.n+1)=outer (G.n+1) d from bF];exact⟨hz,ng (by omega) hd⟩
   ·have l:j<G.n+1:=by have:j<=G.n+1:=hj2;omega
    rw[show(kh G (T+1+S.a false z) z (outer (G.n+1) d) (S.b false z)).zn j=G.zn j from cK l,show(kh G (T+1+S.a false z) z (outer (G.n+1) d) (S.b false z)).kn j=G.kn j from cK l];exact h.nm j hj1 (by omega)
  ·have q0:=congrArg List.length e0';have q1:=congrArg List.length e1';have r0:=qQ (S.a false) (S.b false) z (outer (G.n+1) d) T (G.n+1);have r1:=qQ (S.a false) (λ _=>false) z (outer (G.n+1) d) T (G.n+1);have s0:=h.sz k;rw[List.length_map] at q0 q1;cases k with
   | false =>
    show(S.P false++E0).length+(S.E false).length<=2 * (G.n+1);rw[List.length_append];omega
   | true =>
    show(S.P true++E1).length+(S.E true).length<=2 * (G.n+1);rw[List.length_append];omega
  ·have hm':m∈pms (S.P false++E0):=hm;rw[show pms (S.P false++E0)=pms (S.P false)++pms E0 from List.map_append,e0'] at hm';rcases List.mem_append.mp hm' with hm' | hm'
   ·exact h.du m hm'
   ·exact acH (h.ha z) m hm'
 refine⟨_,rfl,.k (Wx.at' (c:=.Y) rfl),_,rfl,_,.k (k:=.inr z) (Wx.at' (c:=.Y) rfl),?_⟩;rw[zc h.yk.no];refine⟨_,rfl,fe (λ hb=>?_) (λ hb=>?_)⟩
 ·refine⟨_,rfl,A.B,_,rfl,Wx.at' (c:=.B) rfl,_,rfl,_,rfl,_,_,_,rfl,T3.th,k2,_,rfl,(show 2<=sizeLine by omega),_,Wx.at' (c:=.B) rfl,by have:=h.bll;rw[List.length_map];omega,?_⟩;have e5:(S.bl.map λ m:Msg=>W.d (kyD m))++[.d (.tuple [.str z,.str (outer (G.n+1) d).shown])]=(S.bl++[(⟨0,z,outer (G.n+1) d,G.n+1⟩:Msg)]).map λ m=>.d (kyD m):=by rw[List.map_append];rfl
  rw[e5];refine fin _ _ (T3.frame λ q hq=>ab λ e=>ds.c (c:=.B) rfl (e ▸ hq)) (wo3.one (c:=.B) rfl (λ ws e=>nomatch e) (zX _) rfl rfl rfl) (λ m hm=>?_) (λ m hm=>List.mem_append_left _ hm) (λ _=>List.mem_append_right _ List.mem_cons_self) ?_
  ·rcases List.mem_append.mp hm with hm | hm
   ·exact .inl hm
   ·exact .inr ⟨List.mem_singleton.mp hm,by rw[<- h.yb];exact hb⟩
  ·have:=h.bll;rw[List.length_append];show S.bl.length+1<=_;omega
 ·refine fin S.bl M3 T3 wo3 (λ m hm=>.inl hm) (λ m hm=>hm) (λ z1=>?_) (Nat.le_succ_of_le h.bll);rw[h.yb,z1] at hb;cases hb
def af1(ct:Str->Bool):W->Option PyData
 | .d (.str z)=>if ct z=true then some (.str z) else none
 | _=>none
theorem qY(ct:Str->Bool):∀ N:List Str,((N.map PyData.str).map W.d).filterMap (af1 ct)=(N.filter ct).map PyData.str
 | []=>rfl
 | z::N=>by
  rw[List.map_cons,List.map_cons,List.filterMap_cons,qY ct N,show af1 ct (.d (.str z))=if ct z=true then some (.str z) else none from rfl]
  by_cases h:ct z=true
  ·rw[if_pos h,List.filter_cons_of_pos h];rfl
  ·rw[if_neg h,List.filter_cons_of_neg h]
abbrev acC:TSd:=
 bS (jN (ak 5) (ak 9) (dLC (iA (ak 2)) (gN 0) (bI (eU aq "is_cut" aZ (dOp cU (ak 1) (dI 0)) (af (ak 0) (aG)))) (ak 0) 1 [3])) <|
 bS agf <|
 bS (ip (lZ (af (bR aC (af (ak 1) (af (dI 4) (aG)))) (aG))) (gN 11) adt) <|
 ip (lZ (af (bR aC (af (ak 1) (af (dI 3) (aG)))) (aG))) (gN 11) ac3
theorem abn(na:Na A)(h:Law M b A S G T)(hl:S.cu.length=T)(hT:T<=30)(hn:G.n+2<=48)
  (K:∀ S' G' M' x10 x11 x12 x13 x14,Law M' b A S' G' (T+1)->S'.cu.length=T+1->G'.n<=G.n+2->D.nx (fI A b G'.n x0 (some (.d (.int ((T+1:Nat):Int)))) x10 x11 x12 x13 x14 x15 x16 x17) M') :
  acC D (fI A b G.n x0 (some (.d (.int ((T+1:Nat):Int)))) x10 x11 x12 x13 x14 x15 x16 x17) M:=by
 have sl:=s16;have l4:=na.len;have Wx:=h.wo.wd;have hR:M A.R=some (.lst (rlW A)):=Wx.at' (c:=.R) (by simp[cells,h.fz]);refine⟨_,rfl,_,rfl,?_⟩;refine tK (af1 (S.ct false)) (by rw[List.length_map,List.length_map];omega) (λ w hw P' hp=>?_) ?_
 ·rw[List.map_map] at hw;obtain⟨z,hz,rfl⟩:=List.mem_map.mp hw;have hp':P' (if S.ct false z=true then some (PyData.str z) else none):=hp;refine⟨_,rfl,0,_,rfl,by simp only[ixW,hR];rfl,rfl,A.r false,_,rfl,Wx.at' (c:=.r false) rfl,agq (x:=A.x false) (y:=A.y false) (z:=A.z false) (g:=S.g false),_,rfl,A.r false,A.x false,A.y false,A.z false,S.g false,A.N,S.ct false,z,rfl,Wx.at' (c:=.r false) rfl,Wx.at' (c:=.z false) rfl,hz,_,rfl,fe (λ hb=>?_) (λ hb=>?_)⟩
  ·rw[if_pos hb] at hp';exact⟨_,rfl,_,rfl,rfl,hp'⟩
  ·rw[if_neg (by rw[hb];decide)] at hp';exact⟨rfl,hp'⟩
 rw[qY];refine⟨_,rfl,_,rfl,A.U,_,.inl ((T+1:Nat):Int),rfl,Wx.at' (c:=.U) rfl,rfl,by rw[uq];omega,?_⟩;have ep:fX (cuF 1 S.cu) (.inl ((T+1:Nat):Int)) (.d (.list ((A.N.filter (S.ct false)).map PyData.str)))=cuF 1 (S.cu++[A.N.filter (S.ct false)]):=by rw[show T+1=1+S.cu.length by omega];exact abG _ _
 rw[ep];have wo1:Wo (ax M A.U (.dic (cuF 1 (S.cu++[A.N.filter (S.ct false)])))) b A {S with cu:=S.cu++[A.N.filter (S.ct false)]}:=h.wo.one (c:=.U) rfl (λ ws e=>nomatch e) (zV _) rfl rfl rfl;refine acW wo1 h.fz h.hz (λ k=>by have:=h.sz k;show(S.P k).length+(S.E k).length<=900;omega) λ g0 g1 rows0 rows1 M2 y10 c0 c1 wo2=>?_;have h2:=h.told c0 c1 wo2 (by omega) λ L0 L1 q0 s0 q1 s1=>vK h.iv hl (λ m hm hc=>List.mem_filter.mpr ⟨by obtain⟨p,hp,rfl⟩:=List.mem_map.mp hm;exact(h.hz false p hp).1,hc⟩) q0 s0 q1 s1
 have hl2:(eh (eh {S with cu:=S.cu++[A.N.filter (S.ct false)]} false (T+1) g0 rows0) true (T+1) g1 rows1).cu.length=T+1:=by show(S.cu++[_]).length=_;rw[List.length_append,hl];rfl
 generalize eh (eh {S with cu:=S.cu++[A.N.filter (S.ct false)]} false (T+1) g0 rows0) true (T+1) g1 rows1=S2 at h2 hl2;clear wo2 c0 c1 wo1;refine⟨_,rfl,b,4,rfl,h2.wo.wd.bg,by decide,by decide,λ r4 M4 r40 r41 bg4 f4=>⟨_,rfl,by omega,by omega,?_⟩⟩;have h4:=h2.take bg4 f4;refine⟨λ j τ M'=>∃ S' y11 y12,Law M' b A S' G (T+1)/\S'.cu=S2.cu/\τ=fI A b G.n x0 (some (.d (.int ((T+1:Nat):Int)))) y10 y11 y12 x13 x14 x15 x16 x17,⟨_,_,_,h4,rfl,rfl⟩,?_,?_⟩
 ·rintro j w τ M5 hw ⟨S5,y11,y12,h5,e5,rfl⟩;refine ad8 na h5 λ S6 M6 z12 h6 e6=>⟨S6,_,z12,h6,by rw[e6,e5],rfl⟩
 rintro τ M5 ⟨S5,y11,y12,h5,e5,rfl⟩;refine⟨_,rfl,b,3,rfl,h5.wo.wd.bg,by decide,by decide,λ r3 M6 r30 r31 bg6 f6=>⟨_,rfl,by omega,by omega,?_⟩⟩;have h6:=h5.take bg6 f6;refine⟨λ j τ M'=>j<=2/\∃ S' G' y11 y12 y13 y14,Law M' b A S' G' (T+1)/\G'.n<=G.n+j/\S'.cu=S2.cu/\τ=fI A b G'.n x0 (some (.d (.int ((T+1:Nat):Int)))) y10 y11 y12 y13 y14 x15 x16 x17,⟨by omega,_,G,_,_,_,_,h6,by omega,e5,rfl⟩,?_,?_⟩
 ·rintro j w τ M7 hw ⟨hj,S7,G7,z11,z12,z13,z14,h7,g7,e7,rfl⟩;obtain⟨hj',rfl⟩:=qG hw;refine aeG na h7 (by omega) (by omega) (by omega) λ S8 G8 M8 u12 u13 u14 h8 g8 e8=>⟨by omega,S8,G8,_,u12,u13,u14,h8,by omega,by rw[e8,e7],by rw[g8]⟩
 ·rintro τ M7 ⟨hj,S7,G7,z11,z12,z13,z14,h7,g7,e7,rfl⟩;exact K S7 G7 M7 _ _ _ _ _ h7 (by rw[e7];exact hl2) (by omega)
end
abbrev adM:TSd:=dH (ip (cw (ak 3)) (gN 14) (cM (eU aq "join" aL (ak 14) (af (ak 12) (aG)))))
section
variable {A:Ad}{b:Addr}{S:St}{M:MH}{D:Ed}{G:Gh}{T n:Nat}{x0 x9 x10 x11 x12 x13 x14 x15 x16 x17:Option W}
theorem aeS{z:Str}(na:Na A)(h:Law M b A S G T)(hz:z∈A.N)(K:∀ M' x14,Law M' b A {S with ct:=λ k=>cY (S.ct k) z false} G T->D.nx (fI A b n x0 x9 x10 x11 (some (.d (.str z))) x13 x14 x15 x16 x17) M') :
  adM D (fI A b n x0 x9 x10 x11 (some (.d (.str z))) x13 x14 x15 x16 x17) M:=by
 have l4:=na.len;have wo:=h.wo;have hR:cells A S .R=some (A.R,.lst (rlW A)):=by simp[cells,h.fz]
 have wF:Wo (ax M A.R (.flst (rlW A))) b A {S with fz:=true}:=wo.one hR (λ ws e=>nomatch e) (hZ true) rfl rfl rfl;refine⟨A.R,_,wo.wd.at' hR,_,rfl,A.R,_,rfl,aa,λ j τ M'=>∃ x14,Wo M' b A {S with ct:=stp S.ct (λ k=>cY (S.ct k) z false) j,fz:=true}/\τ=fI A b n x0 x9 x10 x11 (some (.d (.str z))) x13 x14 x15 x16 x17,⟨_,wF,rfl⟩,?_,?_⟩
 ·rintro j w τ M' hw ⟨y14,w1,rfl⟩;obtain⟨k,hj,rfl⟩:=aaI hw;have nc:stp S.ct (λ k=>cY (S.ct k) z false) j k=S.ct k:=uL _ _ (Nat.le_of_eq hj);have Wx:=w1.wd;have hzz:=Wx.at' (c:=.z k) rfl;dsimp only at hzz;rw[nc] at hzz;have cz:cells A {S with ct:=stp S.ct (λ k=>cY (S.ct k) z false) j,fz:=true} (.z k)=some (A.z k,.dic (kf A.N (bW (stp S.ct (λ k=>cY (S.ct k) z false) j k)))):=rfl;refine⟨_,rfl,A.r k,_,rfl,Wx.at' (c:=.r k) rfl,aer (x:=A.x k) (y:=A.y k) (z:=A.z k) (g:=S.g k),_,rfl,A.r k,A.x k,A.y k,A.z k,S.g k,A.N,S.ct k,z,rfl,Wx.at' (c:=.r k) rfl,hzz,hz,by omega,?_⟩;have h2:=w1.one cz (o':=.dic (kf A.N (bW (cY (S.ct k) z false)))) (λ ws e=>nomatch e) (pW _) rfl rfl rfl;refine⟨_,?_,rfl⟩;rw[<- lY _ _ hj];exact h2
 rintro τ M' ⟨y14,w1,rfl⟩;rw[show(rlW A).length=0+2 from rfl,qc] at w1;have hRF:cells A {S with ct:=λ k=>cY (S.ct k) z false,fz:=true} .R=some (A.R,.flst (rlW A)):=rfl;refine⟨w1.wd.at' hRF,?_⟩;have w2:Wo (ax M' A.R (.lst (rlW A))) b A {S with ct:=λ k=>cY (S.ct k) z false,fz:=false}:=w1.one hRF (λ ws e=>nomatch e) (hZ false) rfl rfl rfl;have eF:({S with ct:=λ k=>cY (S.ct k) z false,fz:=false}:St)={S with ct:=λ k=>cY (S.ct k) z false}:=by rw[<- h.fz]
 rw[eF] at w2;exact K _ _ ⟨w2,h.iv,h.a,by show cY (S.ct true) z false=cY (S.ct false) z false;rw[h.ct],h.b1,h.ha,h.yk,h.yb,h.bl,h.bl2,h.bll,h.nm,h.sz,h.du,h.fz⟩
abbrev ahu:TSd:=ip (iA (ak 2)) (gN 12) adM
theorem agh(na:Na A)(h:Law M b A S G T)(K:∀ S' M' x12 x14,Law M' b A S' G T->(∀ z∈A.N,S'.ct false z=false)->D.nx (fI A b n x0 x9 x10 x11 x12 x13 x14 x15 x16 x17) M') :
  ahu D (fI A b n x0 x9 x10 x11 x12 x13 x14 x15 x16 x17) M:=by
 refine⟨_,rfl,_,rfl,λ i τ M'=>∃ S' y12 y14,Law M' b A S' G T/\(∀ z∈A.N.take i,S'.ct false z=false)/\τ=fI A b n x0 x9 x10 x11 y12 x13 y14 x15 x16 x17,⟨S,_,_,h,λ z hz=>by simp at hz,rfl⟩,?_,?_⟩
 ·rintro i w τ M1 hw ⟨S1,y12,y14,h1,hc,rfl⟩;rw[List.map_map] at hw;obtain⟨z,hi,rfl⟩:=gM hw;refine aeS na h1 (List.mem_of_getElem? hi) λ M2 z14 h2=>⟨_,_,z14,h2,λ y hy=>?_,rfl⟩;show cY (S1.ct false) z false y=false
  by_cases e:y=z
  ·rw[e];exact qj
  ·rw[mV e];rw[List.take_succ,hi] at hy;rcases List.mem_append.mp hy with hy | hy
   ·exact hc y hy
   ·exact absurd (by simpa using hy) e
 ·rintro τ M1 ⟨S1,y12,y14,h1,hc,rfl⟩;have e:A.N.take ((A.N.map PyData.str).map W.d).length=A.N:=List.take_of_length_le (by simp);rw[e] at hc;exact K S1 M1 _ _ h1 hc
abbrev ahg:TSd:=ip (ux (af (dI 200) (af (dI 204) (aG)))) (gN 9) agf
theorem afJ(na:Na A)(h:Law M b A S G T)(hT:T<=30)(hn:G.n<=48)(hc:∀ z∈A.N,S.ct false z=false)
  (K:∀ S' M' x9 x10,Law M' b A S' G 203->S'.P false=[]->D.nx (fI A b n x0 x9 x10 x11 x12 x13 x14 x15 x16 x17) M') :
  ahg D (fI A b n x0 x9 x10 x11 x12 x13 x14 x15 x16 x17) M:=by
 refine⟨200,204,rfl,⟨by decide,by decide,by decide,by decide⟩,λ i τ M'=>∃ S' T' y9 y10,Law M' b A S' G T'/\T'<200+i/\(i=4->T'=203)/\(∀ m∈pms (S'.P false),due (S'.ct false) (200+i) m=true)/\(0<i->S'.P false=[])/\τ=fI A b n x0 y9 y10 x11 x12 x13 x14 x15 x16 x17,⟨S,T,_,_,h,by omega,by omega,λ m hm=>?_,by omega,rfl⟩,?_,?_⟩
 ·have h1:=h.du m hm;have h2:m.z∈A.N:=by obtain⟨p,hp,rfl⟩:=List.mem_map.mp hm;exact(h.hz false p hp).1
  exact sC.mpr ⟨by omega,hc _ h2⟩
 ·rintro i w τ M1 hw ⟨S1,T1,y9,y10,h1,l1,_,d1,p1,rfl⟩;obtain⟨hi,rfl⟩:=qG hw;have e1:(200:Int)+(i:Int)=((200+i:Nat):Int):=by omega
  rw[e1];refine acW h1.wo h1.fz h1.hz (λ k=>by have:=h1.sz k;omega) λ g0 g1 rows0 rows1 M2 z10 c0 c1 wo2=>?_;have h2:=h1.told (cu':=S1.cu) c0 c1 wo2 (by omega) λ L0 L1 q0 s0 q1 s1=>wm h1.iv l1 (by omega) d1 q0 s0 q1 s1;have e2:(eh (eh S1 false (200+i) g0 rows0) true (200+i) g1 rows1).P false=[]:=by show(S1.P false).filter _=[];exact List.filter_eq_nil_iff.mpr λ p hp=>by rw[d1 p.m (List.mem_map.mpr ⟨p,hp,rfl⟩)];decide
  refine⟨_,200+i,_,z10,h2,by omega,by omega,λ m hm=>?_,λ _=>e2,rfl⟩;have:m∈pms ((eh (eh S1 false (200+i) g0 rows0) true (200+i) g1 rows1).P false):=hm;rw[e2] at this;cases this
 ·rintro τ M1 ⟨S1,T1,y9,y10,h1,l1,t1,d1,p1,rfl⟩;rw[pH] at t1 p1;have:=t1 rfl;subst this;exact K S1 M1 _ _ h1 (p1 (by decide))
end
abbrev kyN(G:Gh)(n:Nat):List Key:=[.inr (G.zn n),.inr (G.kn n).shown]
abbrev tsW(l:List Nat):W:=.d (.list (l.map λ(t:Nat)=>.int (t:Nat)))
theorem aab{G:Gh}(hn:∀ n,1<=n->n<=G.n->numOf (G.kn n).shown=some n){i j:Nat}(i1:1<=i)(i2:i<=G.n)(j1:1<=j)(j2:j<=G.n)(e:kyN G i=kyN G j):i=j:=by have h1:(G.kn i).shown=(G.kn j).shown:=Sum.inr.inj (List.cons.inj (List.cons.inj e).2).1;have h2:=hn i i1 i2;rw[h1,hn j j1 j2] at h2;exact(Option.some.inj h2).symm
structure Sn(G:Gh)(E:List Ev)(kvs:List (List Key×W)):Prop where
 get:∀ n,1<=n->n<=G.n->dg kvs (kyN G n)=if tsN E n=[] then none else some (tsW (tsN E n))
 keys:∃ K:List Nat,kvs.map (·.1)=K.map (kyN G)/\K.Nodup/\∀ n,n∈K ↔ (1<=n/\n<=G.n/\tsN E n≠[])
theorem wQ{κ α:Type}[DecidableEq κ]{t:List (κ×α)}{k:κ}{v:α}(h:(dg t k).isSome=true):(fX t k v).map (·.1)=t.map (·.1):=by
 unfold fX;rw[if_pos (by rw[ft];exact h),List.map_map];exact List.map_congr_left λ p _=>by
  show(if p.1=k then (p.1,v) else p).1=p.1
  split<;>rfl
theorem xm{κ α:Type}[DecidableEq κ]{t:List (κ×α)}{k:κ}{v:α}(h:dg t k=none):(fX t k v).map (·.1)=t.map (·.1)++[k]:=by
 unfold fX;rw[if_neg (by rw[ft,h];exact Bool.false_ne_true)];simp
theorem Sn.nil(G:Gh):Sn G [] []:=⟨λ n _ _=>rfl,[],rfl,.nil,λ n=>⟨λ h=>(by cases h),λ h=>absurd rfl h.2.2⟩⟩
theorem Sn.step{G:Gh}{E:List Ev}{kvs:List (List Key×W)}(hn:∀ n,1<=n->n<=G.n->numOf (G.kn n).shown=some n)(h:Sn G E kvs){e:Ev}(ge:Gd G e.1):Sn G (E++[e]) (fX kvs (kyN G e.1.n) (tsW (tsN E e.1.n++[e.2]))):=by
 have g0:=h.get e.1.n ge.lo ge.hi;refine⟨λ n n1 n2=>?_,?_⟩
 ·rw[qI,mz]
  by_cases q:n=e.1.n
  ·subst q;rw[if_pos rfl,if_pos rfl,if_neg (by simp)]
  ·rw[if_neg λ z=>q (aab hn n1 n2 ge.lo ge.hi z),if_neg q];exact h.get n n1 n2
 ·obtain⟨K,k1,k2,k3⟩:=h.keys
  by_cases q:tsN E e.1.n=[]
  ·rw[if_pos q] at g0;refine⟨K++[e.1.n],by rw[xm g0,k1,List.map_append];rfl,List.nodup_append.mpr ⟨k2,by simp,λ a ha c hc z=>?_⟩,λ n=>?_⟩
   ·rw[List.mem_singleton.mp hc] at z;subst z;exact((k3 _).mp ha).2.2 q
   ·rw[List.mem_append,List.mem_singleton,k3,mz]
    by_cases z:n=e.1.n
    ·subst z;rw[if_pos rfl];exact⟨λ _=>⟨ge.lo,ge.hi,by simp⟩,λ _=>.inr rfl⟩
    ·rw[if_neg z];exact⟨λ h=>h.resolve_right z,.inl⟩
  ·rw[if_neg q] at g0;refine⟨K,by rw[wQ (by rw[g0];rfl),k1],k2,λ n=>?_⟩;rw[k3,mz]
   by_cases z:n=e.1.n
   ·subst z;rw[if_pos rfl];exact⟨λ h=>⟨h.1,h.2.1,by simp⟩,λ h=>⟨h.1,h.2.1,q⟩⟩
   ·rw[if_neg z]
theorem Sn.len{G:Gh}{E:List Ev}{kvs:List (List Key×W)}(h:Sn G E kvs):kvs.length<=G.n:=by
 obtain⟨K,k1,k2,k3⟩:=h.keys;have e:kvs.length=K.length:=by have:=congrArg List.length k1;rw[List.length_map,List.length_map] at this;exact this
 have:K.length<=((List.range G.n).map (· + 1)).length:=List.Nodup.length_le_of_subset k2 λ n hn=>by obtain⟨a,c,_⟩:=(k3 n).mp hn;exact List.mem_map.mpr ⟨n-1,List.mem_range.mpr (by omega),by omega⟩
 rw[List.length_map,List.length_range] at this;omega
abbrev aho:TSd:=
 ip (jf (dOp cU (ak 7) (dI 0))) (gTM 2 (cD (gN 17) (cD (gN 9) (m8))))
   (bS (uK (ak 16) (ak 17) (ae9 (ve (ak 16) (ak 17) (yv (aG))) (yv (af (ak 9) (aG))))) <|
   dIf (bI (dOp nj (dCB iV (af (qd (ak 16) (ak 17)) (aG))) (dI 1)))
    (cM (d9 (ak 15) (ig (af (ak 17) (af (ak 9) (aG))))))
    (cN))
def Fm(a:Addr)(M M':MH):Prop:=∀ q o,q≠a->M q=some o->M' q=some o
theorem Fm.tp{a:Addr}{M M':MH}{l:List W}(h:Fm a M M')(ha:M a=some (.lst l)):Tp M M':=λ q ws e=>h q _ (λ z=>by rw[z,ha] at e;cases e) e
section
variable {A:Ad}{b:Addr}{S:St}{M M0:MH}{D:Ed}{G:Gh}{T n:Nat}{x0 x9 x10 x11 x12 x13 x14 x15 x16 x17:Option W}
theorem Law.num(h:Law M b A S G T):∀ n,1<=n->n<=G.n->numOf (G.kn n).shown=some n:=λ n h1 h2=>(yC (h.nm n h1 h2).2).2.2.2
theorem agv(h:Law M0 b A S G T)(eP:S.P false=[])(h48:G.n<=48){f s:Addr}(hf0:M0 f=none)(hs0:M0 s=none)(fs:f≠s)(x:Ext M0 M)(hf:M f=some (.lst []))(hs:M s=some (.dct []))
  (K:∀ fl kvs M' x9 x17,Fm (A.A false) M0 M'->M' f=some (rwW fl)->M' s=some (.dct kvs)->(∀ e∈fl,xq M' e)->evs fl=evs (S.E true)->Sn G (evs (S.E false)) kvs->D.nx (fI A b n x0 x9 x10 x11 x12 x13 x14 (some (.m f)) (some (.m s)) x17) M') :
  aho D (fI A b n x0 x9 x10 x11 x12 x13 x14 (some (.m f)) (some (.m s)) x17) M:=by
 have sl:=s16;have Wx:=h.wo.wd;have I:Iv G [] (pms (S.P true)) (evs (S.E false)) (evs (S.E true)) T S.cu:=by have:=h.iv;rw[eP] at this;exact this
 have hA0:M0 (A.A false)=some (rwW (S.E false)):=Wx.at' (c:=.A false) rfl;have lE:(S.E false).length<=96:=by have:=h.sz false;omega
 have fA:f≠A.A false:=λ z=>by rw[z,hA0] at hf0;cases hf0
 have sA:s≠A.A false:=λ z=>by rw[z,hA0] at hs0;cases hs0
 refine⟨_,rfl,0,_,rfl,by simp only[ixW,x _ _ (Wx.at' (c:=.T) rfl)];rfl,rfl,A.A false,_,rfl,x _ _ hA0,?_⟩;refine⟨λ i τ M'=>i<=(S.E false).length/\∃ fl kvs y9 y17,Fm (A.A false) M0 M'/\M' f=some (rwW fl)/\M' s=some (.dct kvs)/\(∀ e∈fl,xq M' e)/\evs fl=((evs (S.E false)).take i).filter (λ e=>prim G e.1)/\Sn G ((evs (S.E false)).take i) kvs/\τ=fI A b n x0 y9 x10 x11 x12 x13 x14 (some (.m f)) (some (.m s)) y17,⟨Nat.zero_le _,[],[],_,_,λ q o n e=>by rw[ab n];exact x q o e,by rw[ab fA];exact hf,by rw[ab sA];exact hs,λ e he=>(by cases he),rfl,Sn.nil G,rfl⟩,?_,?_⟩
 ·rintro i w τ M1 hw ⟨hi,fl,kvs,y9,y17,F,hf1,hs1,ro,ef,sn,rfl⟩;obtain⟨e,he,rfl⟩:=gM hw;have hm:=List.mem_of_getElem? he;have hev:(evs (S.E false))[i]? =some (ev e):=by rw[List.getElem?_map,he];rfl
  have hlt:=(List.getElem?_eq_some_iff.mp he).1;have g:=I.ge _ (List.mem_of_getElem? hev);have r1:=(h.wo.rw' false e hm).tp (F.tp hA0);have ek:kyK e.m=kyN G e.m.n:=by show [Sum.inr e.m.z,Sum.inr e.m.k.shown]=[Sum.inr (G.zn e.m.n),Sum.inr (G.kn e.m.n).shown];rw[g.z,g.k]
  have et:∀ o:Option W,o=(if tsN ((evs (S.E false)).take i) e.m.n=[] then none else some (tsW (tsN ((evs (S.E false)).take i) e.m.n)))->o.getD (.d (.list []))=tsW (tsN ((evs (S.E false)).take i) e.m.n):=λ o h=>by
   rw[h]
   by_cases q:tsN ((evs (S.E false)).take i) e.m.n=[]
   ·rw[if_pos q,q];rfl
   ·rw[if_neg q];rfl
  have eg:(dg kvs (kyK e.m)).getD (.d (.list []))=tsW (tsN ((evs (S.E false)).take i) e.m.n):=et _ (by rw[ek];exact sn.get _ g.lo g.hi);have fp:=yO I hev;have lt:(tsN ((evs (S.E false)).take i) e.m.n).length<=96:=by
   unfold tsN;rw[List.length_map];refine Nat.le_trans (List.length_filter_le _ _) ?_;rw[List.length_take,List.length_map];omega
  have sn':=sn.step h.num g;have e1:∀ {l:List Nat} {u:Nat},W.d (.list ((l.map λ(t:Nat)=>PyData.int (t:Nat))++[.int (u:Nat)]))=tsW (l++[u]):=by intro l u;show W.d (.list _)=W.d (.list _);rw[List.map_append];rfl
  refine⟨e.r,_,rfl,r1.r,rfl,_,_,rfl,_,_,rfl,rfl,?_⟩;refine⟨_,rfl,⟨_,.t hs1⟩,_,rfl,_,rfl,(show 0<=sizeLine by omega),kvs,kyK e.m,.t hs1,.m r1.t,?_⟩;rw[eg];refine⟨_,rfl,_,rfl,(show 1<=sizeLine by omega),_,_,.d,.d,by rw[List.length_map];show _+1<=sizeLine;omega,?_⟩;rw[e1];refine⟨_,rfl,_,rfl,s,kvs,kyK e.m,e.t,rfl,hs1,rfl,r1.t,by have:=sn.len;omega,?_⟩;rw[ek];have hs2:ax M1 s (.dct (fX kvs (kyN G e.m.n) (tsW (tsN ((evs (S.E false)).take i) e.m.n++[e.u])))) s=some (.dct (fX kvs (kyN G e.m.n) (tsW (tsN ((evs (S.E false)).take i) e.m.n++[e.u])))):=aa;have F2:Fm (A.A false) M0 (ax M1 s (.dct (fX kvs (kyN G e.m.n) (tsW (tsN ((evs (S.E false)).take i) e.m.n++[e.u]))))):=λ q o n e'=>by rw[ab λ z=>by rw[z,hs0] at e';cases e'];exact F q o n e'
  have hf2:ax M1 s (.dct (fX kvs (kyN G e.m.n) (tsW (tsN ((evs (S.E false)).take i) e.m.n++[e.u])))) f=some (rwW fl):=by rw[ab fs];exact hf1
  have tp2:Tp M1 (ax M1 s (.dct (fX kvs (kyN G e.m.n) (tsW (tsN ((evs (S.E false)).take i) e.m.n++[e.u]))))):=(Tp.refl _).upd λ ws e'=>by rw[hs1] at e';cases e'
  generalize ax M1 s _=M2 at hs2 F2 hf2 tp2;have r2:=r1.tp tp2;refine⟨_,rfl,_,rfl,_,kyN G e.m.n,tsW (tsN ((evs (S.E false)).take i) e.m.n++[e.u]),.t hs2,by rw[<- ek];exact .m r2.t,by rw[qI,if_pos rfl],_,_,rfl,rfl,rfl,_,_,.d,.d,rfl,_,rfl,?_⟩;have e3:(evs (S.E false)).take (i+1)=(evs (S.E false)).take i++[ev e]:=by rw[List.take_succ,hev];rfl
  rw[show PyData.eqv (.int ((((tsN ((evs (S.E false)).take i) e.m.n++[e.u]).map λ(t:Nat)=>PyData.int (t:Nat)).length:Nat):Int)) (.int 1)=decide ((tsN ((evs (S.E false)).take i) e.m.n++[e.u]).length=1) by rw[List.length_map];exact ir _ 1];refine fe (λ b1=>?_) (λ b1=>?_)
  ·have c1:=of_decide_eq_true b1;rw[List.length_append] at c1;have c2:tsN ((evs (S.E false)).take i) e.m.n=[]:=List.length_eq_zero_iff.mp (by have:([e.u]:List Nat).length=1:=rfl;omega);have lf:fl.length<=96:=by have:=congrArg List.length ef;rw[List.length_map] at this;rw[this];refine Nat.le_trans (List.length_filter_le _ _) ?_;rw[List.length_take,List.length_map];omega
   refine⟨_,rfl,f,_,rfl,hf2,_,rfl,_,rfl,(show 2<=sizeLine by omega),λ r3 hr3=>?_⟩;have hf3:=br (u:=.tup [.m e.t,.d (.int (e.u:Nat))]) hf2 hr3;refine⟨_,hf3,by rw[List.length_map];omega,?_⟩;have e5:(fl.map λ e:Rw=>W.m e.r)++[W.m r3]=(fl++[(⟨r3,e.t,e.m,e.u⟩:Rw)]).map λ e=>W.m e.r:=by simp
   rw[e5];have rf:r3≠f:=λ z=>by rw[z,hf2] at hr3;cases hr3
   have rs:s≠r3:=λ z=>by rw[<- z,hs2] at hr3;cases hr3
   have tp3:Tp M2 (ax (ax M2 r3 (.tup [.m e.t,.d (.int (e.u:Nat))])) f (rwW (fl++[⟨r3,e.t,e.m,e.u⟩]))):=((Tp.refl _).upd λ ws e'=>by rw[hr3] at e';cases e').upd λ ws e'=>by rw[hf2] at e';cases e'
   refine⟨by omega,fl++[⟨r3,e.t,e.m,e.u⟩],_,_,_,λ q o n e'=>?_,aa,by rw[ab fs.symm,ab rs];exact hs2,λ e' he'=>?_,?_,by rw[e3];exact sn',rfl⟩
   ·rw[ab (λ z=>by rw[z,hf0] at e';cases e'),ab (cI (F2 q o n e') hr3)];exact F2 q o n e'
   ·rcases List.mem_append.mp he' with he' | he'
    ·exact(ro e' he').tp (tp2.trans tp3)
    ·rw[List.mem_singleton.mp he'];exact⟨tp3 _ _ r2.t,by rw[ab rf,aa]⟩
   ·rw[e3,List.filter_append,<- ef,List.filter_cons_of_pos (by exact fp.mpr c2)];exact List.map_append
  ·have c1:=of_decide_eq_false b1;have c2:¬ prim G e.m=true:=λ z=>c1 (by have:=fp.mp z;have this':tsN ((evs (S.E false)).take i) e.m.n=[]:=this;rw[this'];rfl)
   refine⟨by omega,fl,_,_,_,F2,hf2,hs2,λ e' he'=>(ro e' he').tp tp2,?_,by rw[e3];exact sn',rfl⟩;rw[e3,List.filter_append,<- ef,List.filter_cons_of_neg (by exact c2)];simp
 ·rintro τ M1 ⟨hi,fl,kvs,y9,y17,F,hf1,hs1,ro,ef,sn,rfl⟩;have e1:(evs (S.E false)).take ((S.E false).map λ e=>W.m e.r).length=evs (S.E false):=List.take_of_length_le (by rw[List.length_map,List.length_map];exact Nat.le_refl _);rw[e1] at ef sn;exact K fl kvs M1 y9 y17 F hf1 hs1 ro (by rw[ef];exact I.e1.symm) sn
end
abbrev agH(e:Ev):PyData:=.tuple [kyD e.1,.int (e.2:Nat)]
theorem mG{M:MH}:∀ {E:List Rw},(∀ e∈E,xq M e)->Paired (gc M 2) (E.map λ e=>W.m e.r) ((evs E).map agH)
 | [],_=>.nil
 | e::E,h=>.cons (gc.t (h e List.mem_cons_self).r (.cons (gc.t (h e List.mem_cons_self).t (gc.ds [.str e.m.z,.str e.m.k.shown])) (.cons gc.d .nil))) (mG λ e' he=>h e' (List.mem_cons_of_mem _ he))
theorem va(a b c d:Str):PyData.eqv (.tuple [.str a,.str b]) (.tuple [.str c,.str d])=(decide (a=c)&&decide (b=d)):=by rw[show PyData.eqv (.tuple [.str a,.str b]) (.tuple [.str c,.str d])=(PyData.eqv (.str a) (.str c)&&(PyData.eqv (.str b) (.str d)&&true)) by simp[PyData.eqv,PyData.eqvAll],qP,qP,Bool.and_true]
abbrev af5:TSd:=dIf (dOr (bI (dOp ab7 (ak 15) (dOp cU (ak 7) (dI 1)))) (bI (dOp vf (fm (dLC (cw (ak 3)) (gN 0) (o5) (eU aq "many" bK (ak 0) aG) 1 [])) (yv (af (dI 0) (af (dI 0) (aG)))))))
   (gO (dC (.d (.bool false))))
   (cN)
abbrev afT:TSd:=ip (uT (ak 16)) (gN 17)
   (dIf (dOr (bI (dOp vf (dCB iV (af (qd (ak 16) (ak 17)) (aG))) (dOp dG (dI 1) (dCB aay (af (dOp (abY false) (ak 17) (ak 6)) (aG)))))) (ac8 (bI (bR cq (af (qd (ak 16) (ak 17)) (af (dOp cU (ak 17) (dI 0)) (af (ak 5) (aG))))))))
    (gO (dC (.d (.bool false))))
    (cN))
section
variable {A:Ad}{b:Addr}{S:St}{M M0:MH}{D:Ed}{G:Gh}{T n:Nat}{x0 x9 x10 x11 x12 x13 x14 x15 x16 x17:Option W}
theorem Law.asc(na:Na A)(h:Law M b A S G T):∀ n,1<=n->n<=G.n->wM (G.zn n)=true/\wM (G.kn n).shown=true:=λ n h1 h2=>⟨na.asc _ (h.nm n h1 h2).1,(yC (h.nm n h1 h2).2).2.2.1⟩
theorem adv(na:Na A)(h:Law M0 b A S G T)(hT:T<=300)(eP:S.P false=[]){f:Addr}{fl:List Rw}(F:Fm (A.A false) M0 M)(hf:M f=some (rwW fl))(ro:∀ e∈fl,xq M e)(ef:evs fl=evs (S.E true))(K:D.nx (fI A b n x0 x9 x10 x11 x12 x13 x14 (some (.m f)) x16 x17) M) :
  af5 D (fI A b n x0 x9 x10 x11 x12 x13 x14 (some (.m f)) x16 x17) M:=by
 have sl:=s16;have Wx:=h.wo.wd;have nA:∀ {c a o},cells A S c=some (a,o)->c ≠ .A false->M a=some o:=λ {c a o} e ne=>F a o (Wx.ne e (c':=.A false) rfl ne) (Wx.at' e);have hA:=nA (c:=.A true) rfl (λ e=>by cases e);have tp:Tp M0 M:=F.tp (Wx.at' (c:=.A false) rfl);have d1:=gc.l hf (mG ro);have d2:=gc.l hA (mG λ e he=>(h.wo.rw' true e he).tp tp);rw[ef] at d1;have ok:okD 3 (.list ((evs (S.E true)).map agH))=true:=by simp only[okD];refine ug λ d hd=>?_;obtain⟨e,he,rfl⟩:=List.mem_map.mp hd;rw[h.iv.e1] at he;have g:=h.iv.ge e (List.mem_filter.mp he).1;have:=h.asc na _ g.lo g.hi;simp only[okD,okA,Bool.and_eq_true];rw[g.z,g.k];have ht:=(h.iv.he e (List.mem_filter.mp he).1).2;exact⟨⟨this.1,this.2,trivial⟩,decide_eq_true (Nat.lt_of_le_of_lt (by rw[Int.natAbs_natCast];omega:((e.2:Nat):Int).natAbs<=300) (by decide)),trivial⟩
 refine⟨_,rfl,_,rfl,1,_,rfl,by simp only[ixW,nA (c:=.T) rfl (λ e=>by cases e)];rfl,rfl,_,_,3,d1,d2,by unfold okN;rw[pQ (by decide) ok];rfl,_,rfl,?_⟩;rw[tH ok];refine ace ?_;have hR:cells A S .R=some (A.R,.lst (rlW A)):=by simp[cells,h.fz]
 have hR1:=nA hR (λ e=>by cases e);have eT:S.P true=[]:=by have:=h.iv.p1;rw[eP] at this;exact List.map_eq_nil_iff.mp this
 have hP:∀ k,S.P k=[]:=λ k=>by cases k;exact eP;exact eT
 refine⟨A.R,_,hR1,_,rfl,A.R,_,rfl,aa,?_⟩;refine aah [false,true] (λ k=>W.m (A.r k)) (λ _=>.int 0) (λ τ=>∃ a,τ=[a]) (by decide) ⟨_,rfl⟩ (λ k _ τ hτ R' h'=>?_) λ τ=>?_
 ·obtain⟨a,rfl⟩:=hτ;have c1:=Wx.ne (c:=.r k) rfl hR (λ e=>nomatch e);have c2:=Wx.ne (c:=.g k) rfl hR (λ e=>nomatch e);refine⟨_,rfl,A.r k,_,rfl,by rw[ab c1];exact nA (c:=.r k) rfl (λ e=>by cases e),afu (x:=A.x k) (y:=A.y k) (z:=A.z k) (g:=S.g k),A.r k,A.x k,A.y k,A.z k,S.g k,_,rfl,by rw[ab c1];exact nA (c:=.r k) rfl (λ e=>by cases e),by rw[ab c2];exact nA (c:=.g k) rfl (λ e=>by cases e),_,rfl,?_⟩;rw[hP k];exact h' _ ⟨_,rfl⟩
 refine⟨aa,?_⟩;have eM:ax (ax M A.R (.flst (rlW A))) A.R (.lst (rlW A))=M:=by
  funext q
  by_cases e:q=A.R
  ·rw[e,aa,hR1]
  ·rw[ab e,ab e]
 rw[eM];have ok0:okD 1 (.list [.int 0,.int 0])=true:=rfl;refine⟨_,rfl,(show 2<=sizeLine by omega),_,_,.d,.d,rfl,_,rfl,?_⟩;rw[show PyData.eqv (.list ([false,true].map λ _=>PyData.int 0)) (.list [.int 0,.int 0])=true from tH ok0];exact ace K
theorem adN(na:Na A)(h:Law M0 b A S G T)(eP:S.P false=[]){s:Addr}{kvs:List (List Key×W)}(F:Fm (A.A false) M0 M)(hs0:M0 s=none)(hs:M s=some (.dct kvs))(sn:Sn G (evs (S.E false)) kvs)
  (K:∀ M' x17,M' s=some (.fdct kvs)->kvs.length=G.n->D.nx (fI A b n x0 x9 x10 x11 x12 x13 x14 x15 (some (.m s)) x17) M') :
  afT D (fI A b n x0 x9 x10 x11 x12 x13 x14 x15 (some (.m s)) x17) M:=by
 have sl:=s16;have Wx:=h.wo.wd;have I:Iv G [] (pms (S.P true)) (evs (S.E false)) (evs (S.E true)) T S.cu:=by have:=h.iv;rw[eP] at this;exact this
 have nA:∀ {c a o},cells A S c=some (a,o)->c ≠ .A false->ax M s (.fdct kvs) a=some o:=λ {c a o} e ne=>by rw[ab λ z=>by have:=Wx.at' e;rw[z,hs0] at this;cases this];exact F a o (Wx.ne e (c':=.A false) rfl ne) (Wx.at' e)
 obtain⟨KK,k1,k2,k3⟩:=sn.keys;have ew:(kvs.map λ p=>tkW p.1)=KK.map λ n=>tkW (kyN G n):=by
  have:(kvs.map λ p=>tkW p.1)=(kvs.map (·.1)).map tkW:=by rw[List.map_map];rfl
  rw[this,k1,List.map_map];rfl
 have hl:kvs.length=G.n:=by
  have e1:kvs.length=KK.length:=by have:=congrArg List.length k1;rw[List.length_map,List.length_map] at this;exact this
  have e2:KK.Perm ((List.range G.n).map (· + 1)):=by
   refine(List.perm_ext_iff_of_nodup k2 (List.pairwise_map.mpr (List.nodup_range.imp λ {a b} h e=>h (by omega)))).mpr λ n=>?_;rw[k3];constructor
   ·rintro⟨a,c,_⟩;exact List.mem_map.mpr ⟨n-1,List.mem_range.mpr (by omega),by omega⟩
   ·intro hn;obtain⟨j,hj,rfl⟩:=List.mem_map.mp hn;have:=List.mem_range.mp hj;refine⟨by omega,by omega,λ z=>?_⟩;rcases tZ I (n:=j+1) (by omega) (by omega) with ⟨t,e,_⟩ | ⟨t1,t2,e,_⟩<;>(rw[e] at z;cases z)
  rw[e1,e2.length_eq,List.length_map,List.length_range]
 have hB:=nA (c:=.B) rfl (λ e=>nomatch e);have hU:=nA (c:=.U) rfl (λ e=>nomatch e);have hs1:ax M s (.fdct kvs) s=some (.fdct kvs):=aa;refine⟨_,rfl,s,kvs,rfl,hs,?_⟩;rw[ew];generalize ax M s (.fdct kvs)=M1 at nA hB hU hs1;refine⟨λ i τ M'=>M'=M1/\∃ x17,τ=fI A b n x0 x9 x10 x11 x12 x13 x14 x15 (some (.m s)) x17,⟨rfl,_,rfl⟩,?_,?_⟩
 ·rintro i w τ M' hw ⟨rfl,y17,rfl⟩;obtain⟨j,hj,rfl⟩:=gM hw;obtain⟨j1,j2,j3⟩:=(k3 j).mp (List.mem_of_getElem? hj);have hg:dg kvs (kyN G j)=some (tsW (tsN (evs (S.E false)) j)):=by rw[sn.get j j1 j2,if_neg j3]
  have okB:okD 2 (.list (S.bl.map kyD))=true:=by simp only[okD];refine ug λ d hd=>?_;obtain⟨m,hm,rfl⟩:=List.mem_map.mp hd;obtain⟨a1,a2,a3,a4,_⟩:=h.bl m hm;have:=h.asc na _ a1 a2;simp only[okD,okA,Bool.and_eq_true];rw[a3,a4];exact⟨this.1,this.2,trivial⟩
  have okk:okD 1 (.tuple [.str (G.zn j),.str (G.kn j).shown])=true:=by have:=h.asc na j j1 j2;simp only[okD,okA,Bool.and_eq_true];exact⟨this.1,this.2,trivial⟩
  have eI:inA (.tuple [.str (G.zn j),.str (G.kn j).shown]) (S.bl.map kyD)=G.db j:=by
   unfold inA;rw[List.any_map];cases q:G.db j with
   | true =>
    obtain⟨m,hm,e⟩:=h.bl2 j j1 j2 q;obtain⟨_,_,a3,a4,_⟩:=h.bl m hm;refine List.any_eq_true.mpr ⟨m,hm,?_⟩;show PyData.eqv (.tuple [.str m.z,.str m.k.shown]) (.tuple [.str (G.zn j),.str (G.kn j).shown])=true;rw[va,a3,a4,e,decide_eq_true rfl,decide_eq_true rfl];rfl
   | false =>
    refine List.any_eq_false.mpr λ m hm=>?_;obtain⟨a1,a2,a3,a4,a5⟩:=h.bl m hm;show ¬ PyData.eqv (.tuple [.str m.z,.str m.k.shown]) (.tuple [.str (G.zn j),.str (G.kn j).shown])=true;rw[va];intro z;obtain⟨_,z2⟩:=(Bool.and_eq_true _ _).mp z;have z3:=of_decide_eq_true z2;have n1:=h.num m.n a1 a2;rw[<- a4,z3,h.num j j1 j2] at n1;have:=Option.some.inj n1;rw[<- this,q] at a5;cases a5
  have dB:wg M' (.m A.B) (.list (S.bl.map kyD)):=.l (by rw[List.map_map];exact hB);refine⟨_,rfl,_,rfl,kvs,kyN G j,_,.f hs1,.d _,hg,_,_,rfl,rfl,rfl,_,rfl,_,rfl,_,_,.d,.inl dB,?_,.inr ⟨_,rfl,.inl ⟨_,_,rfl,rfl,?_⟩⟩⟩
  ·unfold acJ;have:=pQ (k:=1) (by decide) okk;have h2:=pQ (k:=2) (by decide) okB;exact(Bool.and_eq_true _ _).mpr ⟨this,h2⟩
  have ap:∀ {t':Bool},t'=true->(∃ t,tsN (evs (S.E false)) j=[t])\/(∃ t1 t2,tsN (evs (S.E false)) j=[t1,t2]/\Ap S.cu (G.zn j) t1 t2):=λ _=>by
   rcases tZ I j1 j2 with ⟨t,e,_⟩ | ⟨t1,t2,e,_,a⟩
   ·exact .inl ⟨t,e⟩
   ·exact .inr ⟨t1,t2,e,a⟩
  refine⟨_,_,.d,.d,rfl,_,rfl,?_⟩;have eL:PyData.eqv (.int (((tsN (evs (S.E false)) j).map λ(t:Nat)=>PyData.int (t:Nat)).length:Nat)) (.int (1+if (xor false (inA (.tuple [.str (G.zn j),.str (G.kn j).shown]) (S.bl.map kyD)))=true then 1 else 0))=true:=by
   rw[eI,List.length_map,vI];rcases tZ I j1 j2 with ⟨t,e,db⟩ | ⟨t1,t2,e,db,_⟩
   ·rw[e,db];rfl
   ·rw[e,db];rfl
  refine eN (by show(!PyData.eqv _ _)=false;exact(congrArg not eL).trans rfl) ?_;refine⟨_,rfl,_,rfl,kvs,kyN G j,_,.f hs1,.d _,hg,_,rfl,0,_,rfl,rfl,rfl,_,rfl,tsN (evs (S.E false)) j,G.zn j,A.U,S.cu,rfl,hU,ap rfl,_,rfl,?_⟩;exact ace ⟨rfl,_,rfl⟩
 ·rintro τ M' ⟨rfl,y17,rfl⟩;exact K M' _ hs1 hl
end
def j7:SpD:=λ ws M Q=>∃ ns:List Int,ws=[.d (.list (ns.map PyData.int))]/\ns.length<=63/\M az=some cdC/\∀ M',Q (.d (.bool true)) M'
theorem aal:∀ ws M Q,j7 ws M Q->ws.length=1:=by rintro ws M Q ⟨d,rfl,_⟩;rfl
theorem wR:∀ ns:List Int,ns.length<=63->j7 [.d (.list (ns.map PyData.int))] (M1T az dt ⟨43,77,43,103⟩) (λ w _=>w=.d (.bool true)):=λ ns h=>⟨ns,rfl,h,if_pos rfl,λ _=>rfl⟩
abbrev abu(C:Ro->Option (Addr×MO))(k:Bool)(r x y z g:Addr)(N:List Str):Ro->Option (Addr×MO):=
 cy (cy (cy (cy (cy C (.r k) (r,.ins aq (FR x y z g))) (.x k) (x,.dic (kf N (nW λ _=>0)))) (.y k) (y,.dic (kf N (bW λ _=>false)))) (.z k) (z,.dic (kf N (bW λ _=>false)))) (.g k) (g,.lst [])
theorem rJ{M M':MH}{b r x y z g:Addr}{N:List Str}{C:Ro->Option (Addr×MO)}{k:Bool}(h:Wd M b C)(hr0:M r=none)(fr:M x=none/\M y=none/\M z=none/\M g=none)(rx:r≠x/\r≠y/\r≠z/\r≠g)(nd:[x,y,z,g].Nodup)
  (hr:M' r=some (.ins aq (FR x y z g)))(hx:M' x=some (.dic (kf N (nW λ _=>0))))(hy:M' y=some (.dic (kf N (bW λ _=>false))))(hz:M' z=some (.dic (kf N (bW λ _=>false))))(hg:M' g=some (.lst []))(f:∀ b o,M b=some o->M' b=some o):Wd M' b (abu C k r x y z g N):=by
 obtain⟨fx,fy,fz,fg⟩:=fr;obtain⟨r1,r2,r3,r4⟩:=rx;simp only[List.nodup_cons,List.mem_cons,List.not_mem_nil,or_false,not_or,List.nodup_nil,and_true,not_false_eq_true] at nd;obtain⟨⟨n1,n2,n3⟩,⟨n4,n5⟩,n6⟩:=nd;have nbw:∀ {q:Addr},M q=none->q≠b:=λ hq e=>fJ h.bg (by rw[<- e];exact hq);have nw:∀ {q:Addr},M q=none->∀ {d:Ro} {v:Addr} {u:MO},C d=some (v,u)->v≠q:=by intro q hq d v u e';exact cI (h.at' e') hq
 have W0:=h.ext f;have W1:=W0.add (.r k) hr (nw hr0) (nbw hr0);have W2:=W1.add (.x k) hx (dU (nw fx) r1) (nbw fx);have W3:=W2.add (.y k) hy (dU (dU (nw fy) r2) n1) (nbw fy);have W4:=W3.add (.z k) hz (dU (dU (dU (nw fz) r3) n2) n4) (nbw fz);exact W4.add (.g k) hg (dU (dU (dU (dU (nw fg) r4) n3) n5) n6) (nbw fg)
def mI:Ro->Option (Addr×MO)
 | .t=>some (az,cdC)
 | _=>none
abbrev full:List Str:=["ma", "mb"]
abbrev G0:Gh:=⟨λ _=>0,λ _ => "",λ _=>.none,λ _=>false,0⟩
abbrev sel(a c:Addr):Bool->Addr:=λ k=>bif k then c else a
theorem xJ:∀ ws M Q,j7 ws M Q->adS dP aC bJ aZ b9 bq cv bY aH aL bK cq {nx:=λ _ M'=>Q (.d .none) M',rt:=Q} (bO aeD ws) M:=by
 rintro ws M Q ⟨ns,rfl,hl,hC,k⟩;have sl:=s16;refine⟨_,rfl,ns,rfl,by omega,λ b M1 hb0 f1 bg1=>?_⟩;have cb:az≠b:=cI hC hb0;have C1:M1 az=some cdC:=by rw[f1 _ cb];exact hC
 refine⟨_,rfl,(show 2<=sizeLine by omega),_,rfl,b,2,rfl,bg1,by decide,by decide,λ r3 M3 r30 r31 bg3 f3=>?_⟩;have C3:M3 az=some cdC:=by rw[f3 _ cb];exact C1
 obtain⟨n,rfl⟩:∃ n:Nat,r3=(n:Int):=⟨r3.toNat,by omega⟩;refine .inl ⟨_,_,rfl,rfl,_,rfl,_,rfl,rfl,?_⟩;have e1:(1:Int)+(n:Int)=((1+n:Nat):Int):=by omega
 have e2:D.cutD [PyData.str "ma",PyData.str "mb"] none (some ((1:Int)+(n:Int)))=(full.take (1+n)).map PyData.str:=by rw[e1];show D.cutD (full.map PyData.str) none _=_;rw[yl (by show 1+n<=2;omega),List.map_take]
 dsimp only;rw[e2];have hN1:1<=(full.take (1+n)).length:=by rw[List.length_take];show 1<=min (1+n) 2;omega
 have hN2:(full.take (1+n)).length<=4:=by rw[List.length_take];show min (1+n) 2<=4;omega
 have hNd:(full.take (1+n)).Nodup:=(show full.Nodup by decide).sublist (List.take_sublist _ _);have hNs:∀ z∈full.take (1+n),wM z=true:=λ z hz=>(show ∀ z∈full,wM z=true by decide +kernel) z (List.mem_of_mem_take hz);generalize full.take (1+n)=N at hN1 hN2 hNd hNs;have W3:Wd M3 b mI:=by
  refine⟨λ {c p o} e=>?_,λ {c c' p o o'} e e'=>?_,bg3,λ {c p o} e=>?_⟩
  ·cases c<;>first | (cases e;exact C3) | cases e
  ·cases c<;>first | (cases e;done) | (cases c'<;>first | rfl | (cases e';done))
  ·cases c<;>first | (cases e;exact cb) | cases e
 refine⟨_,rfl,_,_,rfl,.l,λ h0 hh0=>?_⟩;have hl0:ax M3 h0 (.lst ((N.map PyData.str).map W.d)) h0=some (.lst ((N.map PyData.str).map W.d)):=aa;have W4:=W3.ext (Ext.new (o:=.lst ((N.map PyData.str).map W.d)) hh0);generalize ax M3 h0 (.lst ((N.map PyData.str).map W.d))=M4 at hl0 W4;refine λ r0 hr0=>⟨N,r0,h0,rfl,hNd,by omega,aa,br hl0 hr0,λ xa ya za ga M6 fr nd hr6 hx6 hy6 hz6 hg6 f6=>⟨rfl,?_⟩⟩;obtain⟨q1,q2,q3,q4⟩:=fr;have W6:=rJ (k:=false) W4 hr0 ⟨av q1,av q2,av q3,av q4⟩ ⟨(aM q1).symm,(aM q2).symm,(aM q3).symm,(aM q4).symm⟩ nd hr6 hx6 hy6 hz6 hg6 λ q o e=>f6 q o (cI e hr0) (br e hr0);clear f6 hl0 hh0 W4 hr6 hx6 hy6 hz6 hg6 nd q1 q2 q3 q4;refine⟨_,rfl,_,_,rfl,.l,λ h1 hh1=>?_⟩;have hl1:ax M6 h1 (.lst ((N.map PyData.str).map W.d)) h1=some (.lst ((N.map PyData.str).map W.d)):=aa;have W7:=W6.ext (Ext.new (o:=.lst ((N.map PyData.str).map W.d)) hh1);generalize ax M6 h1 (.lst ((N.map PyData.str).map W.d))=M7 at hl1 W7;refine λ r1 hr1=>⟨N,r1,h1,rfl,hNd,by omega,aa,br hl1 hr1,λ xb yb zb gb M8 fr nd hr8 hx8 hy8 hz8 hg8 f8=>⟨rfl,?_⟩⟩;obtain⟨q1,q2,q3,q4⟩:=fr;have W8:=rJ (k:=true) W7 hr1 ⟨av q1,av q2,av q3,av q4⟩ ⟨(aM q1).symm,(aM q2).symm,(aM q3).symm,(aM q4).symm⟩ nd hr8 hx8 hy8 hz8 hg8 λ q o e=>f8 q o (cI e hr1) (br e hr1);clear f8 hl1 hh1 W7 W6 hr8 hx8 hy8 hz8 hg8 nd q1 q2 q3 q4;refine⟨(show 2<=sizeLine by omega),λ R hR=>?_⟩;have W9:=W8.new .R (.lst [.m r0,.m r1]) hR;refine λ Y hY=>λ U hU=>⟨by simp,λ B hB=>⟨by simp,λ A0 hA0=>⟨by simp,λ A1 hA1=>⟨(show 2<=sizeLine by omega),λ T hT=>⟨rfl,(show 5<=sizeLine by omega),?_⟩⟩⟩⟩⟩;have W10:=(((((W9.new .Y (.dic []) hY).new .U (.dic []) hU).new .B (.lst []) hB).new (.A false) (.lst []) hA0).new (.A true) (.lst []) hA1).new .T (.lst [.m A0,.m A1]) hT;refine⟨_,_,rfl,_,_,rfl,_,_,rfl,_,_,rfl,_,_,rfl,rfl,?_⟩;have eC:cy (cy (cy (cy (cy (cy (cy (abu (abu mI false r0 xa ya za ga N) true r1 xb yb zb gb N) .R (R,.lst [.m r0,.m r1])) .Y (Y,.dic [])) .U (U,.dic [])) .B (B,.lst [])) (.A false) (A0,.lst [])) (.A true) (A1,.lst [])) .T (T,.lst [.m A0,.m A1])=cells ⟨sel r0 r1,sel xa xb,sel ya yb,sel za zb,R,Y,U,B,T,sel A0 A1,N⟩ ⟨λ _ _=>0,λ _ _=>false,λ _ _=>false,sel ga gb,λ _=>[],λ _=>[],[],λ _=>false,[],[],false⟩:=by
  funext d;cases d with
  | r k=>cases k<;>simp[cy,cells,mI,kf,cuF]
  | x k=>cases k<;>simp[cy,cells,mI,kf,cuF]
  | y k=>cases k<;>simp[cy,cells,mI,kf,cuF]
  | z k=>cases k<;>simp[cy,cells,mI,kf,cuF]
  | g k=>cases k<;>simp[cy,cells,mI,kf,cuF]
  | A k=>cases k<;>simp[cy,cells,mI,kf,cuF]
  | _=>simp[cy,cells,mI,kf,cuF]
 rw[eC] at W10;generalize hA:(⟨sel r0 r1,sel xa xb,sel ya yb,sel za zb,R,Y,U,B,T,sel A0 A1,N⟩:Ad)=A at W10;have aN:A.N=N:=by rw[<- hA]
 have aR:A.R=R:=by rw[<- hA]
 have aY:A.Y=Y:=by rw[<- hA]
 have aU:A.U=U:=by rw[<- hA]
 have aB:A.B=B:=by rw[<- hA]
 have aT:A.T=T:=by rw[<- hA]
 generalize ax (ax (ax (ax (ax (ax (ax M8 R _) Y _) U _) B _) A0 _) A1 _) T _=M10 at W10;clear eC W9 W8 hA hR hY hU hB hA0 hA1 hT W3 hr0 hr1;subst aN aR aY aU aB aT;have na:Na A:=⟨hNs,hN1,hN2⟩;have L0:Law M10 b A ⟨λ _ _=>0,λ _ _=>false,λ _ _=>false,sel ga gb,λ _=>[],λ _=>[],[],λ _=>false,[],[],false⟩ G0 0:=by refine⟨⟨W10,λ _ _ h=>(by cases h),λ _=>.nil,λ _ h=>(by cases h),λ _ _ h=>(by cases h),λ _ _ h=>(by cases h)⟩,⟨λ _ h=>(by cases h),λ _ h=>(by cases h),.nil,rfl,rfl,λ _ h=>(by cases h),.nil,λ _ h=>(by cases h),λ _ h=>(by cases h),λ n h1 (h2:n<=0)=>absurd h1 (by omega),λ n h1 (h2:n<=0)=>absurd h1 (by omega)⟩,rfl,rfl,rfl,λ _=>Nat.zero_le _,⟨λ _ _=>rfl,.nil,λ _ h=>(by cases h)⟩,rfl,λ _ h=>(by cases h),λ n h1 (h2:n<=0)=>absurd h1 (by omega),Nat.le_refl _,λ n h1 (h2:n<=0)=>absurd h1 (by omega),λ _=>Nat.le_refl _,λ _ h=>(by cases h),rfl⟩
 refine⟨_,rfl,b,20,rfl,W10.bg,by decide,by decide,λ r9 M9 r90 r91 bg9 f9=>.inl ⟨_,_,rfl,rfl,1,_,rfl,⟨by decide,by decide,by omega,by omega⟩,?_⟩⟩;have L9:=L0.take bg9 f9;clear L0 W10 bg9 f9;have en:((6:Int)+r9-1).toNat<=24:=by omega
 generalize ((6:Int)+r9-1).toNat=nn at en;refine⟨λ i τ M'=>i<=24/\∃ S G x0 x9 x10 x11 x12 x13 x14 x15 x16 x17,Law M' b A S G i/\S.cu.length=i/\G.n<=2 * i/\τ=fI A b G.n x0 x9 x10 x11 x12 x13 x14 x15 x16 x17,⟨by omega,_,G0,_,_,_,_,_,_,_,_,_,_,L9,rfl,Nat.zero_le _,rfl⟩,?_,?_⟩
 ·rintro i w τ M' hw ⟨hi,S,G,x0,x9,x10,x11,x12,x13,x14,x15,x16,x17,h,hc,hg,rfl⟩;obtain⟨hi',rfl⟩:=qG hw;rw[show(1:Int)+(i:Int)=((i+1:Nat):Int) by omega];refine abn na h hc (by omega) (by omega) λ S' G' M2 y10 y11 y12 y13 y14 h2 c2 g2=>⟨by omega,S',G',x0,_,y10,y11,y12,y13,y14,x15,x16,x17,h2,c2,by omega,rfl⟩
 rintro τ M' ⟨hi,S,G,x0,x9,x10,x11,x12,x13,x14,x15,x16,x17,h,hc,hg,rfl⟩;rw[pH] at h hi hg;refine agh na h λ S1 M1 y12 y14 h1 c1=>?_;refine afJ na h1 (by omega) (by omega) c1 λ S2 M2 y9 y10 h2 p2=>?_;refine⟨by simp,λ f hf=>?_⟩;intro s hs;have sf:s≠f:=aM hs;have hs0:M2 s=none:=av hs;refine agv h2 p2 (by omega) hf hs0 sf.symm ((Ext.new hf).upd hs0) (by rw[ab sf.symm,aa]) aa λ fl kvs M3 z9 z17 F hf3 hs3 ro ef sn=>?_;refine adv na h2 (by decide) p2 F hf3 ro ef ?_;refine adN na h2 p2 F hs0 hs3 sn λ M4 u17 hs4 hl4=>?_;refine⟨_,rfl,.m s,kvs,rfl,.f hs4,_,rfl,_,_,.d,.d,rfl,?_⟩;show Q (.d (.bool (PyData.eqv (.int (kvs.length:Nat)) (.int (G.n:Nat))))) M4;rw[hl4,ir,decide_eq_true rfl];exact k M4
end K53
namespace K53
open L2 D Stc
abbrev q_0:List Str:=["_law_script"]
abbrev q_1:List Str:=["_law_bag_here", "_law_many"]
abbrev q_2:List Str:=["self", "machines"]
abbrev q_3:List Str:=["self", "machine"]
abbrev q_4:List Str:=["self", "message", "turn"]
abbrev q_5:List Str:=["self", "turn"]
abbrev q_6:List Str:=["_law_told", "_law_road", "_law_turn"]
abbrev q_7:List Str:=["self", "machine", "turns"]
abbrev q_8:List Str:=["self", "machine", "yes"]
abbrev q_9:List Str:=["_law_bag_here", "_law_roads", "_law_name", "_law_yes"]
abbrev acu:List Str:=["_law_bag_here", "_law_k"]
abbrev acn:List Str:=["self", "machine", "thing", "turn"]
abbrev aci:List Str:=["self"]
abbrev acm:List Str:=["_law_turns", "_law_name", "_law_cuts"]
abbrev wK:List Str:=["_law_thing_here"]
abbrev zN:List Str:=["thing"]
local macro_rules | `(tactic| walk_at "sc")=>`(tactic| exact⟨rfl,rfl,rfl,by decide +kernel,rfl,by decide +kernel,by decide +kernel⟩)
local macro_rules | `(tactic| walk_at "b4")=>`(tactic| (intro _ _ _ _ _ _ us hl;obtain⟨_,_,_,_,e⟩:=D.afZ hl;subst e;rfl))
local macro_rules | `(tactic| walk_at "b3")=>`(tactic| (intro _ _ _ _ _ _ us hl;obtain⟨_,_,_,e⟩:=D.aeN hl;subst e;rfl))
local macro_rules | `(tactic| walk_at "b2")=>`(tactic| (intro _ _ _ _ _ _ us hl;obtain⟨_,_,e⟩:=D.xi hl;subst e;rfl))
local macro_rules | `(tactic| walk_at "b1")=>`(tactic| (intro _ _ _ _ _ _ us hl;obtain⟨_,e⟩:=D.vG hl;subst e;rfl))
def top(i:Nat):Stmt:=PySem.Challenge.pw_placedworks_k53_twice.main.body.getD i (.Pass ⟨0,0,0,0⟩)
abbrev mj:Stmt:=top 5
abbrev iZ:Stmt:=top 6
abbrev cG:Stmt:=inClass (top 3) 0
abbrev c9:Stmt:=inClass (top 3) 5
abbrev cZ:Stmt:=inClass (top 3) 8
abbrev cH:Stmt:=inClass (top 3) 7
abbrev cj:Stmt:=top 8
abbrev gX:Stmt:=top 10
abbrev fw:Stmt:=inClass (top 3) 1
abbrev fL:Stmt:=inClass (top 3) 3
abbrev fo:Stmt:=inClass (top 3) 4
abbrev dO:Stmt:=inClass (top 3) 2
abbrev dM:Stmt:=top 9
abbrev gG:Stmt:=top 7
abbrev bM:Stmt:=top 1
abbrev fM:Stmt:=inClass (top 3) 6
abbrev fj:Stmt:=inClass (top 3) 9
abbrev gF:Stmt:=top 11
abbrev mS:Stmt:=top 12
structure Env(K:FG)(mg:Str->Option Value):Prop where
 k_Road:Cls K aq
 m_Road:mg "Road" = some (.ref aq)
 h_Road_come:W.codeHdIn K cC az=true
 n_Road_cut_off:dN K aq "cut_off"
 n_Road_doubled:dN K aq "doubled"
 n_Road_lateness:dN K aq "lateness"
 n_Road_messages:dN K aq "messages"
 b_abs:mg "abs" = none
 b_dict:mg "dict" = none
 b_int:mg "int" = none
 b_isinstance:mg "isinstance" = none
 b_len:mg "len" = none
 b_list:mg "list" = none
 b_range:mg "range" = none
 b_repr:mg "repr" = none
 b_sorted:mg "sorted" = none
 b_str:mg "str" = none
 b_tuple:mg "tuple" = none
section
variable (P:Program)(w:World)(K:FG)(mg:Str->Option Value)(base:Heap)
abbrev uE:=ZZ P w K mg base (Fn K mg "_law_bag" mj q_0) 1 q_0 dP
abbrev iY:=ZZ P w K mg base (Fn K mg "_law_take" iZ q_1) 1 q_1 aC
abbrev j5:=ZZ P w K mg base (Mi K aq "Road.__init__" cG q_2) 1 q_2 bJ
abbrev gR:=ZZ P w K mg base (Mf K aq "is_cut" "Road.is_cut" c9 q_3) 1 q_3 aZ
abbrev gT:=ZZ P w K mg base (Mf K aq "is_due" "Road.is_due" cZ q_4) 1 q_4 aW
abbrev jk:=ZZ P w K mg base (Mf K aq "come" "Road.come" cH q_5) 4 q_5 bU
abbrev oj:=ZZ P w K mg base (Fn K mg "_law_noted" gX q_6) 8 q_6 b9
abbrev jM:=ZZ P w K mg base (Mf K aq "late" "Road.late" fw q_7) 1 q_7 bV
abbrev kN:=ZZ P w K mg base (Mf K aq "cut" "Road.cut" fL q_3) 1 q_3 ck
abbrev gw:=ZZ P w K mg base (Mf K aq "join" "Road.join" fo q_3) 1 q_3 aL
abbrev iL:=ZZ P w K mg base (Mf K aq "twice" "Road.twice" dO q_8) 1 q_8 bL
abbrev iH:=ZZ P w K mg base (Fn K mg "_law_settings" dM q_9) 2 q_9 bq
abbrev oH:=ZZ P w K mg base (Fn K mg "_law_thing" gG acu) 2 acu cv
abbrev kK:=ZZ P w K mg base (Mf K aq "put" "Road.put" fM acn) 8 acn bY
abbrev jr:=ZZ P w K mg base (Mf K aq "many" "Road.many" fj aci) 1 aci bK
abbrev nO:=ZZ P w K mg base (Fn K mg "_law_apart" gF acm) 1 acm cq
end
section
variable {P:Program}{w:World}{K:FG}{mg:Str->Option Value}{base:Heap}
theorem afv:(["_law_cell"]:List Str).Nodup:=by decide +kernel
theorem wX:bu t9 q_0 (au mj):=by walk_at "sc"
theorem yz(E:Env K mg)(F:Fn K mg "_law_bag" mj q_0 f fq) :
  cX P w K mg base CX0 1 f fq q_0 (dR K dP):=by
 refine cO (t:=vz) F.fn wX tT (λ cdv A outer s H E' hr=>?_) tq;refine Jd.h ?_;exact aj (aX (bX (aD (ai) (aD (ai) (aD (ai) (aD (tU rfl (tD (own:=(["_law_cell"]:List Str)) (fr:=[]) rfl) (fN (nH (dvQ 0) (oh) (ow (ai)))) (λ _ _ _ _ _ _=>aw (i:=0) afv rfl (Or.inl rfl)) (λ _ _ _ _ _ _=>cL) (λ _ _ _ _ _ _=>nM xC acy rfl E.b_abs ad2 (aD (dvQ 0) (ae)))) (ae)))))))
theorem eG:bu qF q_1 (au iZ):=by walk_at "sc"
theorem uf(E:Env K mg)(F:Fn K mg "_law_take" iZ q_1 f fq) :
  cX P w K mg base CX0 1 f fq q_1 (dR K aC):=by
 refine cO (t:=qy) F.fn eG sL (λ cdv A outer s H E' hr=>?_) pN;refine Jd.h ?_;exact ag (bG (bH (zB hr.h) aeg (bb bh ba (dvQ 0) (ai)) (ai))
   (ag (bj (i:=2) eG.nd rfl (Or.inl rfl) (ai)) <|
   ag (bG (bH aa3 wb (bb bh ba (dvQ 0) (ai)) (nM eX jJ rfl E.b_len iM (aD (bb bh ba (dvQ 0) (ai)) (ae))))
    (aj (bj (i:=2) eG.nd rfl (Or.inl rfl) (bb bh ba (bb bh ba (dvQ 0) (ai)) (bb bh ba (dvQ 0) (ai)))))
    (aK)) <|
   ag (tG (dvQ 0) (ai) (ai) ads) <|
   ag (bG (bH agi adT (dvQ 2) (ai))
    (aj (ja (dvQ 2) (mr (dvQ 0) (ai))))
    (aK)) <|
   aj (ja (bC iP fG (bC cJ cf (bC cJ cf (bC ll g9 (bb bh ba (dvQ 0) (ai)) (ai)) (bC iP fG (dvQ 2) (ai))) (bC ll g9 (ai) (bb bh ba (dvQ 0) (ai)))) (ai)) (mr (dvQ 0) (ai))))
   (aK)) <|
  ag (bG (bH oP iy (bb bh ba (dvQ 0) (ai)) (ai))
   (ag (bj (i:=3) eG.nd rfl (Or.inl rfl) (bC iP fG (bb bh ba (dvQ 0) (ai)) (dvQ 1))) <|
   ag (ja (bC uX vZ (bb bh ba (dvQ 0) (ai)) (dvQ 1)) (mr (dvQ 0) (ai))) <|
   aj (aX (dvQ 3)))
   (aK)) <|
  ag (bj (i:=4) eG.nd rfl (Or.inl rfl) (bC iP fG (bC ll g9 (bC cJ cf (bb bh ba (dvQ 0) (ai)) (ai)) (ai)) (ai))) <|
  ag (bj (i:=5) eG.nd rfl (Or.inl rfl) (bC iP fG (bC ll g9 (bC iP fG (bC ll g9 (dvQ 4) (dvQ 4)) (ai)) (ai)) (ai))) <|
  ag (bG (bH oP iy (dvQ 1) (ai))
   (aj (aX (bC iP fG (bC cJ cf (bC ll g9 (dvQ 5) (ai)) (dvQ 4)) (dvQ 1))))
   (aK)) <|
  aj (aX (bC iP fG (bC uX vZ (dvQ 5) (ai)) (dvQ 1)))
theorem ago:(["machine"]:List Str).Nodup:=by decide +kernel
theorem afD:(["machine"]:List Str).Nodup:=by decide +kernel
theorem afm:(["machine"]:List Str).Nodup:=by decide +kernel
theorem nI:bu jm q_2 (au cG):=by walk_at "sc"
theorem mZ(E:Env K mg)(F:Mi K aq "Road.__init__" cG q_2 f fq) :
  cX P w K mg base CX0 1 f fq q_2 (dR K bJ):=by
 refine cO (t:=gu) F.fn nI mU (λ cdv A outer s H E' hr=>?_) kB;refine Jd.h ?_;exact ag (gJ E.k_Road E.n_Road_lateness (dvQ 0) (dk (uF rfl (tD (own:=(["machine"]:List Str)) (fr:=[]) rfl) (bD (dvQ 1)) (λ _ _ _ _ _ _=>aw (i:=0) ago rfl (Or.inl rfl)) (λ _ _ _ _ _ _=>cL) (λ _ _ _ _ _ _=>dvQ 0) (λ _ _ _ _ _ _=>ai)))) <|
  ag (gJ E.k_Road E.n_Road_doubled (dvQ 0) (dk (uF rfl (tD (own:=(["machine"]:List Str)) (fr:=[]) rfl) (bD (dvQ 1)) (λ _ _ _ _ _ _=>aw (i:=0) afD rfl (Or.inl rfl)) (λ _ _ _ _ _ _=>cL) (λ _ _ _ _ _ _=>dvQ 0) (λ _ _ _ _ _ _=>fZ)))) <|
  ag (gJ E.k_Road E.n_Road_cut_off (dvQ 0) (dk (uF rfl (tD (own:=(["machine"]:List Str)) (fr:=[]) rfl) (bD (dvQ 1)) (λ _ _ _ _ _ _=>aw (i:=0) afm rfl (Or.inl rfl)) (λ _ _ _ _ _ _=>cL) (λ _ _ _ _ _ _=>dvQ 0) (λ _ _ _ _ _ _=>fZ)))) <|
  aj (gJ E.k_Road E.n_Road_messages (dvQ 0) (bX (ae)))
theorem km:bu gS q_3 (au c9):=by walk_at "sc"
theorem kJ(E:Env K mg)(F:Mf K aq "is_cut" "Road.is_cut" c9 q_3 f fq) :
  cX P w K mg base CX0 1 f fq q_3 (dR K aZ):=by
 refine cO (t:=gD) F.fn km jt (λ cdv A outer s H E' hr=>?_) iT;refine Jd.h ?_;exact aj (aX (fu (eo hr) (cQ E.k_Road E.n_Road_cut_off (dvQ 0)) (dvQ 1)))
theorem cS:bu gU q_4 (au cZ):=by walk_at "sc"
theorem kH(E:Env K mg)(F:Mf K aq "is_due" "Road.is_due" cZ q_4 f fq) :
  cX P w K mg base CX0 1 f fq q_4 (dR K aW):=by
 refine cO (t:=gE) F.fn cS jn (λ cdv A outer s H E' hr=>?_) iU;refine Jd.h ?_;exact ag (ja (dvQ 1) (gK rfl (aJ (aw (i:=3) cS.nd rfl (Or.inl rfl)) (aJ (aw (i:=4) cS.nd rfl (Or.inl rfl)) (aJ (aw (i:=5) cS.nd rfl (Or.inl rfl)) (eK)))))) <|
  aj (aX (wH (fB ad9 abL (dvQ 3) (dvQ 2)) (pJ (aa4 (fu (eo hr) (cQ E.k_Road E.n_Road_cut_off (dvQ 0)) (dvQ 4))))))
theorem afO:(["message", "self", "turn"]:List Str).Nodup:=by decide +kernel
theorem agc:(["message", "self", "turn"]:List Str).Nodup:=by decide +kernel
theorem ab6:(["when", "machine", "thing"]:List Str).Nodup:=by decide +kernel
theorem iJ:bu jv q_5 (au cH):=by walk_at "sc"
theorem oJ(E:Env K mg)(F:Mf K aq "come" "Road.come" cH q_5 f fq)(hcd:fq.code=.ref cC)(z4:gT P w K mg base) :
  cX P w K mg base CX0 4 f fq q_5 (dR K bU):=by
 obtain⟨_,_,G4,O4⟩:=z4;refine abz (t:=jC aW) F.fn hcd iJ mx (λ A outer s H E' hr=>?_) kA;refine Jd.h ?_;exact ag (dA (o7 (i:=2) iJ.nd rfl (Or.inl rfl) rfl (tD (own:=(["message"]:List Str)) (fr:=[0,1]) rfl) (bD (cQ E.k_Road E.n_Road_messages (dvQ 0))) (λ _ _ _ _ _ _=>aw (i:=0) afO rfl (Or.inl rfl)) (λ _ _ _ _ _ _=>jE (cE (cT (dvQ 1) E.k_Road G4.me O4 hr.m G4.bd (aD (dvQ 0) (aD (dvQ 2) (ae)))))) (λ _ _ _ _ _ _=>dvQ 0))) <|
  ag (gJ E.k_Road E.n_Road_messages (dvQ 0) (dk (lS rfl (tD (own:=(["message"]:List Str)) (fr:=[0,1]) rfl) (bD (cQ E.k_Road E.n_Road_messages (dvQ 0))) (λ _ _ _ _ _ _=>aw (i:=0) agc rfl (Or.inl rfl)) (λ _ _ _ _ _ _=>jE (qA (cE (cT (dvQ 1) E.k_Road G4.me O4 hr.m G4.bd (aD (dvQ 0) (aD (dvQ 2) (ae))))))) (λ _ _ _ _ _ _=>dvQ 0)))) <|
  aj (aX (lS rfl (tD (own:=(["when", "machine", "thing"]:List Str)) (fr:=[]) rfl) (gm (vB (k:=0) (q:=dt) hr.m rfl rfl E.b_sorted (agn (x:= "message") (fr:=[]) rfl) rfl E.h_Road_come rfl (λ _ _ _ _ _=>rfl) (dvQ 2) (λ _ _ _ _ _ _ hr=>bb bh ba (dvQ 0) (ai)))) (λ _ _ _ _ _ _=>gK rfl (aJ (aw (i:=0) ab6 rfl (Or.inl rfl)) (aJ (aw (i:=1) ab6 rfl (Or.inl rfl)) (aJ (aw (i:=2) ab6 rfl (Or.inl rfl)) (eK))))) (λ _ _ _ _ _ _=>cL) (λ _ _ _ _ _ _=>cR (aD (dvQ 1) (aD (dvQ 2) (ae))))))
theorem dJ:bu jy wK (au cj):=by walk_at "sc"
theorem cg(E:Env K mg)(F:Fn K mg "_law_changed" cj wK f fq){j:Nat}(O_self:cX P w K mg base CX0 (j) f fq wK (dR K (bw j))) :
  cX P w K mg base CX0 (j+1) f fq wK (dR K (bw (j+1))):=by
 refine cO (t:=kb (bw j)) F.fn dJ (lO _) (λ cdv A outer s H E' hr=>?_) (kE j);refine Jd.h ?_;exact ag (bG (cE (nM eS ik rfl E.b_isinstance cm (aD (dvQ 0) (aD (fO rfl E.b_list jD) (ae)))))
   (ag (dA (bN PassesOwn.never rfl (bD (dvQ 0)) (aw (i:=1) dJ.nd rfl (Or.inl rfl))
    (aj (aP (iW O_self (hr.mono (Nat.le_refl _)) rfl F.mg F.fn.kp F.bd (aD (dvQ 1) (ae))))))) <|
   aj (aP (dq (dvQ 0) (ff))))
   (aK)) <|
  ag (bG (cE (nM eS ik rfl E.b_isinstance cm (aD (dvQ 0) (aD (fO rfl E.b_tuple mK) (ae)))))
   (aj (bN PassesOwn.never rfl (jR (dvQ 0)) (aw (i:=1) dJ.nd rfl (Or.inl rfl))
    (aj (aP (iW O_self (hr.mono (Nat.le_refl _)) rfl F.mg F.fn.kp F.bd (aD (dvQ 1) (ae)))))))
   (aK)) <|
  aj (bG (cE (nM eS ik rfl E.b_isinstance cm (aD (dvQ 0) (aD (fO rfl E.b_dict vk) (ae)))))
   (ag (bN PassesOwn.never rfl (fN (xK (acg (tj rfl) yf rfl E.b_list jD (aD (dvQ 0) (ae))))) (aw (i:=2) dJ.nd rfl (Or.inl rfl))
    (aj (aP (iW O_self (hr.mono (Nat.le_refl _)) rfl F.mg F.fn.kp F.bd (aD (fu (eo hr) (dvQ 0) (dvQ 2)) (ae)))))) <|
   aj (dv (eo hr) (dvQ 0) (ff) (ai)))
   (aK))
theorem fQ:bu nU q_6 (au gX):=by walk_at "sc"
theorem se(E:Env K mg)(F:Fn K mg "_law_noted" gX q_6 f fq)(z5:jk P w K mg base)
  (G6:Fn K mg "_law_changed" cj wK f6 fd6)(O6:cX P w K mg base CX0 7 f6 fd6 wK (dR K aH)) :
  cX P w K mg base CX0 8 f fq q_6 (dR K b9):=by
 obtain⟨_,_,G5,O5⟩:=z5;refine cO (t:=nu bU aH) F.fn fQ pL (λ cdv A outer s H E' hr=>?_) nG;refine Jd.h ?_;exact aj (bN PassesOwn.never rfl (gm (cT (dvQ 1) E.k_Road G5.me O5 hr.m G5.bd (aD (dvQ 2) (ae)))) (gK rfl (aJ (aw (i:=3) fQ.nd rfl (Or.inl rfl)) (aJ (aw (i:=4) fQ.nd rfl (Or.inl rfl)) (eK))))
   (ag (bj (i:=5) fQ.nd rfl (Or.inl rfl) (cR (aD (dvQ 3) (aD (nM (lp hr.h) rR rfl E.b_repr we (aD (dvQ 4) (ae))) (ae))))) <|
   ag (aP (dq (dvQ 0) (cR (aD (dvQ 5) (aD (dvQ 2) (ae)))))) <|
   aj (aP (iW O6 hr.m rfl G6.mg G6.fn.kp G6.bd (aD (dvQ 4) (ae))))))
theorem nY:bu j9 q_7 (au fw):=by walk_at "sc"
theorem nQ(E:Env K mg)(F:Mf K aq "late" "Road.late" fw q_7 f fq) :
  cX P w K mg base CX0 1 f fq q_7 (dR K bV):=by
 refine cO (t:=jW) F.fn nY lP (λ cdv A outer s H E' hr=>?_) kD;refine Jd.h ?_;exact aj (dv (eo hr) (cQ E.k_Road E.n_Road_lateness (dvQ 0)) (dvQ 1) (dvQ 2))
theorem p5:bu kM q_3 (au fL):=by walk_at "sc"
theorem pS(E:Env K mg)(F:Mf K aq "cut" "Road.cut" fL q_3 f fq) :
  cX P w K mg base CX0 1 f fq q_3 (dR K ck):=by
 refine cO (t:=lx) F.fn p5 nR (λ cdv A outer s H E' hr=>?_) mP;refine Jd.h ?_;exact aj (dv (eo hr) (cQ E.k_Road E.n_Road_cut_off (dvQ 0)) (dvQ 1) (fZ))
theorem oM:bu jG q_3 (au fo):=by walk_at "sc"
theorem nS(E:Env K mg)(F:Mf K aq "join" "Road.join" fo q_3 f fq) :
  cX P w K mg base CX0 1 f fq q_3 (dR K aL):=by
 refine cO (t:=j8) F.fn oM mO (λ cdv A outer s H E' hr=>?_) ke;refine Jd.h ?_;exact aj (dv (eo hr) (cQ E.k_Road E.n_Road_cut_off (dvQ 0)) (dvQ 1) (fZ))
theorem lW:bu iQ q_8 (au dO):=by walk_at "sc"
theorem lQ(E:Env K mg)(F:Mf K aq "twice" "Road.twice" dO q_8 f fq) :
  cX P w K mg base CX0 1 f fq q_8 (dR K bL):=by
 refine cO (t:=iz) F.fn lW kC (λ cdv A outer s H E' hr=>?_) jg;refine Jd.h ?_;exact aj (dv (eo hr) (cQ E.k_Road E.n_Road_doubled (dvQ 0)) (dvQ 1) (dvQ 2))
theorem dh:bu iC q_9 (au dM):=by walk_at "sc"
theorem l8(E:Env K mg)(F:Fn K mg "_law_settings" dM q_9 f fq)(z1:iY P w K mg base)(z8:jM P w K mg base)(z9:kN P w K mg base)(z10:gw P w K mg base)(z11:iL P w K mg base) :
  cX P w K mg base CX0 2 f fq q_9 (dR K bq):=by
 obtain⟨_,_,G1,O1⟩:=z1;obtain⟨_,_,G8,O8⟩:=z8;obtain⟨_,_,G9,O9⟩:=z9;obtain⟨_,_,G10,O10⟩:=z10;obtain⟨_,_,G11,O11⟩:=z11;refine cO (t:=iB aC bV ck aL bL) F.fn dh kI (λ cdv A outer s H E' hr=>?_) jO;refine Jd.h ?_;exact ag (bj (i:=4) dh.nd rfl (Or.inl rfl) (iW O1 hr.m rfl G1.mg G1.fn.kp G1.bd (aD (dvQ 0) (aD (ai) (ae))))) <|
  ag (bj (i:=5) dh.nd rfl (Or.inl rfl) (iW O1 hr.m rfl G1.mg G1.fn.kp G1.bd (aD (dvQ 0) (aD (ai) (ae))))) <|
  ag (dA (bN PassesOwn.never rfl (bD (dvQ 1)) (aw (i:=6) dh.nd rfl (Or.inl rfl))
   (aj (bG (bH aa3 wb (dvQ 4) (ai))
    (aj (aP (cT (dvQ 6) E.k_Road G8.me O8 hr.m G8.bd (aD (dvQ 2) (aD (dvQ 5) (ae))))))
    (aj (bG (bH (k8 hr.h) il (dvQ 4) (ai))
     (aj (aP (cT (dvQ 6) E.k_Road G9.me O9 hr.m G9.bd (aD (dvQ 2) (ae)))))
     (aj (bG (bH aa3 wb (dvQ 4) (ai))
      (aj (aP (cT (dvQ 6) E.k_Road G10.me O10 hr.m G10.bd (aD (dvQ 2) (ae)))))
      (aK))))))))) <|
  ag (bG (bH oP iy (dvQ 4) (ai))
   (ag (aP (cT (bb bh ba (dvQ 1) (ai)) E.k_Road G11.me O11 hr.m G11.bd (aD (dvQ 2) (aD (fB oP iy (dvQ 4) (ai)) (ae))))) <|
   aj (aX (fB oP iy (dvQ 4) (ai))))
   (aK)) <|
  aj (aX (dvQ 3))
theorem ij:bu oB acu (au gG):=by walk_at "sc"
theorem so(E:Env K mg)(F:Fn K mg "_law_thing" gG acu f fq)(z1:iY P w K mg base) :
  cX P w K mg base CX0 2 f fq acu (dR K cv):=by
 obtain⟨_,_,G1,O1⟩:=z1;refine cO (t:=nK aC) F.fn ij pO (λ cdv A outer s H E' hr=>?_) nz;refine Jd.h ?_;exact ag (bj (i:=2) ij.nd rfl (Or.inl rfl) (iW O1 hr.m rfl G1.mg G1.fn.kp G1.bd (aD (dvQ 0) (aD (ai) (ae))))) <|
  ag (bj (i:=3) ij.nd rfl (Or.inl rfl) (bX (aD (dvQ 1) (aD (bC cJ cf (ff) (acg tI ad1 rfl E.b_str adb (aD (dvQ 1) (ae)))) (aD (cR (aD (ff) (aD (cR (aD (ai) (aD (dvQ 1) (aD (bX (aD (pB (aD (dvQ 1) (aD (ff) (ae)))) (ae))) (aD (bX (ae)) (ae)))))) (ae)))) (aD (bX (aD (dvQ 1) (aD (bX (aD (dvQ 1) (aD (pB (aD (dvQ 1) (ae))) (ae)))) (ae)))) (aD (uo (trs:=[(dS "k",fD (af (ak 1) (aG)))]) (vj (ff) (bX (aD (dvQ 1) (ae))) (yy))) (aD (cR (aD (abj) (aD (bX (aD (dvQ 1) (ae))) (aD (fZ) (ae))))) (ae))))))))) <|
  aj (aX (bb bh ba (dvQ 3) (dvQ 2)))
theorem agd:(["each"]:List Str).Nodup:=by decide +kernel
theorem afR:(["each"]:List Str).Nodup:=by decide +kernel
theorem adw:(["key", "each"]:List Str).Nodup:=by decide +kernel
theorem jL:bu d6 zN (au bM):=by walk_at "sc"
theorem bB(E:Env K mg)(F:Fn K mg "thing_copied" bM zN f fq){j:Nat}(O_self:cX P w K mg base CX0 (j) f fq zN (dR K (aE j))) :
  cX P w K mg base CX0 (j+1) f fq zN (dR K (aE (j+1))):=by
 refine cO (t:=fV (aE j)) F.fn jL (iS _) (λ cdv A outer s H E' hr=>?_) (hV j);refine Jd.h ?_;exact ag (bG (cE (nM eS ik rfl E.b_isinstance cm (aD (dvQ 0) (aD (fO rfl E.b_tuple mK) (ae)))))
   (aj (aX (acg mv uQ rfl E.b_tuple mK (aD (lS rfl (tD (own:=(["each"]:List Str)) (fr:=[]) rfl) (jR (dvQ 0)) (λ _ _ _ _ _ _=>aw (i:=0) agd rfl (Or.inl rfl)) (λ _ _ _ _ _ _=>cL) (λ _ _ _ _ _ _=>iW O_self (hr.mono (Nat.le_refl _)) rfl F.mg F.fn.kp F.bd (aD (dvQ 0) (ae)))) (ae)))))
   (aK)) <|
  ag (bG (cE (nM eS ik rfl E.b_isinstance cm (aD (dvQ 0) (aD (fO rfl E.b_list jD) (ae)))))
   (aj (aX (dk (lS rfl (tD (own:=(["each"]:List Str)) (fr:=[]) rfl) (bD (dvQ 0)) (λ _ _ _ _ _ _=>aw (i:=0) afR rfl (Or.inl rfl)) (λ _ _ _ _ _ _=>cL) (λ _ _ _ _ _ _=>iW O_self (hr.mono (Nat.le_refl _)) rfl F.mg F.fn.kp F.bd (aD (dvQ 0) (ae)))))))
   (aK)) <|
  ag (bG (cE (nM eS ik rfl E.b_isinstance cm (aD (dvQ 0) (aD (fO rfl E.b_dict vk) (ae)))))
   (aj (aX (uR (aaD rfl (tD (own:=(["key", "each"]:List Str)) (fr:=[]) rfl) (dvQ 0) (λ _ _ _ _ _ _=>(aJ (aw (i:=0) adw rfl (Or.inl rfl)) (aJ (aw (i:=1) adw rfl (Or.inl rfl)) (eK)))) (λ _ _ _ _ _ _=>cL) (λ _ _ _ _ _ _=>dvQ 0) (λ _ _ _ _ _ _=>iW O_self (hr.mono (Nat.le_refl _)) rfl F.mg F.fn.kp F.bd (aD (dvQ 1) (ae)))))))
   (aK)) <|
  aj (aX (dvQ 0))
theorem js:bu kP acn (au fM):=by walk_at "sc"
theorem pq(E:Env K mg)(F:Mf K aq "put" "Road.put" fM acn f fq)
  (G14:Fn K mg "thing_copied" bM zN f14 fd14)(O14:cX P w K mg base CX0 7 f14 fd14 zN (dR K bx)) :
  cX P w K mg base CX0 8 f fq acn (dR K bY):=by
 refine cO (t:=lB bx) F.fn js oX (λ cdv A outer s H E' hr=>?_) lL;refine Jd.h ?_;exact ag (bj (i:=4) js.nd rfl (Or.inl rfl) (bC cJ cf (bC cJ cf (dvQ 3) (ai)) (fu (eo hr) (cQ E.k_Road E.n_Road_lateness (dvQ 0)) (dvQ 1)))) <|
  ag (aP (dq (cQ E.k_Road E.n_Road_messages (dvQ 0)) (cR (aD (dvQ 4) (aD (dvQ 1) (aD (iW O14 hr.m rfl G14.mg G14.fn.kp G14.bd (aD (dvQ 2) (ae))) (ae))))))) <|
  aj (bG (cE (fu (eo hr) (cQ E.k_Road E.n_Road_doubled (dvQ 0)) (dvQ 1)))
   (aj (aP (dq (cQ E.k_Road E.n_Road_messages (dvQ 0)) (cR (aD (bC cJ cf (dvQ 4) (ai)) (aD (dvQ 1) (aD (iW O14 hr.m rfl G14.mg G14.fn.kp G14.bd (aD (dvQ 2) (ae))) (ae))))))))
   (aK))
theorem oA:bu jB aci (au fj):=by walk_at "sc"
theorem ot(E:Env K mg)(F:Mf K aq "many" "Road.many" fj aci f fq) :
  cX P w K mg base CX0 1 f fq aci (dR K bK):=by
 refine cO (t:=jU) F.fn oA l3 (λ cdv A outer s H E' hr=>?_) kG;refine Jd.h ?_;exact aj (aX (nM eX jJ rfl E.b_len iM (aD (cQ E.k_Road E.n_Road_messages (dvQ 0)) (ae))))
theorem sj:bu oT acm (au gF):=by walk_at "sc"
theorem sE(E:Env K mg)(F:Fn K mg "_law_apart" gF acm f fq) :
  cX P w K mg base CX0 1 f fq acm (dR K cq):=by
 refine cO (t:=ni) F.fn sj qi (λ cdv A outer s H E' hr=>?_) om;refine Jd.h ?_;exact ag (bG (vV (mD (bH (k8 hr.h) il (nM eX jJ rfl E.b_len iM (aD (dvQ 0) (ae))) (ai)) (mD (bH oP iy (bb bh ba (dvQ 0) (ai)) (ai)) (ml (bH (k8 hr.h) il (bb bh ba (dvQ 0) (ai)) (bC cJ cf (bb bh ba (dvQ 0) (ai)) (ai)))))))
   (aj (aX (fZ)))
   (aK)) <|
  ag (bG (bH (k8 hr.h) il (bb bh ba (dvQ 0) (ai)) (bb bh ba (dvQ 0) (ai)))
   (aj (aX (fB nq (rN false) (dvQ 1) (fu (eo hr) (dvQ 2) (bC aed aaH (bb bh ba (dvQ 0) (ai)) (ai))))))
   (aK)) <|
  aj (aX (adF (fB oP iy (bb bh ba (dvQ 0) (ai)) (ai)) (pJ (wH (fB nq (rN false) (dvQ 1) (fu (eo hr) (dvQ 2) (bC cJ cf (bb bh ba (dvQ 0) (ai)) (ai)))) (pJ (fB oP iy (bb bh ba (dvQ 0) (ai)) (bb bh ba (dvQ 0) (ai))))))))
theorem ae3:(["_law_name", "_law_roads"]:List Str).Nodup:=by decide +kernel
theorem aeZ:(["_law_road"]:List Str).Nodup:=by decide +kernel
theorem bP:bu aeD q_0 (au mS):=by walk_at "sc"
theorem adA(E:Env K mg)(F:Fn K mg "law" mS q_0 f fq)(z0:uE P w K mg base)(z1:iY P w K mg base)(z2:j5 P w K mg base)(z3:gR P w K mg base)(z7:oj P w K mg base)(z12:iH P w K mg base)(z13:oH P w K mg base)(z15:kK P w K mg base)
  (G6:Fn K mg "_law_changed" cj wK f6 fd6)(O6:cX P w K mg base CX0 7 f6 fd6 wK (dR K aH))(z10:gw P w K mg base)(z16:jr P w K mg base)(z17:nO P w K mg base) :
  cX P w K mg base CX0 9 f fq q_0 (dR K j7):=by
 obtain⟨_,_,G0,O0⟩:=z0;obtain⟨_,_,G1,O1⟩:=z1;obtain⟨_,_,G2,O2⟩:=z2;obtain⟨_,_,G3,O3⟩:=z3;obtain⟨_,_,G7,O7⟩:=z7;obtain⟨_,_,G12,O12⟩:=z12;obtain⟨_,_,G13,O13⟩:=z13;obtain⟨_,_,G15,O15⟩:=z15;obtain⟨_,_,G10,O10⟩:=z10;obtain⟨_,_,G16,O16⟩:=z16;obtain⟨_,_,G17,O17⟩:=z17;refine cO (t:=adS dP aC bJ aZ b9 bq cv bY aH aL bK cq) F.fn bP aal (λ cdv A outer s H E' hr=>?_) xJ;refine Jd.h ?_;exact ag (bj (i:=1) bP.nd rfl (Or.inl rfl) (iW O0 hr.m rfl G0.mg G0.fn.kp G0.bd (aD (dvQ 0) (ae)))) <|
  ag (bj (i:=2) bP.nd rfl (Or.inl rfl) (nH (lH (aD (ff) (aD (ff) (ae)))) (oh) (ow (bC cJ cf (ai) (iW O1 hr.m rfl G1.mg G1.fn.kp G1.bd (aD (dvQ 1) (aD (ai) (ae)))))))) <|
  ag (bj (i:=3) bP.nd rfl (Or.inr rfl) (bX (aD (rD G2.mi O2 hr.m rfl E.m_Road G2.bd (aD (acg iD oy rfl E.b_list jD (aD (dvQ 2) (ae))) (ae))) (aD (rD G2.mi O2 hr.m rfl E.m_Road G2.bd (aD (acg iD oy rfl E.b_list jD (aD (dvQ 2) (ae))) (ae))) (ae))))) <|
  ag (uz rfl (aD (k9) (aD (k9) (aD (bX (ae)) (aD (bX (aD (bX (ae)) (aD (bX (ae)) (ae)))) (aD (ai) (ae)))))) (aJ (aw (i:=4) bP.nd rfl (Or.inl rfl)) (aJ (aw (i:=5) bP.nd rfl (Or.inl rfl)) (aJ (aw (i:=6) bP.nd rfl (Or.inl rfl)) (aJ (aw (i:=7) bP.nd rfl (Or.inl rfl)) (aJ (aw (i:=8) bP.nd rfl (Or.inl rfl)) (eK))))))) <|
  ag (bN PassesOwn.never rfl (jA rfl E.b_range (aD (ai) (aD (bC cJ cf (ai) (iW O1 hr.m rfl G1.mg G1.fn.kp G1.bd (aD (dvQ 1) (aD (ai) (ae))))) (ae)))) (aw (i:=9) bP.nd rfl (Or.inl rfl))
   (ag (dv (eo hr) (dvQ 5) (dvQ 9) (tU rfl (tD (own:=(["_law_name"]:List Str)) (fr:=[3]) rfl) (fN (dvQ 2)) (λ _ _ _ _ _ _=>aw (i:=0) ae3 rfl (Or.inl rfl)) (λ _ _ _ _ _ _=>jE (cE (cT (bb bh ba (dvQ 1) (ai)) E.k_Road G3.me O3 hr.m G3.bd (aD (dvQ 0) (ae))))) (λ _ _ _ _ _ _=>dvQ 0))) <|
   ag (bN PassesOwn.never rfl (fk rfl E.b_range (aD (ai) (ae))) (aw (i:=10) bP.nd rfl (Or.inl rfl))
    (aj (aP (iW O7 hr.m rfl G7.mg G7.fn.kp G7.bd (aD (bb bh ba (dvQ 7) (dvQ 10)) (aD (bb bh ba (dvQ 3) (dvQ 10)) (aD (dvQ 9) (ae)))))))) <|
   ag (bN PassesOwn.never rfl (fk rfl E.b_range (aD (iW O1 hr.m rfl G1.mg G1.fn.kp G1.bd (aD (dvQ 1) (aD (ai) (ae)))) (ae))) (aw (i:=11) bP.nd rfl (Or.inl rfl))
    (ag (bj (i:=12) bP.nd rfl (Or.inl rfl) (bb bh ba (dvQ 2) (iW O1 hr.m rfl G1.mg G1.fn.kp G1.bd (aD (dvQ 1) (aD (nM eX jJ rfl E.b_len iM (aD (dvQ 2) (ae))) (ae)))))) <|
    aj (dv (eo hr) (dvQ 4) (dvQ 12) (iW O12 hr.m rfl G12.mg G12.fn.kp G12.bd (aD (dvQ 1) (aD (dvQ 3) (aD (dvQ 12) (aD (qN (eo hr) (dvQ 4) (dvQ 12) (fZ)) (ae))))))))) <|
   aj (bN PassesOwn.never rfl (fk rfl E.b_range (aD (iW O1 hr.m rfl G1.mg G1.fn.kp G1.bd (aD (dvQ 1) (aD (ai) (ae)))) (ae))) (aw (i:=11) bP.nd rfl (Or.inl rfl))
    (ag (bj (i:=12) bP.nd rfl (Or.inl rfl) (bb bh ba (dvQ 2) (iW O1 hr.m rfl G1.mg G1.fn.kp G1.bd (aD (dvQ 1) (aD (nM eX jJ rfl E.b_len iM (aD (dvQ 2) (ae))) (ae)))))) <|
    ag (bj (i:=8) bP.nd rfl (Or.inl rfl) (bC cJ cf (dvQ 8) (ai))) <|
    ag (bj (i:=13) bP.nd rfl (Or.inl rfl) (cR (aD (ff) (aD (dvQ 8) (aD (iW O13 hr.m rfl G13.mg G13.fn.kp G13.bd (aD (dvQ 1) (aD (dvQ 8) (ae)))) (ae)))))) <|
    ag (bG (cE (qN (eo hr) (dvQ 4) (dvQ 12) (fZ)))
     (aj (aP (dq (dvQ 6) (pB (aD (dvQ 12) (aD (nM (lp hr.h) rR rfl E.b_repr we (aD (dvQ 13) (ae))) (ae)))))))
     (aK)) <|
    ag (dA (bN PassesOwn.never rfl (bD (dvQ 3)) (aw (i:=14) bP.nd rfl (Or.inl rfl))
     (aj (aP (cT (dvQ 14) E.k_Road G15.me O15 hr.m G15.bd (aD (dvQ 12) (aD (dvQ 13) (aD (dvQ 9) (ae))))))))) <|
    aj (aP (iW O6 hr.m rfl G6.mg G6.fn.kp G6.bd (aD (dvQ 13) (ae)))))))) <|
  ag (bN PassesOwn.never rfl (fN (dvQ 2)) (aw (i:=12) bP.nd rfl (Or.inl rfl))
   (aj (dA (bN PassesOwn.never rfl (bD (dvQ 3)) (aw (i:=14) bP.nd rfl (Or.inl rfl))
    (aj (aP (cT (dvQ 14) E.k_Road G10.me O10 hr.m G10.bd (aD (dvQ 12) (ae))))))))) <|
  ag (bN PassesOwn.never rfl (jA rfl E.b_range (aD (ai) (aD (ai) (ae)))) (aw (i:=9) bP.nd rfl (Or.inl rfl))
   (aj (bN PassesOwn.never rfl (fk rfl E.b_range (aD (ai) (ae))) (aw (i:=10) bP.nd rfl (Or.inl rfl))
    (aj (aP (iW O7 hr.m rfl G7.mg G7.fn.kp G7.bd (aD (bb bh ba (dvQ 7) (dvQ 10)) (aD (bb bh ba (dvQ 3) (dvQ 10)) (aD (dvQ 9) (ae)))))))))) <|
  ag (bj (i:=15) bP.nd rfl (Or.inl rfl) (bX (ae))) <|
  ag (bj (i:=16) bP.nd rfl (Or.inl rfl) (sY)) <|
  ag (bN PassesOwn.never rfl (gm (bb bh ba (dvQ 7) (ai))) (gK rfl (aJ (aw (i:=17) bP.nd rfl (Or.inl rfl)) (aJ (aw (i:=9) bP.nd rfl (Or.inl rfl)) (eK))))
   (ag (sR (eo hr) (dvQ 16) (dvQ 17) (aaq (u5 (eo hr) (dvQ 16) (dvQ 17) (lH (ae))) (lH (aD (dvQ 9) (ae))))) <|
   aj (bG (bH (k8 hr.h) il (nM eX jJ rfl E.b_len iM (aD (mw (eo hr) (dvQ 16) (dvQ 17)) (ae))) (ai))
    (aj (aP (dq (dvQ 15) (cR (aD (dvQ 17) (aD (dvQ 9) (ae)))))))
    (aK)))) <|
  ag (bG (vV (mD (bH (aev hr) abZ (dvQ 15) (bb bh ba (dvQ 7) (ai))) (ml (bH (zK hr.h) t8 (dk (tU rfl (tD (own:=(["_law_road"]:List Str)) (fr:=[]) rfl) (bD (dvQ 3)) (λ _ _ _ _ _ _=>aw (i:=0) aeZ rfl (Or.inl rfl)) (λ _ _ _ _ _ _=>cL) (λ _ _ _ _ _ _=>vb (dvQ 0) E.k_Road G16.me O16 hr.m G16.bd))) (lH (aD (ai) (aD (ai) (ae))))))))
   (aj (aX (fZ)))
   (aK)) <|
  ag (bN PassesOwn.never rfl (sZ (dvQ 16)) (aw (i:=17) bP.nd rfl (Or.inl rfl))
   (aj (bG (vV (mD (bH (zK hr.h) t8 (nM eX jJ rfl E.b_len iM (aD (mw (eo hr) (dvQ 16) (dvQ 17)) (ae))) (bC cJ cf (ai) (acg vL aeQ rfl E.b_int aeA (aD (fB (aeC hr.h) aaZ (dvQ 17) (dvQ 6)) (ae))))) (ml (qA (cE (iW O17 hr.m rfl G17.mg G17.fn.kp G17.bd (aD (mw (eo hr) (dvQ 16) (dvQ 17)) (aD (bb bh ba (dvQ 17) (ai)) (aD (dvQ 5) (ae))))))))))
    (aj (aX (fZ)))
    (aK)))) <|
  aj (aX (fB (k8 hr.h) il (nM u6 aap rfl E.b_len iM (aD (dvQ 16) (ae))) (dvQ 8)))
theorem all_mk{l:W.OpenLaw}{w:World}{K:FG}{h:Heap}{mg:Str->Option Value}{fa:Addr}(X:K.In h)(G:h.Ns mainGlobals mg)(hfa:mg "law" = some (.ref fa))
  (p0:PFn K "_law_bag" mj)
  (p1:PFn K "_law_take" iZ)
  {f2:Addr}{oc2 kV2 dc2 pm2 cd2 ct2:Value}{od2 an2:Option Addr}{sl2:Array (Option Value)}
  (a2:W.findIn K (.ref aq) "__init__" = some (some (.ref f2)))(i2:W.isFn K (.ref f2)=true)(l2:K.lookup f2=some ⟨oc2,od2,.func (W.fnOf "__init__" "Road.__init__" (bo cG) (aS cG) (au cG) .none kV2 dc2 pm2 an2 cd2 ct2),sl2⟩)(c2:W.codeIn K cd2 "Road.__init__" = true)(k2:W.keepIn K (.ref f2)=true)
  (p3:PMf K aq "is_cut" "Road.is_cut" c9)
  (p4:PMf K aq "is_due" "Road.is_due" cZ)
  {f5:Addr}{oc5 kV5 dc5 pm5 cd5 ct5:Value}{od5 an5:Option Addr}{sl5:Array (Option Value)}
  (a5:W.findIn K (.ref aq) "come" = some (some (.ref f5)))(i5:W.isFn K (.ref f5)=true)(l5:K.lookup f5=some ⟨oc5,od5,.func (W.fnOf "come" "Road.come" (bo cH) (aS cH) (au cH) .none kV5 dc5 pm5 an5 cd5 ct5),sl5⟩)(c5:W.codeIn K cd5 "Road.come" = true)(k5:W.keepIn K (.ref f5)=true)
  (cc5:cd5=.ref cC)
  {f6:Addr}{oc6 kV6 dc6 pm6 cd6 ct6:Value}{od6 an6:Option Addr}{sl6:Array (Option Value)}
  (a6:W.nsIn K mainGlobals "_law_changed" = some (some (.ref f6)))(l6:K.lookup f6=some ⟨oc6,od6,.func (W.fnOf "_law_changed" "_law_changed" (bo cj) (aS cj) (au cj) .none kV6 dc6 pm6 an6 cd6 ct6),sl6⟩)(c6:W.codeIn K cd6 "_law_changed" = true)(k6:W.keepIn K (.ref f6)=true)
  (p7:PFn K "_law_noted" gX)
  (p8:PMf K aq "late" "Road.late" fw)
  (p9:PMf K aq "cut" "Road.cut" fL)
  (p10:PMf K aq "join" "Road.join" fo)
  (p11:PMf K aq "twice" "Road.twice" dO)
  (p12:PFn K "_law_settings" dM)
  (p13:PFn K "_law_thing" gG)
  {f14:Addr}{oc14 kV14 dc14 pm14 cd14 ct14:Value}{od14 an14:Option Addr}{sl14:Array (Option Value)}
  (a14:W.nsIn K mainGlobals "thing_copied" = some (some (.ref f14)))(l14:K.lookup f14=some ⟨oc14,od14,.func (W.fnOf "thing_copied" "thing_copied" (bo bM) (aS bM) (au bM) .none kV14 dc14 pm14 an14 cd14 ct14),sl14⟩)(c14:W.codeIn K cd14 "thing_copied" = true)(k14:W.keepIn K (.ref f14)=true)
  (p15:PMf K aq "put" "Road.put" fM)
  (p16:PMf K aq "many" "Road.many" fj)
  (p17:PFn K "_law_apart" gF)
  {f18:Addr}{oc18 kV18 dc18 pm18 cd18 ct18:Value}{od18 an18:Option Addr}{sl18:Array (Option Value)}
  (a18:W.nsIn K mainGlobals "law" = some (some (.ref f18)))(l18:K.lookup f18=some ⟨oc18,od18,.func (W.fnOf "law" "law" (bo mS) (aS mS) (au mS) .none kV18 dc18 pm18 an18 cd18 ct18),sl18⟩)(c18:W.codeIn K cd18 "law" = true)(k18:W.keepIn K (.ref f18)=true)
  (aC_Road:W.nsIn K mainGlobals "Road" = some (some (.ref aq)))(pg_Road:W.plainGet K aq Str.empty=true)(hd_Road:W.hasDictIn K aq=true)(po_Road:W.plainOver K aq=true)(sa_Road:W.findIn K (.ref aq) "__setattr__" = some (some (.builtin "object.__setattr__")))(mk_Road:W.makesIn K aq=true)(kc_Road:W.keepIn K (.ref aq)=true)
  (xf_h_Road_come:W.codeHdIn K cC az=true)
  (n_Road_cut_off:W.findIn K (.ref aq) "cut_off" = some none)
  (n_Road_doubled:W.findIn K (.ref aq) "doubled" = some none)
  (n_Road_lateness:W.findIn K (.ref aq) "lateness" = some none)
  (n_Road_messages:W.findIn K (.ref aq) "messages" = some none)
  (b_abs:W.nsIn K mainGlobals "abs" = some none)
  (b_dict:W.nsIn K mainGlobals "dict" = some none)
  (b_int:W.nsIn K mainGlobals "int" = some none)
  (b_isinstance:W.nsIn K mainGlobals "isinstance" = some none)
  (b_len:W.nsIn K mainGlobals "len" = some none)
  (b_list:W.nsIn K mainGlobals "list" = some none)
  (b_range:W.nsIn K mainGlobals "range" = some none)
  (b_repr:W.nsIn K mainGlobals "repr" = some none)
  (b_sorted:W.nsIn K mainGlobals "sorted" = some none)
  (b_str:W.nsIn K mainGlobals "str" = some none)
  (b_tuple:W.nsIn K mainGlobals "tuple" = some none) :
  ∃ fq:FuncData,(∀ (s:Shared) (v:Value),BindsTo s fq ⟨[v],[]⟩ [("_law_script",v)])/\∀ base:Heap,K.In base->base.Ns mainGlobals mg->cX l.prog w K mg base CX0 9 fa fq q_0 (dR K j7):=by
 have e:=hfa.symm.trans (W.mg_of X G a18);cases e;have E:Env K mg:=⟨⟨pg_Road,hd_Road,po_Road,sa_Road⟩,W.mg_of X G aC_Road,xf_h_Road_come,n_Road_cut_off,n_Road_doubled,n_Road_lateness,n_Road_messages,W.mg_none_of X G b_abs,W.mg_none_of X G b_dict,W.mg_none_of X G b_int,W.mg_none_of X G b_isinstance,W.mg_none_of X G b_len,W.mg_none_of X G b_list,W.mg_none_of X G b_range,W.mg_none_of X G b_repr,W.mg_none_of X G b_sorted,W.mg_none_of X G b_str,W.mg_none_of X G b_tuple⟩;obtain⟨_,_,G0⟩:=p0.fn (ps:=q_0) X G (by walk_at "b1");obtain⟨_,_,G1⟩:=p1.fn (ps:=q_1) X G (by walk_at "b2");have G2:Mi K aq "Road.__init__" cG q_2 _ _:=age a2 i2 l2 c2 k2 mk_Road kc_Road (λ _ _ _ _ _ _ us hl=>by obtain⟨_,_,rfl⟩:=D.xi hl;rfl);obtain⟨_,_,G3⟩:=p3.mf (ps:=q_3) (by walk_at "b2");obtain⟨_,_,G4⟩:=p4.mf (ps:=q_4) (by walk_at "b3");have G5:Mf K aq "come" "Road.come" cH q_5 _ _:=adE a5 i5 l5 c5 k5 (λ _ _ _ _ _ _ us hl=>by obtain⟨_,_,rfl⟩:=D.xi hl;rfl);have G6:Fn K mg "_law_changed" cj wK _ _:=xv X G a6 l6 c6 k6 (λ _ _ _ _ _ _ us hl=>by obtain⟨_,rfl⟩:=D.vG hl;rfl);obtain⟨_,_,G7⟩:=p7.fn (ps:=q_6) X G (by walk_at "b3");obtain⟨_,_,G8⟩:=p8.mf (ps:=q_7) (by walk_at "b3");obtain⟨_,_,G9⟩:=p9.mf (ps:=q_3) (by walk_at "b2");obtain⟨_,_,G10⟩:=p10.mf (ps:=q_3) (by walk_at "b2");obtain⟨_,_,G11⟩:=p11.mf (ps:=q_8) (by walk_at "b3");obtain⟨_,_,G12⟩:=p12.fn (ps:=q_9) X G (by walk_at "b4");obtain⟨_,_,G13⟩:=p13.fn (ps:=acu) X G (by walk_at "b2");have G14:Fn K mg "thing_copied" bM zN _ _:=xv X G a14 l14 c14 k14 (λ _ _ _ _ _ _ us hl=>by obtain⟨_,rfl⟩:=D.vG hl;rfl);obtain⟨_,_,G15⟩:=p15.mf (ps:=acn) (by walk_at "b4");obtain⟨_,_,G16⟩:=p16.mf (ps:=aci) (by walk_at "b1");obtain⟨_,_,G17⟩:=p17.fn (ps:=acm) X G (by walk_at "b3");have G18:Fn K mg "law" mS q_0 _ _:=xv X G a18 l18 c18 k18 (λ _ _ _ _ _ _ us hl=>by obtain⟨_,rfl⟩:=D.vG hl;rfl);refine⟨W.fnOf "law" "law" (bo mS) (aS mS) (au mS) .none kV18 dc18 pm18 an18 cd18 ct18,λ s v=>.of_eq rfl,λ base _ _=>?_⟩;have z0:uE l.prog w K mg base:=⟨_,_,G0,yz E G0⟩;have z1:iY l.prog w K mg base:=⟨_,_,G1,uf E G1⟩;have z2:j5 l.prog w K mg base:=⟨_,_,G2,mZ E G2⟩;have z3:gR l.prog w K mg base:=⟨_,_,G3,kJ E G3⟩;have z4:gT l.prog w K mg base:=⟨_,_,G4,kH E G4⟩;have z5:jk l.prog w K mg base:=⟨_,_,G5,oJ E G5 cc5 z4⟩;have O6:=(cg (P:=l.prog) (w:=w) (base:=base) E G6 (j:=6) (cg (P:=l.prog) (w:=w) (base:=base) E G6 (j:=5) (cg (P:=l.prog) (w:=w) (base:=base) E G6 (j:=4) (cg (P:=l.prog) (w:=w) (base:=base) E G6 (j:=3) (cg (P:=l.prog) (w:=w) (base:=base) E G6 (j:=2) (cg (P:=l.prog) (w:=w) (base:=base) E G6 (j:=1) (cg (P:=l.prog) (w:=w) (base:=base) E G6 (j:=0) (rV jh:cX l.prog w K mg base CX0 0 _ _ wK (dR K (bw 0))))))))));have z7:oj l.prog w K mg base:=⟨_,_,G7,se E G7 z5 G6 O6⟩;have z8:jM l.prog w K mg base:=⟨_,_,G8,nQ E G8⟩;have z9:kN l.prog w K mg base:=⟨_,_,G9,pS E G9⟩;have z10:gw l.prog w K mg base:=⟨_,_,G10,nS E G10⟩;have z11:iL l.prog w K mg base:=⟨_,_,G11,lQ E G11⟩;have z12:iH l.prog w K mg base:=⟨_,_,G12,l8 E G12 z1 z8 z9 z10 z11⟩;have z13:oH l.prog w K mg base:=⟨_,_,G13,so E G13 z1⟩;have O14:=(bB (P:=l.prog) (w:=w) (base:=base) E G14 (j:=6) (bB (P:=l.prog) (w:=w) (base:=base) E G14 (j:=5) (bB (P:=l.prog) (w:=w) (base:=base) E G14 (j:=4) (bB (P:=l.prog) (w:=w) (base:=base) E G14 (j:=3) (bB (P:=l.prog) (w:=w) (base:=base) E G14 (j:=2) (bB (P:=l.prog) (w:=w) (base:=base) E G14 (j:=1) (bB (P:=l.prog) (w:=w) (base:=base) E G14 (j:=0) (rV gC:cX l.prog w K mg base CX0 0 _ _ zN (dR K (aE 0))))))))));have z15:kK l.prog w K mg base:=⟨_,_,G15,pq E G15 G14 O14⟩;have z16:jr l.prog w K mg base:=⟨_,_,G16,ot E G16⟩;have z17:nO l.prog w K mg base:=⟨_,_,G17,sE E G17⟩;have O18:=adA (P:=l.prog) (w:=w) (base:=base) E G18 z0 z1 z2 z3 z7 z12 z13 z15 G6 O6 z10 z16 z17;exact O18
end
theorem walk{l:W.OpenLaw}{q:Program}{loose:List Str}{XP:(Str->Option Value)->Heap->Prop}{YP:World->Heap->Prop}{d:DefRec}{K:Params->FG}(hq:PyProof.Rows.importsNone q=true)(hn:l.most=some 63)(hdf:d.params.defaults=[])
  (hT:∀ w:World,W.codeHdIn (K w.params) cC az=true/\(K w.params).lookup az=none)(hY:∀ (w:World) (h:Heap),YP w h->(K w.params).In h/\∀ T∈[az],h.get? T=some {cls:=.none,data:=.fields #[]})
  (F:∀ (w:World) (mg:Str->Option Value) (fa:Addr) (h:Heap),(K w.params).In h->h.Ns mainGlobals mg->mg d.name=some (.ref fa) ->
   ∃ fq:FuncData,(∀ (s:Shared) (u:Value),BindsTo s fq ⟨[u],[]⟩ [("_law_script",u)])/\∀ base:Heap,(K w.params).In base->base.Ns mainGlobals mg->cX l.prog w (K w.params) mg base CX0 9 fa fq q_0 (dR (K w.params) j7)) :
  W.WalkO q loose XP YP l.row.toRowW d [] (λ f vs=>PySem.call f vs):=
 L2.xO (n:=63) (k:=9) (x:= "_law_script") (CX:=λ _=>CX0) (sp:=λ w=>dR (K w.params) j7) hq hn (by decide) hdf ⟨rfl,rfl,by decide,by decide⟩ [az] (λ w T h=>by rw[List.mem_singleton.mp h];exact⟨⟨_,(hT w).1⟩,(hT w).2⟩) hY F (λ _ H a ns hl hO hB hS=>D.sI (q:=dt) (lpos:=⟨43,77,43,103⟩) hl hO hB hS wR) λ _ _ _ _ _ z=>z
end K53
end
namespace PySem.W.Fast
def tw4090924969886504284:=0
def tw14641616668089137780:=0
def tw9684417272895841327:=0
def tw3171753324372200463:=0
def tw6531109937796730794:=0
def tw13854409902165938026:=0
def tw4297326235917757127:=0
def tw11114640818794927397:=0
def tw117577981004805201:=0
end PySem.W.Fast
open PySem PySem.W PyProof.Rows
local macro_rules | `(tactic| walk_at "kf")=>`(tactic| (refine' D.aeB ?a ?l ?c ?k; (case a=>k_is); (case l=>k_is); (case c=>k_is); (case k=>k_is)))
local macro_rules | `(tactic| walk_at "km")=>`(tactic| (refine' D.ado ?a ?i ?l ?c ?k; (case a=>k_is); (case i=>k_is); (case l=>k_is); (case c=>k_is); (case k=>k_is)))
local macro_rules | `(tactic| walk_at "kx")=>`(tactic| (refine' D.pxi_mk ?a ?i ?l ?c ?k ?m ?t ?n; (case a=>k_is); (case i=>k_is); (case l=>k_is); (case c=>k_is); (case k=>k_is); (case m=>kernel_rfl); (case t=>k_is); (case n=>k_is)))
local macro_rules | `(tactic| walk_at "ke")=>`(tactic| (refine' ⟨?a,?b,?c,?d,?e⟩; (case a=>kernel_rfl); (case b=>k_is); (case c=>k_is); (case d=>k_is); (case e=>k_is)))
set_option maxRecDepth 100000
set_option maxHeartbeats 0
theorem PySem.Challenge.cw_placedworks_k53_twice_holds : PySem.Challenge.rw_placedworks_k53_twice.Holds := by
 w_on;o_law;k_head; (case hw=>w_witness2)
 k_fill
 refine K53.walk (l:=PySem.Challenge.rw_placedworks_k53_twice) ?Q rfl rfl ?T (λ w h Y=>⟨PySem.W.km_in_of Y,PySem.W.km_tabs_of Y⟩) ?F
 case Q=>kernel_rfl
 case T=>(intro w;exact⟨by kernel_rfl,by kernel_rfl⟩)
 case F =>
  intro w mg fa h KX G hmg;refine' K53.all_mk KX G hmg ?v0 ?v1 ?v2 ?v3 ?v4 ?v5 ?v6 ?v7 ?v8 ?v9 ?v10 ?v11 ?v12 ?v13 ?v14 ?v15 ?v16 ?v17 ?v18 ?v19 ?v20 ?v21 ?v22 ?v23 ?v24 ?v25 ?v26 ?v27 ?v28 ?v29 ?v30 ?v31 ?v32 ?v33 ?v34 ?v35 ?v36 ?v37 ?v38 ?v39 ?v40 ?v41 ?v42 ?v43 ?v44 ?v45 ?v46 ?v47 ?v48 ?v49 ?v50 ?v51 ?v52 ?v53 ?v54 ?v55 ?v56 ?v57 ?v58 ?v59
  (case v0 | v1 | v19 | v24 | v25 | v32=>walk_at "kf")
  (case v2 | v3 | v4 | v5 | v6 | v9 | v10 | v11 | v12 | v13 | v15 | v16 | v17 | v18 | v26 | v27 | v28 | v29 | v33 | v34 | v35 | v36 | v37 | v38 | v39 | v40 | v41 | v42 | v43 | v45 | v46 | v47 | v48 | v49 | v50 | v51 | v52 | v53 | v54 | v55 | v56 | v57 | v58 | v59=>k_is)
  (case v7 | v8 | v20 | v21 | v22 | v23 | v30 | v31=>walk_at "km")
  (case v14=>exact rfl)
  (case v44=>kernel_rfl)
