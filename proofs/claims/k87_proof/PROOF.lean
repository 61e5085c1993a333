import PyProof.Rows.All
import Wide.All
import OpenK.AllK
import Wide.FinOn
import Lean
import PyProof.EqAt
import PyProof.EqKinds
import PyProof.TupleCall
import KE.KSortTup
import KE.KDictSum
import PyProof.Rows.Range3
import PyProof.Rows.SortRev
import PyProof.StrBlock2
import PyProof.ZipIter
import PyProof.Rows.ZipGen
import PyProof.NeKinds
import PyProof.DictCompW
import PyProof.DictWalks
import PyProof.AttrMissHeap
import PyProof.WalksS
import KE.KDictOf
import KE.KListMore
import KE.KEqDict
import PyProof.StationsW
import PyProof.InstStoreFacts
import PyProof.ExcBaseAll.ValueError
import PyProof.ExcClass2
import PyProof.RulesAs
import KE.KTryMore
import PyProof.ExcArgs
import KE.KIsAll
import OpenK.KOwn
import PyProof.P3In
import PyProof.DictUpdate
import PyProof.MeetsSeq2
import KE.KIntText
import KE.KRevSl
import PyProof.Rows.StrLawsPart
import PyProof.EnumMake
import PyProof.Draws
import PyProof.ListRange
import PyProof.TupleOfStr
import KE.KLam
import KE.KNestM
import KE.KMinKey
import PySem.Challenge.RW_placedworks_k87_shares_refused
set_option genSizeOf false
set_option genSizeOfSpec false
set_option bootstrap.genMatcherCode false
set_option Elab.async false
set_option linter.all false
set_option maxRecDepth 100000
abbrev FG:=PySem.W.Frag
abbrev PN:=List (PySem.Addr×PySem.Obj)
abbrev VP:=PySem.Value->PySem.Shared->Prop
abbrev ND(x:PySem.Str):Prop:=(x==("__debug__" : PySem.Str))=false
section
open PySem PySem.Spec PyProof.Rows
namespace L2
abbrev Key:=Sum Int Str
def p7:Key->Value->Bool
 | .inl k,v=>Value.isInt k v
 | .inr x,v=>Value.isStrOf x v
def ajc(w:World):Key->Int
 | .inl k=>hashInt k
 | .inr x=>hashStr w x
theorem bI:∀ {k:Key} {v:Value},p7 k v=true->(∃ i t,k=Sum.inl i/\v=Value.int i t)\/(∃ x t,k=Sum.inr x/\v=Value.str x t)
 | .inl i,v,h=>by obtain⟨t,e⟩:=Value.isInt_shape (k:=i) (v:=v) h;exact .inl ⟨i,t,rfl,e⟩
 | .inr x,v,h=>by obtain⟨t,e⟩:=Value.isStrOf_shape (x:=x) (v:=v) h;exact .inr ⟨x,t,rfl,e⟩
theorem yn(i:Int)(t:Tok):p7 (.inl i) (.int i t)=true:=by simp[p7,Value.isInt]
theorem vj(x:Str)(t:Tok):p7 (.inr x) (.str x t)=true:=by simp[p7,Value.isStrOf]
theorem aeU(a b:Int):decide ((Sum.inl a:Key)=Sum.inl b)=(a==b):=by
 by_cases e:a=b
 ·subst e;simp
 ·have h:¬ (Sum.inl a:Key)=Sum.inl b:=λ q=>e (Sum.inl.inj q);rw[decide_eq_false h];exact(beq_eq_false_iff_ne.mpr e).symm
theorem afK(a b:Str):decide ((Sum.inr a:Key)=Sum.inr b)=decide (a=b):=by
 by_cases e:a=b
 ·subst e;simp
 ·have h:¬ (Sum.inr a:Key)=Sum.inr b:=λ q=>e (Sum.inr.inj q);rw[decide_eq_false h,decide_eq_false e]
theorem agv(a:Int)(b:Str):decide ((Sum.inl a:Key)=Sum.inr b)=false:=decide_eq_false (λ q=>nomatch q)
theorem agd(a:Str)(b:Int):decide ((Sum.inr a:Key)=Sum.inl b)=false:=decide_eq_false (λ q=>nomatch q)
def ba(prog:Program)(w:World):PySem.KeyKind prog w Key where
 is:=p7
 hash:=ajc w
 inj:=λ v a b ha hb=>by
  rcases bI ha with ⟨i,t,rfl,rfl⟩ | ⟨x,t,rfl,rfl⟩
  ·rcases bI hb with ⟨j,u,rfl,e⟩ | ⟨y,u,rfl,e⟩
   ·injection e with e1 _;rw[e1]
   ·exact nomatch e
  ·rcases bI hb with ⟨j,u,rfl,e⟩ | ⟨y,u,rfl,e⟩
   ·exact nomatch e
   ·injection e with e1 _;rw[e1]
 byValue:=λ k v h=>by
  rcases bI h with ⟨i,t,rfl,rfl⟩ | ⟨x,t,rfl,rfl⟩<;>rfl
 pyHash:=λ hv h=>by
  rcases bI hv with ⟨i,t,rfl,rfl⟩ | ⟨x,t,rfl,rfl⟩
  ·exact wpAny_pyHash_int h
  ·exact wpAny_pyHash_str h
 eqBool:=λ hu hv h=>by
  rcases bI hu with ⟨i,t,rfl,rfl⟩ | ⟨x,t,rfl,rfl⟩
  ·rcases bI hv with ⟨j,u,rfl,rfl⟩ | ⟨y,u,rfl,rfl⟩
   ·rw[aeU] at h;exact wpAny_eqBool_int h
   ·rw[agv] at h;exact SeqAt.EqAt.int_str i t y u _ _ _ _ h
  ·rcases bI hv with ⟨j,u,rfl,rfl⟩ | ⟨y,u,rfl,rfl⟩
   ·rw[agd] at h;exact SeqAt.EqAt.str_int x t j u _ _ _ _ h
   ·rw[afK] at h;exact wpAny_eqBool_str h
 «strs»:=λ k x t v h=>by
  rcases bI h with ⟨i,u,rfl,e⟩ | ⟨y,u,rfl,e⟩
  ·exact nomatch e
  ·injection e with e1 _
   subst e1;cases v<;>rfl
theorem u1(prog:Program)(w:World)(k:Key)(v:Value):(ba prog w).is k v=p7 k v:=rfl
theorem qC(prog:Program)(w:World)(i:Int)(t:Tok):(ba prog w).is (.inl i) (.int i t)=true:=yn i t
theorem qE(prog:Program)(w:World)(x:Str)(t:Tok):(ba prog w).is (.inr x) (.str x t)=true:=vj x t
inductive V where
 | non | bl (b:Bool) | int (i:Int) | str (x:Str) | byt (b:Array UInt8) | flt (b:UInt64) | ref (a:Addr) | ty (n:String)
 deriving DecidableEq
def RelV:V->Value->Prop
 | .non,u=>u=Value.none
 | .bl b,u=>u=Value.bool b
 | .int i,u=>∃ t,u=Value.int i t
 | .str x,u=>∃ t,u=Value.str x t
 | .byt b,u=>∃ t,u=Value.bytes b t
 | .flt b,u=>∃ t,u=Value.float b t
 | .ref a,u=>u=Value.ref a
 | .ty n,u=>u=Value.type n
abbrev Vals:List V->List Value->Prop:=Paired RelV
theorem Vals.length(r:Vals xs us):xs.length=us.length:=Paired.length r
theorem Vals.get:∀ {xs:List V} {us:List Value} {i:Nat} {x:V},Vals xs us->xs[i]? =some x->∃ u,us[i]? =some u/\RelV x u
 | _,_,_,_,.nil,e=>by simp at e
 | _,_,0,_,.cons r _,e=>by simp at e;subst e;exact⟨_,rfl,r⟩
 | _,_,i+1,x,.cons _ t,e=>by obtain⟨u,h1,h2⟩:=Vals.get (i:=i) (x:=x) t (by simpa using e);exact⟨u,by simpa using h1,h2⟩
theorem Vals.set(r:RelV x u):∀ {xs:List V} {us:List Value} (i:Nat),Vals xs us->Vals (xs.set i x) (us.set i u)
 | _,_,_,.nil=>.nil
 | _,_,0,.cons _ t=>.cons r t
 | _,_,i+1,.cons q t=>.cons q (Vals.set r i t)
theorem Vals.append:∀ {xs ys:List V} {us ws:List Value},Vals xs us->Vals ys ws->Vals (xs++ys) (us++ws)
 | _,_,_,_,.nil,s=>s
 | _,_,_,_,.cons r t,s=>.cons r (Vals.append t s)
theorem Vals.take:∀ {xs:List V} {us:List Value} (n:Nat),Vals xs us->Vals (xs.take n) (us.take n)
 | _,_,0,_=>.nil
 | _,_,_+1,.nil=>.nil
 | _,_,n+1,.cons r t=>.cons r (Vals.take n t)
theorem Vals.drop:∀ {xs:List V} {us:List Value} (n:Nat),Vals xs us->Vals (xs.drop n) (us.drop n)
 | _,_,0,r=>r
 | _,_,_+1,.nil=>.nil
 | _,_,n+1,.cons _ t=>Vals.drop n t
def oh:Option V->Option Value->Prop
 | some v,some u=>RelV v u
 | none,none=>True
 | _,_=>False
def KV:List (κ×V)->List (κ×Value)->Prop:=Paired λ(p:κ×V) (q:κ×Value)=>p.1=q.1/\RelV p.2 q.2
def kV:Key->V
 | .inl i=>.int i
 | .inr x=>.str x
inductive HO where
 | lst (xs:List V)
 | tup (xs:List V)
 | dK (kvs:List (Key×V)) | dT (kvs:List (List Key×V))
 | set (S:Int->Bool) (n:Nat)
 | ins (C dx:Addr) (fs:List (Str×V))
 | own (x:Addr)
 | xd (fs:List (Str×V))
 | met (f x:Addr)
 | rng (lo hi:Int)
 | frz (o:Obj) (u:HO)
 | tbl (ps:Array Value)
 | ext (φ:Heap->Prop)
abbrev Hp:=Addr->Option HO
def upd(H:Hp)(a:Addr)(o:HO):Hp:=λ b=>if b=a then some o else H b
theorem au:upd H a o a=some o:=by unfold upd;rw[if_pos rfl]
theorem aq(h:b≠a):upd H a o b=H b:=by unfold upd;rw[if_neg h]
theorem xU:upd (upd H a o) a u=upd H a u:=by
 funext b;unfold upd;split<;>rfl
theorem uC{H:Hp}{a b:Addr}{o u:HO}(h:H a=some o)(h':H b=some u)(d:o≠u):a≠b:=by intro e;subst e;rw[h] at h';exact d (Option.some.inj h')
theorem aS{H:Hp}{a b:Addr}{o:HO}(h:H a=some o)(h':H b=none):a≠b:=by intro e;subst e;rw[h] at h';cases h'
def aby(h:Heap)(a:Addr)(items:Array Value):Prop:=∃ o,h.get? a=some o/\o.cls=.type "tuple" /\ o.dict=none/\∃ n,o.data=.seq items n
theorem aby.tup(x:aby h a items):IsTup h a items:=let ⟨o,h1,h2,_,h3⟩:=x; ⟨o,h1,h2,h3⟩
theorem aby.new(h:Heap)(items:Array Value):aby (h.push {cls:=.type "tuple",data:=.seq items}) h.objs.size items:=⟨_,Heap.get?_push_size _ rfl,rfl,rfl,_,rfl⟩
section
variable (P:Program)(w:World)
def cF(H:Hp)(h:Heap)(a:Addr):HO->Prop
 | .lst xs=>xs.length<=sizeLine/\∃ (its:List Value) (n:Nat),Vals xs its/\h.get? a=some {cls:=.type "list",data:=.seq its.toArray n}
 | .tup xs=>xs.length<=sizeLine/\∃ its:List Value,Vals xs its/\aby h a its.toArray
 | .dK kvs=>kvs.length<=sizeLine/\(a==sysModules)=false/\∃ vs,KV kvs vs/\h.DictOf (ba P w) a vs
 | .dT kvs=>kvs.length<=sizeLine/\(a==sysModules)=false/\∃ xs:List (List Key×Addr×Value),
   Paired (λ(p:List Key×V) (q:List Key×Addr×Value)=>p.1=q.1/\H q.2.1=some (.tup (p.1.map kV))/\RelV p.2 q.2.2) kvs xs /\
   ∃ o es ep,h.get? a=some o/\o.ExactDict/\o.data=.dict es ep/\es.toList=xs.map (entryOfKey (tupleKind (ba P w)))/\(xs.map (·.1)).Nodup
 | .set S n=>h.SetOf (intKind P w) a S n
 | .ins C dx fs=>H dx=some (.own a)/\fs.length<=1000/\dx≠a/\h.get? a=some (W.instObj C dx) /\
   ∃ mA,h.Ns1 dx mA/\(∀ f,oh (fs.lookup f) (mA f))/\PySem.Within mA (fs.map (·.1))
 | .own _=>∃ o,h.get? a=some o
 | .xd fs=>∃ mA,h.Ns1 a mA/\∀ f,oh (fs.lookup f) (mA f)
 | .rng lo hi=>∃ t u v,h.get? a=some {cls:=.type "range",data:=.fields #[.int lo t,.int hi u,.int 1 v]}
 | .frz o u=>h.get? a=some o/\cF H h a u
 | .tbl ps=>h.get? a=some {cls:=.none,data:=.fields ps}
 | .met f x=>h.get? a=some (W.methodObj (.ref f) (.ref x))
 | .ext φ=>φ h/\(∃ o,h.get? a=some o)/\∀ h1 h2:Heap,φ h1->(∀ o,h1.get? a=some o->h2.get? a=some o)->φ h2
def HOk(H:Hp)(h:Heap):Prop:=∀ a o,H a=some o->cF P w H h a o
end
section
variable {P:Program}{w:World}{H H':Hp}{h h':Heap}{a:Addr}{o:HO}
theorem cF.lt(x:cF P w H h a o):a<h.objs.size:=by
 cases o with
 | lst xs=>obtain⟨_,_,_,_,e⟩:=x;exact Heap.lt_size e
 | tup xs=>obtain⟨_,_,_,p⟩:=x;exact p.tup.lt
 | dK kvs=>obtain⟨_,_,_,_,o,_,_,e,_⟩:=x;exact Heap.lt_size e
 | dT kvs=>obtain⟨_,_,_,_,o,_,_,e,_⟩:=x;exact Heap.lt_size e
 | set S n=>obtain⟨o,_,_,_,e,_⟩:=x;exact Heap.lt_size e
 | ins C dx fs=>obtain⟨_,_,_,e,_⟩:=x;exact Heap.lt_size e
 | own y=>obtain⟨_,e⟩:=x;exact Heap.lt_size e
 | xd fs=>obtain⟨_,⟨_,_,_,e,_⟩,_⟩:=x;exact Heap.lt_size e
 | rng lo hi=>obtain⟨_,_,_,e⟩:=x;exact Heap.lt_size e
 | frz ob u=>obtain⟨e,_⟩:=x;exact Heap.lt_size e
 | tbl ps=>exact Heap.lt_size (show h.get? a=some _ from x)
 | met f y=>exact Heap.lt_size (show h.get? a=some _ from x)
 | ext φ=>obtain⟨_,⟨_,e⟩,_⟩:=x;exact Heap.lt_size e
theorem Paired.gF:∀ {l₁:List α} {l₂:List β},Paired F l₁ l₂->(∀ a b,F a b->G a b)->Paired G l₁ l₂
 | _,_,.nil,_=>.nil
 | _,_,.cons r t,f=>.cons (f _ _ r) (Paired.gF t f)
theorem cF.qx(x:cF P w H h a o)(k:∀ b u,(b=a\/H b=some (.own a))->h.get? b=some u->h'.get? b=some u)
  (ho:∀ b,H b=some (.own a)->H' b=some (.own a))(ht:∀ b xs,H b=some (.tup xs)->H' b=some (.tup xs)):cF P w H' h' a o:=by
 induction o with
 | lst xs=>obtain⟨z,its,n,r,e⟩:=x;exact⟨z,its,n,r,k _ _ (.inl rfl) e⟩
 | tup xs=>obtain⟨z,its,r,ob,e,c⟩:=x;exact⟨z,its,r,ob,k _ _ (.inl rfl) e,c⟩
 | dK kvs=>obtain⟨z,y,vs,r,ob,es,ep,e,c⟩:=x;exact⟨z,y,vs,r,ob,es,ep,k _ _ (.inl rfl) e,c⟩
 | dT kvs =>
  obtain⟨z,y,xs,r,ob,es,ep,e,c⟩:=x;exact⟨z,y,xs,Paired.gF r λ p q z=>⟨z.1,ht _ _ z.2.1,z.2.2⟩,ob,es,ep,k _ _ (.inl rfl) e,c⟩
 | set S n=>obtain⟨ob,es,ep,t,e,c⟩:=x;exact⟨ob,es,ep,t,k _ _ (.inl rfl) e,c⟩
 | ins C dx fs =>
  obtain⟨d,z,ne,e,mA,⟨od,es,ep,e2,c⟩,r⟩:=x;exact⟨ho _ d,z,ne,k _ _ (.inl rfl) e,mA,⟨od,es,ep,k _ _ (.inr d) e2,c⟩,r⟩
 | own y=>obtain⟨ob,e⟩:=x;exact⟨ob,k _ _ (.inl rfl) e⟩
 | xd fs=>obtain⟨mA,⟨od,es,ep,e,c⟩,r⟩:=x;exact⟨mA,⟨od,es,ep,k _ _ (.inl rfl) e,c⟩,r⟩
 | rng lo hi=>obtain⟨t,u,v,e⟩:=x;exact⟨t,u,v,k _ _ (.inl rfl) e⟩
 | frz ob u ih=>obtain⟨e,q⟩:=x;exact⟨k _ _ (.inl rfl) e,ih q⟩
 | tbl ps =>
  have e:h.get? a=some {cls:=.none,data:=.fields ps}:=x;show h'.get? a=some {cls:=.none,data:=.fields ps};exact k a _ (.inl rfl) e
 | met f y =>
  have e:h.get? a=some (W.methodObj (.ref f) (.ref y)):=x;show h'.get? a=some (W.methodObj (.ref f) (.ref y));exact k a _ (.inl rfl) e
 | ext φ=>obtain⟨p,⟨o,e⟩,st⟩:=x;exact⟨st _ _ p λ o q=>k _ _ (.inl rfl) q,⟨o,k _ _ (.inl rfl) e⟩,st⟩
theorem HOk.lt(x:HOk P w H h)(e:H a=some o):a<h.objs.size:=(x a o e).lt
theorem HOk.fresh(x:HOk P w H h)(e:h.objs.size<=a):H a=none:=by
 cases q:H a with
 | none=>rfl
 | some u=>exact absurd (Nat.lt_of_lt_of_le (x.lt q) e) (Nat.lt_irrefl _)
theorem HOk.kept(x:HOk P w H h)(k:∀ b u,h.get? b=some u->h'.get? b=some u):HOk P w H h':=λ a o e =>
 (x a o e).qx (λ b u _ q=>k b u q) (λ _ q=>q) λ _ _ q=>q
theorem HOk.laid(x:HOk P w H h)(k:∀ b u,h.get? b=some u->h'.get? b=some u)(hp:h.objs.size<=a)(new:cF P w (upd H a o) h' a o):HOk P w (upd H a o) h':=λ b u e=>by
 have hn:=x.fresh hp
 by_cases hb:b=a
 ·subst hb;rw[au] at e;cases e;exact new
 ·rw[aq hb] at e;exact(x b u e).qx (λ c v _ q=>k c v q) (λ c q=>by rw[aq (aS q hn)];exact q) λ c xs q=>by rw[aq (aS q hn)];exact q
end
def Rd(H:Hp)(a:Addr)(u:HO):Prop:=H a=some u\/∃ o,H a=some (.frz o u)
theorem Rd.ok(r:Rd H a u)(x:HOk P w H h):cF P w H h a u:=by
 rcases r with r | ⟨o,r⟩
 ·exact x a u r
 ·obtain⟨_,q⟩:=x a _ r;exact q
def Mut:Option HO->Prop
 | some (.lst _)=>True
 | some (.dK _)=>True
 | some (.dT _)=>True
 | some (.set _ _)=>True
 | some (.ins _ _ _)=>True
 | some (.ext _)=>True
 | _=>False
section
variable {P:Program}{w:World}{H:Hp}{h h':Heap}{x e:Addr}{o':HO}
theorem HOk.write(ok:HOk P w H h)(mu:Mut (H x))(he:e=x\/H e=some (.own x))(k:∀ b u,b≠e->h.get? b=some u->h'.get? b=some u)(heo:∃ u,h'.get? e=some u)
  (new:cF P w (upd H x o') h' x o'):HOk P w (upd H x o') h':=λ b u q=>by
 have nown:∀ c y,H c=some (.own y)->c≠x:=λ c y r z=>by subst z;rw[r] at mu;exact mu
 have ntup:∀ c xs,H c=some (.tup xs)->c≠x:=λ c xs r z=>by subst z;rw[r] at mu;exact mu
 by_cases hb:b=x
 ·subst hb;rw[au] at q;cases q;exact new
 ·rw[aq hb] at q
  by_cases hbe:b=e
  ·have q':H b=some (.own x):=by
    rcases he with z | z
    ·exact absurd (hbe.trans z) hb
    ·rw[hbe];exact z
   rw[q] at q';cases q';obtain⟨v,hv⟩:=heo;exact⟨v,by rw[hbe];exact hv⟩
  ·refine(ok b u q).qx (λ c v hc r=>k c v ?_ r) (λ c r=>by rw[aq (nown c b r)];exact r) λ c xs r=>by rw[aq (ntup c xs r)];exact r
   rcases hc with rfl | hc
   ·exact hbe
   ·rintro rfl;rcases he with z | z
    ·exact nown c b hc z
    ·rw[hc] at z;cases z;exact hb rfl
end
structure Un(fs ex:List Addr)(H H':Hp)(h h':Heap):Prop where
 keep:∀ b o,h.get? b=some o->H b=none->b ∉ fs->b ∉ ex->h'.get? b=some o
 slot:∀ b o,h.get? b=some o->H b=none->b∈fs->b ∉ ex->∃ sl,h'.get? b=some {o with slots:=sl}
 free:∀ b o,h.get? b=some o->H b=none->b ∉ ex->H' b=none
 there:∀ b o,h.get? b=some o->b ∉ ex->∃ o',h'.get? b=some o'
 tups:∀ b xs,H b=some (.tup xs)->H' b=some (.tup xs)
 frzs:∀ b o u,H b=some (.frz o u)->H' b=some (.frz o u)
 tbls:∀ b ps,H b=some (.tbl ps)->∃ more,H' b=some (.tbl (ps++more))
theorem Un.any(u:Un fs ex H H1 h h1){b:Addr}{ob:Obj}(q:h.get? b=some ob)(n:H b=none)(hx:b ∉ ex):∃ sl,h1.get? b=some {ob with slots:=sl}:=by
 by_cases hb:b∈fs
 ·exact u.slot b ob q n hb hx
 ·exact⟨ob.slots,u.keep b ob q n hb hx⟩
theorem Un.kept(k:∀ b u,h.get? b=some u->h'.get? b=some u):Un fs ex H H h h':=
 ⟨λ b ob q _ _ _=>k b ob q,λ b ob q _ _ _=>⟨ob.slots,k b ob q⟩,λ _ _ _ n _=>n,λ b ob q _=>⟨ob,k b ob q⟩,λ _ _ q=>q,λ _ _ _ q=>q,λ _ ps q=>⟨#[],by rw[q];simp⟩⟩
theorem Un.refl:Un fs ex H H h h:=Un.kept λ _ _ q=>q
theorem Un.laid(k:∀ b u,h.get? b=some u->h'.get? b=some u)(hp:h.objs.size<=a)(hn:H a=none):Un fs ex H (upd H a o) h h' where
 keep:=λ b u q _ _ _=>k b u q
 slot:=λ b u q _ _ _=>⟨u.slots,k b u q⟩
 free:=λ b u q n _=>by rw[aq (Nat.ne_of_lt (Nat.lt_of_lt_of_le (Heap.lt_size q) hp))];exact n
 there:=λ b u q _=>⟨u,k b u q⟩
 tups:=λ b xs q=>by rw[aq (aS q hn)];exact q
 frzs:=λ b u xs q=>by rw[aq (aS q hn)];exact q
 tbls:=λ b ps q=>⟨#[],by rw[aq (aS q hn),q];simp⟩
theorem Un.write(mu:Mut (H x))(he:e=x\/H e=some (.own x))(k:∀ b u,b≠e->h.get? b=some u->h'.get? b=some u)(heo:∃ u,h'.get? e=some u):Un fs ex H (upd H x o) h h':=by
 have hx:∀ b,H b=none->b≠x:=λ b n z=>by subst z;rw[n] at mu;exact mu
 have hb:∀ b,H b=none->b≠e:=λ b n z=>by
  subst z;rcases he with r | r
  ·exact hx b n r
  ·rw[n] at r;cases r
 have hm:∀ b u,H b=some u->¬ Mut (some u)->b≠x:=λ b u q nm z=>by subst z;rw[q] at mu;exact nm mu
 refine⟨λ b u q n _ _=>k b u (hb b n) q,λ b u q n _ _=>⟨u.slots,k b u (hb b n) q⟩,λ b u q n _=>by rw[aq (hx b n)];exact n,λ b u q _=>?_,
  λ b xs q=>by rw[aq (hm b _ q λ z=>z)];exact q,λ b u xs q=>by rw[aq (hm b _ q λ z=>z)];exact q,λ b ps q=>⟨#[],by rw[aq (hm b _ q λ z=>z),q];simp⟩⟩
 by_cases hbe:b=e
 ·subst hbe;exact heo
 ·exact⟨u,k b u hbe q⟩
def trk(h:Heap)(H:Hp):List Addr:=(List.range h.objs.size).filter λ a=>(H a).isSome
def aaz(h:Heap)(H:Hp):Heap:=W.hideAll h (trk h H)
theorem vi(h:Heap)(H:Hp):(aaz h H).objs.size=h.objs.size:=W.hideAll_size _ _
theorem zK(e:h.get? b=some o)(n:H b=none):(aaz h H).get? b=some o:=
 W.hideAll_get _ e λ hm=>by have q:(H b).isSome=true:=(List.mem_filter.mp hm).2;rw[n] at q;simp at q
theorem acn(e:(aaz h H).get? b=some o):h.get? b=some o/\H b=none:=by
 have e':h.get? b=some o:=W.of_hideAll (trk h H) e;refine⟨e',?_⟩;cases q:H b with
 | none=>rfl
 | some x =>
  have hm:b∈trk h H:=List.mem_filter.mpr ⟨List.mem_range.mpr (Heap.lt_size e'),by simp[q]⟩;have z:(aaz h H).get? b=none:=W.hideAll_none (trk h H) hm;rw[z] at e;cases e
def acR(g h:Heap)(L:Addr):PN:=(List.range h.objs.size).filterMap λ a=>if a=L\/(g.get? a).isSome=true then none else (h.get? a).map λ o=>(a,o)
def rest(g h:Heap)(L d:Addr):PN:=(acR g h L).filter λ p=>decide (p.1≠d)
def BM(mg:Str->Option Value)(h:Heap):Prop:=(∃ bm o,mg "__builtins__" = some (.ref bm)/\bm≠builtinsNs/\h.get? bm=some o/\o.cls=.type "module" /\ o.dict=some builtinsNs/\o.data=.plain)/\∃ mm,h.Ns sysModules mm
structure Mod(K:FG)(mg:Str->Option Value)(base:Heap):Prop where
 kin:K.In base
 glob:base.Ns mainGlobals mg
 blt:∃ mb,base.Ns builtinsNs mb/\∀ x:Str,x ≠ "__name__" -> mb x=bootBuiltins x
 nolimit:base.NoLimit
 bm:BM mg base
structure Cx where
 prog:Program
 w:World
 K:FG
 mg:Str->Option Value
 base:Heap
 A:Around
 N:List Str
 s₀:Shared
 H₀:Hp
 env:Env
 outer:List Env
 stack:List Env
 ex:List Addr
 fn:Str->Bool
 calm:Bool
 pn:PN
 xe:VP
def frs(l:List Env):List Addr:=l.filterMap (·.frame)
abbrev Cx.fs(X:Cx):List Addr:=frs X.outer
def Vis(sc:Scope)(x:Str):Prop:=sc.names.lookup x=some .local\/sc.names.lookup x=some .cell\/sc.names.lookup x=some .free
def Loc(sc:Scope)(x:Str):Prop:=sc.names.lookup x=some .local\/sc.names.lookup x=some .cell
def Look(env:Env)(h:Heap)(m:Str->Option Value)(x:Str)(u:Value):Prop:=
 (env.kindOf x=some .local/\m x=some u)\/((env.kindOf x=some .cell\/env.kindOf x=some .free)/\∃ c,env.cells.lookup x=some c/\h.IsCell c (some u))
structure Cx.Ok(X:Cx):Prop where
 mod:Mod X.K X.mg X.base
 kind:X.env.scope.kind=.function
 glob:X.env.globals=mainGlobals
 blt:X.env.builtins=builtinsNs
 above:X.s₀.heap.objs.size<=X.env.locals
 inj:∀ x y c,X.env.cells.lookup x=some c->X.env.cells.lookup y=some c->x=y
 has:∀ x,(X.env.kindOf x=some .cell\/X.env.kindOf x=some .free)->∃ c,X.env.cells.lookup x=some c
 cab:∀ x c,X.fn x=true->X.env.cells.lookup x=some c->X.s₀.heap.objs.size<=c
 hd:X.calm=true->X.A.handled=none
 frames:X.A.frames=some X.stack
 stk:X.stack=X.outer\/(X.stack=X.env::X.outer/\X.env.frame=some X.env.locals)
 exf:∀ b∈X.ex,b≠X.env.locals/\∀ x c,X.env.cells.lookup x=some c->c≠b
 bs:∀ b o,X.base.get? b=some o->X.s₀.heap.get? b=some o/\X.H₀ b=none
 bsz:X.base.objs.size<=X.s₀.heap.objs.size
 noex:∀ b o,X.base.get? b=some o->b ∉ X.ex
 exfs:∀ b∈X.ex,b ∉ X.fs
 nL:X.s₀.heap.FunFrames X.base X.outer
 frf:∀ b∈X.fs,X.H₀ b=none
structure Inv(X:Cx)(pins:PN)(σ:List (Option V))(H:Hp)(s:Shared):Prop where
 ok:X.Ok
 os:s.os=X.s₀.os
 bare:AllBare s.gens
 base:Un X.fs X.ex X.H₀ H X.s₀.heap s.heap
 loc:∃ m,s.heap.Ns X.env.locals m/\∀ (i:Nat) (x:Str) (v:V),X.N[i]? =some x->σ[i]? =some (some v)->Vis X.env.scope x->∃ u,RelV v u/\Look X.env s.heap m x u
 cell:∀ x c,X.env.cells.lookup x=some c->∃ v,s.heap.IsCell c v
 free:H X.env.locals=none
 freeC:∀ x c,X.env.cells.lookup x=some c->H c=none
 pin:∀ p∈X.pn++pins,s.heap.get? p.1=some p.2/\H p.1=none/\p.1≠X.env.locals/\p.1 ∉ X.fs/\∀ v,p.2.data ≠ .cell v
 hok:HOk X.prog X.w H s.heap
 len:σ.length=X.N.length
section
variable {X:Cx}{pins:PN}{σ:List (Option V)}{H H':Hp}{s:Shared}{h':Heap}
theorem Cx.Ok.ai3(ok:X.Ok)(e:X.base.get? b=some o):b ∉ X.fs:=λ hb=>by have:=(ok.nL.mem hb).1;rw[e] at this;cases this
theorem Inv.bs(I:Inv X pins σ H s):∀ b o,X.base.get? b=some o->s.heap.get? b=some o/\H b=none:=λ b o e =>
 ⟨I.base.keep b o (I.ok.bs b o e).1 (I.ok.bs b o e).2 (I.ok.ai3 e) (I.ok.noex b o e),I.base.free b o (I.ok.bs b o e).1 (I.ok.bs b o e).2 (I.ok.noex b o e)⟩
theorem Inv.bk(I:Inv X pins σ H s):∀ b o,X.base.get? b=some o->s.heap.get? b=some o:=λ b o e=>(I.bs b o e).1
theorem Inv.mod(I:Inv X pins σ H s):Mod X.K X.mg X.base:=I.ok.mod
theorem Inv.kIn(I:Inv X pins σ H s):X.K.In s.heap:=I.ok.mod.kin.keeps I.bk
theorem Inv.nolimit(I:Inv X pins σ H s):s.heap.NoLimit:=I.ok.mod.nolimit.keeps I.bk
theorem Inv.fr(I:Inv X pins σ H s):∃ m,Fr X.base X.env.locals s.heap m:=
 let ⟨m,hn,_⟩:=I.loc
 ⟨m,hn,I.bk,Nat.le_trans I.ok.bsz I.ok.above⟩
theorem Inv.lt(I:Inv X pins σ H s):X.env.locals<s.heap.objs.size:=let ⟨_,hn,_⟩:=I.loc;hn.lt
theorem Inv.sz(I:Inv X pins σ H s):X.s₀.heap.objs.size<=s.heap.objs.size:=Nat.le_trans I.ok.above (Nat.le_of_lt I.lt)
theorem Inv.aiB(I:Inv X pins σ H s)(h:s.heap.objs.size<=a):a ∉ X.fs:=λ hb=>by obtain⟨_,o,ho,_⟩:=I.ok.nL.mem hb;exact absurd (Nat.lt_of_lt_of_le (Heap.lt_size ho) (Nat.le_trans I.sz h)) (Nat.lt_irrefl _)
theorem Inv.cne(I:Inv X pins σ H s):∀ x c,X.env.cells.lookup x=some c->c≠X.env.locals:=λ x c e z=>by obtain⟨v,o,ho,hd⟩:=I.cell x c e;obtain⟨m,⟨o',es,ep,ho',hd',_⟩,_⟩:=I.loc;rw[z,ho'] at ho;cases ho;rw[hd'] at hd;cases hd
theorem Inv.nL(I:Inv X pins σ H s):s.heap.FunFrames X.base X.outer:=by
 have all:∀ (l:List Env),(∀ b∈frs l,b∈X.fs)->X.s₀.heap.FunFrames X.base l->s.heap.FunFrames X.base l:=by
  intro l
  induction l with
  | nil=>intro _ _;trivial
  | cons env r ih =>
   intro hs hl;obtain⟨hk,⟨L,o,hf,hn,ho,hd⟩,hr⟩:=hl;have hL:L∈X.fs:=hs L (by unfold frs;rw[List.filterMap_cons,hf];exact List.mem_cons_self);obtain⟨sl,e⟩:=I.base.slot L o ho (I.ok.frf L hL) hL λ z=>I.ok.exfs L z hL;exact⟨hk,⟨L,_,hf,hn,e,hd⟩,ih (λ b hb=>hs b (by unfold frs;rw[List.filterMap_cons,hf];exact List.mem_cons_of_mem _ hb)) hr⟩
 exact all X.outer (λ _ hb=>hb) I.ok.nL
theorem Inv.stack(I:Inv X pins σ H s):s.heap.FunFrames X.base X.stack:=by
 rcases I.ok.stk with e | ⟨e,hf⟩
 ·rw[e];exact I.nL
 ·rw[e];obtain⟨m,hn,_⟩:=I.loc;refine .cons (by rw[I.ok.kind];decide) hf hn ?_ I.nL;exact Heap.get?_none_of_le (Nat.le_trans I.ok.bsz I.ok.above)
theorem Inv.i4(I:Inv X pins σ H s):∀ b∈frs X.stack,b∈X.env.locals::X.fs:=λ b hb=>by
 rcases I.ok.stk with e | ⟨e,hf⟩
 ·rw[e] at hb;exact List.mem_cons_of_mem _ hb
 ·rw[e] at hb;unfold frs at hb;rw[List.filterMap_cons,hf] at hb;exact hb
theorem Inv.nk(I:Inv X pins σ H s):∀ b∈frs X.stack,H b=none:=λ b hb=>by
 rcases List.mem_cons.mp (I.i4 b hb) with e | hb
 ·rw[e];exact I.free
 ·obtain⟨_,o,ho,_⟩:=I.ok.nL.mem hb;exact I.base.free b o ho (I.ok.frf b hb) λ z=>I.ok.exfs b z hb
theorem Inv.step{g':Array GenState}{t':Nat}{d':Drawn}{ch:List Addr}(I:Inv X pins σ H s)
  (hch:∀ b∈ch,(b∈X.ex\/X.s₀.heap.objs.size<=b)/\b≠X.env.locals/\(∀ x c,X.env.cells.lookup x=some c->c≠b)/\∀ p∈X.pn++pins,p.1≠b)
  (keep:∀ b o,b≠X.env.locals->b ∉ X.fs->b ∉ ch->s.heap.get? b=some o->H b=none->h'.get? b=some o)
  (slot:∀ b o,b≠X.env.locals->b∈X.fs->b ∉ ch->s.heap.get? b=some o->H b=none->∃ sl,h'.get? b=some {o with slots:=sl})(free:∀ b o,b ∉ ch->s.heap.get? b=some o->H b=none->H' b=none)
  (there:∀ b o,b ∉ ch->s.heap.get? b=some o->∃ o',h'.get? b=some o')
  (tups:∀ b xs,H b=some (.tup xs)->H' b=some (.tup xs))(frzs:∀ b o u,H b=some (.frz o u)->H' b=some (.frz o u))(tbls:∀ b ps,H b=some (.tbl ps)->∃ more,H' b=some (.tbl (ps++more)))
  (ns:∀ m,s.heap.Ns X.env.locals m->h'.Ns X.env.locals m)(hok:HOk X.prog X.w H' h')(hg:AllBare g') :
  Inv X pins σ H' {s with heap:=h',gens:=g',drawn:=d',toks:=t'}:=by
 have neL:∀ b o,X.s₀.heap.get? b=some o->b≠X.env.locals:=λ b o e=>Nat.ne_of_lt (Nat.lt_of_lt_of_le (Heap.lt_size e) I.ok.above);have neC:∀ b o,X.s₀.heap.get? b=some o->b ∉ X.ex->b ∉ ch:=λ b o e hx hb=>by
  rcases(hch b hb).1 with z | z
  ·exact hx z
  ·exact absurd (Nat.lt_of_lt_of_le (Heap.lt_size e) z) (Nat.lt_irrefl _)
 have cellK:∀ x c,X.env.cells.lookup x=some c->∀ v,s.heap.IsCell c v->h'.IsCell c v:=λ x c e v hq0=>by
  obtain⟨o,ho,hd⟩:=hq0;have nch:c ∉ ch:=λ z=>(hch c z).2.2.1 x c e rfl
  by_cases hc:c∈X.fs
  ·obtain⟨sl,q⟩:=slot c o (I.cne x c e) hc nch ho (I.freeC x c e);exact⟨_,q,hd⟩
  ·exact⟨o,keep c o (I.cne x c e) hc nch ho (I.freeC x c e),hd⟩
 refine⟨I.ok,I.os,hg,⟨λ b o e n hb hx=>?_,λ b o e n hb hx=>?_,λ b o e n hx=>?_,λ b o e hx=>?_,λ b xs e=>tups b xs (I.base.tups b xs e),λ b o xs e=>frzs b o xs (I.base.frzs b o xs e),λ b ps e=>?_⟩,?_,λ x c e=>?_,?_,λ x c e=>?_,λ p hp=>?_,hok,I.len⟩
 ·exact keep b o (neL b o e) hb (neC b o e hx) (I.base.keep b o e n hb hx) (I.base.free b o e n hx)
 ·obtain⟨sl,e1⟩:=I.base.slot b o e n hb hx;obtain⟨sl',e2⟩:=slot b _ (neL b o e) hb (neC b o e hx) e1 (I.base.free b o e n hx);exact⟨sl',e2⟩
 ·obtain⟨o',e1⟩:=I.base.there b o e hx;exact free b o' (neC b o e hx) e1 (I.base.free b o e n hx)
 ·obtain⟨o',e1⟩:=I.base.there b o e hx;exact there b o' (neC b o e hx) e1
 ·obtain⟨m1,e1⟩:=I.base.tbls b ps e;obtain⟨m2,e2⟩:=tbls b _ e1;exact⟨m1++m2,by rw[e2,Array.append_assoc]⟩
 ·obtain⟨m,hn,hl⟩:=I.loc;refine⟨m,ns m hn,λ i x v e1 e2 e3=>?_⟩;obtain⟨u,r,l⟩:=hl i x v e1 e2 e3;refine⟨u,r,?_⟩;rcases l with l | ⟨k,c,e,z⟩
  ·exact .inl l
  ·exact .inr ⟨k,c,e,cellK x c e _ z⟩
 ·obtain⟨v,z⟩:=I.cell x c e;exact⟨v,cellK x c e v z⟩
 ·obtain⟨m,⟨o,_,_,ho,_⟩,_⟩:=I.loc;exact free _ o (λ z=>(hch _ z).2.1 rfl) ho I.free
 ·obtain⟨v,o,ho,hd⟩:=I.cell x c e;exact free c o (λ z=>(hch c z).2.2.1 x c e rfl) ho (I.freeC x c e)
 ·obtain⟨e,n,ne,nf,d⟩:=I.pin p hp;have nch:p.1 ∉ ch:=λ z=>(hch p.1 z).2.2.2 p hp rfl;exact⟨keep p.1 p.2 ne nf nch e n,free p.1 p.2 nch e n,ne,nf,d⟩
theorem Inv.un{t':Nat}(I:Inv X pins σ H s)(u:Un X.fs [] H H' s.heap h')(hok:HOk X.prog X.w H' h'):Inv X pins σ H' {s with heap:=h',toks:=t'}:=by
 obtain⟨m,⟨o,es,ep,ho,r⟩,_⟩:=id I.loc;obtain⟨sl,hL⟩:=u.any ho I.free (by simp);exact I.step (g':=s.gens) (d':=s.drawn) (ch:=[]) (λ _ z=>nomatch z) (λ b o _ hb _ e n=>u.keep b o e n hb (by simp)) (λ b o _ hb _ e n=>u.slot b o e n hb (by simp)) (λ b o _ e n=>u.free b o e n (by simp)) (λ b o _ e=>u.there b o e (by simp)) u.tups u.frzs u.tbls (λ m' hm=>by obtain⟨o',es',ep',ho',r'⟩:=hm;rw[ho] at ho';cases ho';exact⟨_,es',ep',hL,r'⟩) hok I.bare
theorem Inv.call{g':Array GenState}{t':Nat}{d':Drawn}{ch:List Addr}(I:Inv X pins σ H s)(u:Un (frs X.stack) ch H H' s.heap h')(hok:HOk X.prog X.w H' h')(hg:AllBare g')
  (hch:∀ b∈ch,(b∈X.ex\/X.s₀.heap.objs.size<=b)/\b≠X.env.locals/\(∀ x c,X.env.cells.lookup x=some c->c≠b)/\∀ p∈X.pn++pins,p.1≠b) :
  Inv X pins σ H' {s with heap:=h',gens:=g',drawn:=d',toks:=t'}:=by
 obtain⟨m,⟨o,es,ep,ho,r⟩,_⟩:=id I.loc;obtain⟨sl,hL⟩:=u.any ho I.free λ z=>(hch _ z).2.1 rfl;exact I.step (ch:=ch) hch (λ b o hL hb hc e n=>u.keep b o e n (λ z=>(List.mem_cons.mp (I.i4 b z)).elim hL hb) hc) (λ b o _ _ hc e n=>u.any e n hc) (λ b o hc e n=>u.free b o e n hc) (λ b o hc e=>u.there b o e hc) u.tups u.frzs u.tbls (λ m' hm=>by obtain⟨o',es',ep',ho',r'⟩:=hm;rw[ho] at ho';cases ho';exact⟨_,es',ep',hL,r'⟩) hok hg
theorem Inv.turned{t':Nat}{it:Addr}(I:Inv X pins σ H s)(k:∀ b o,b≠it->s.heap.get? b=some o->h'.get? b=some o)(hn:H it=none)(hL:it≠X.env.locals)
  (h1:it∈X.ex\/X.s₀.heap.objs.size<=it)(h2:∀ x c,X.env.cells.lookup x=some c->c≠it)(h3:∀ p∈X.pn++pins,p.1≠it):Inv X pins σ H {s with heap:=h',toks:=t'}:=by
 have nit:∀ b u,H b=some u->b≠it:=λ b u e z=>by rw[z,hn] at e;cases e
 refine I.step (g':=s.gens) (d':=s.drawn) (ch:=[it]) (λ b hb=>?_) (λ b o _ _ hc e _=>k b o (λ z=>hc (by simp[z])) e) (λ b o _ _ hc e _=>⟨o.slots,k b o (λ z=>hc (by simp[z])) e⟩) (λ _ _ _ _ n=>n)
  (λ b o hc e=>⟨o,k b o (λ z=>hc (by simp[z])) e⟩) (λ _ _ e=>e) (λ _ _ _ e=>e) (λ b ps e=>⟨#[],by rw[e];simp⟩) (λ m hm=>?_) (λ b u e=>?_) I.bare
 ·have e:b=it:=by simpa using hb
  subst e;exact⟨h1,hL,h2,h3⟩
 ·obtain⟨o,es,ep,ho,r⟩:=hm;exact⟨o,es,ep,k _ o (Ne.symm hL) ho,r⟩
 ·refine(I.hok b u e).qx (λ c v hc q=>k c v ?_ q) (λ _ q=>q) λ _ _ q=>q;rcases hc with z | z
  ·rw[z];exact nit b u e
  ·exact nit c _ z
theorem Inv.tok(I:Inv X pins σ H s)(t:Nat):Inv X pins σ H {s with toks:=t}:=I.un (h':=s.heap) (t':=t) Un.refl I.hok
theorem Inv.kept(I:Inv X pins σ H s)(k:∀ b u,s.heap.get? b=some u->h'.get? b=some u):Inv X pins σ H {s with heap:=h',toks:=t'}:=I.un (Un.kept k) (I.hok.kept k)
theorem Inv.laid(I:Inv X pins σ H s)(k:∀ b u,s.heap.get? b=some u->h'.get? b=some u)(hp:s.heap.objs.size<=a)(new:cF X.prog X.w (upd H a o) h' a o) :
  Inv X pins σ (upd H a o) {s with heap:=h',toks:=t'}:=I.un (Un.laid k hp (I.hok.fresh hp)) (I.hok.laid k hp new)
theorem Inv.write(I:Inv X pins σ H s)(mu:Mut (H x))(he:e=x\/H e=some (.own x))(k:∀ b u,b≠e->s.heap.get? b=some u->h'.get? b=some u)(heo:∃ u,h'.get? e=some u)
  (new:cF X.prog X.w (upd H x o) h' x o):Inv X pins σ (upd H x o) {s with heap:=h',toks:=t'}:=I.un (Un.write mu he k heo) (I.hok.write mu he k heo new)
theorem Inv.d5(I:Inv X pins σ H s)(h:∀ p∈pins',s.heap.get? p.1=some p.2/\H p.1=none/\p.1≠X.env.locals/\p.1 ∉ X.fs/\∀ v,p.2.data ≠ .cell v):Inv X pins' σ H s:=
 ⟨I.ok,I.os,I.bare,I.base,I.loc,I.cell,I.free,I.freeC,λ p hp=>(List.mem_append.mp hp).elim (λ z=>I.pin p (List.mem_append_left _ z)) (h p),I.hok,I.len⟩
theorem sP{N:List Str}(hN:N.Nodup){i j:Nat}(a:N[i]? =some x)(b:N[j]? =some x):i=j:=by obtain⟨h1,e1⟩:=List.getElem?_eq_some_iff.mp a;obtain⟨h2,e2⟩:=List.getElem?_eq_some_iff.mp b;exact(List.getElem_inj hN).mp (e1.trans e2.symm)
theorem xy(I:Inv X pins σ H s)(hN:X.N.Nodup)(hi:X.N[i]? =some x)(hx:Loc X.env.scope x)(r:RelV v u)
  (h:∀ s',Inv X pins (σ.set i (some v)) H s'->(∃ a,Heap.SameBut a s.heap s'.heap/\(a=X.env.locals\/X.env.cells.lookup x=some a))->Q () s')(hf:X.fn x=true\/X.env.scope.names.lookup x=some .local:=by first | exact .inl rfl | exact .inr rfl | assumption):wpAny M A (storeName X.env x u) Q E s:=by
 obtain⟨m,hn,hl⟩:=id I.loc;have hcls:(X.env.scope.kind==.class || (X.env.scope.kind==.module&&X.env.locals != X.env.globals))=false:=by rw[I.ok.kind];rfl
 have hiσ:i<σ.length:=by rw[I.len];exact(List.getElem?_eq_some_iff.mp hi).1
 have cne:=I.cne;have tracked:∀ {a:Addr} {h':Heap},(∃ o,s.heap.get? a=some o/\H a=none)->Heap.SameBut a s.heap h'->HOk X.prog X.w H h':=λ {a h'} ha hs b ob e=>by
  obtain⟨_,_,hfree⟩:=ha;refine(I.hok b ob e).qx (λ c w' hc q=>(hs.2 c ?_).trans q) (λ _ q=>q) λ _ _ q=>q;rintro rfl;rcases hc with rfl | hc
  ·rw[hfree] at e;cases e
  ·rw[hfree] at hc;cases hc
 rcases hx with hk | hk
 ·refine wpAny_storeName_local hk hn (λ h' hn' hs=>?_) hcls;obtain⟨oL,_,_,hoL,_⟩:=id hn;refine h _ ⟨I.ok,I.os,I.bare,⟨λ b o e n hb hx=>?_,λ b o e n hb hx=>?_,I.base.free,λ b o e hx=>?_,I.base.tups,I.base.frzs,I.base.tbls⟩,⟨_,hn',λ j y v' e1 e2 e3=>?_⟩,λ y c e=>?_,I.free,I.freeC,λ p hp=>?_,tracked ⟨oL,hoL,I.free⟩ hs,by simpa using I.len⟩ ⟨_,hs,.inl rfl⟩
  ·exact(hs.2 b (Nat.ne_of_lt (Nat.lt_of_lt_of_le (Heap.lt_size e) I.ok.above))).trans (I.base.keep b o e n hb hx)
  ·obtain⟨sl,e1⟩:=I.base.slot b o e n hb hx;exact⟨sl,(hs.2 b (Nat.ne_of_lt (Nat.lt_of_lt_of_le (Heap.lt_size e) I.ok.above))).trans e1⟩
  ·obtain⟨o',e1⟩:=I.base.there b o e hx;exact⟨o',(hs.2 b (Nat.ne_of_lt (Nat.lt_of_lt_of_le (Heap.lt_size e) I.ok.above))).trans e1⟩
  ·by_cases hj:j=i
   ·subst hj;rw[hi] at e1;cases e1;rw[List.getElem?_set_self hiσ] at e2;cases e2;exact⟨u,r,.inl ⟨hk,by simp⟩⟩
   ·rw[List.getElem?_set_ne (Ne.symm hj)] at e2;obtain⟨u',r',q⟩:=hl j y v' e1 e2 e3;refine⟨u',r',?_⟩;rcases q with ⟨k,e⟩ | ⟨k,c,e,z⟩
    ·refine .inl ⟨k,?_⟩;have:y≠x:=λ e=>hj (sP hN e1 (e ▸ hi));simp[this,e]
    ·exact .inr ⟨k,c,e,z.sameBut hs (cne y c e)⟩
  ·obtain⟨w',z⟩:=I.cell y c e;exact⟨w',z.sameBut hs (cne y c e)⟩
  ·obtain⟨e,n,ne,nf,d⟩:=I.pin p hp;exact⟨(hs.2 p.1 ne).trans e,n,ne,nf,d⟩
 ·have hfn:X.fn x=true:=by
   rcases hf with z | z
   ·exact z
   ·rw[z] at hk;cases hk
  obtain⟨c,hc⟩:=I.ok.has x (.inl hk);obtain⟨w',z⟩:=I.cell x c hc;refine wpAny_storeName_cell I.ok.kind hk hc z (λ h' hc' hs=>?_);obtain⟨oc,hoc,hocd⟩:=id z;refine h {s with heap:=h'} ⟨I.ok,I.os,I.bare,⟨λ b o e n hb hx=>?_,λ b o e n hb hx=>?_,I.base.free,λ b o e hx=>?_,I.base.tups,I.base.frzs,I.base.tbls⟩,⟨m,hn.sameBut hs (Ne.symm (cne x c hc)),λ j y v' e1 e2 e3=>?_⟩,λ y c' e=>?_,I.free,I.freeC,λ p hp=>?_,tracked ⟨oc,hoc,I.freeC x c hc⟩ hs,by simpa using I.len⟩ ⟨c,hs,.inr hc⟩
  ·exact(hs.2 b (Nat.ne_of_lt (Nat.lt_of_lt_of_le (Heap.lt_size e) (I.ok.cab x c hfn hc)))).trans (I.base.keep b o e n hb hx)
  ·obtain⟨sl,e1⟩:=I.base.slot b o e n hb hx;exact⟨sl,(hs.2 b (Nat.ne_of_lt (Nat.lt_of_lt_of_le (Heap.lt_size e) (I.ok.cab x c hfn hc)))).trans e1⟩
  ·obtain⟨o',e1⟩:=I.base.there b o e hx;exact⟨o',(hs.2 b (Nat.ne_of_lt (Nat.lt_of_lt_of_le (Heap.lt_size e) (I.ok.cab x c hfn hc)))).trans e1⟩
  ·by_cases hj:j=i
   ·subst hj;rw[hi] at e1;cases e1;rw[List.getElem?_set_self hiσ] at e2;cases e2;exact⟨u,r,.inr ⟨.inl hk,c,hc,hc'⟩⟩
   ·rw[List.getElem?_set_ne (Ne.symm hj)] at e2;obtain⟨u',r',q⟩:=hl j y v' e1 e2 e3;refine⟨u',r',?_⟩;rcases q with q | ⟨k,c',e,z'⟩
    ·exact .inl q
    ·refine .inr ⟨k,c',e,z'.sameBut hs ?_⟩;rintro rfl;exact hj (sP hN e1 (I.ok.inj _ _ _ e hc ▸ hi))
  ·by_cases hcc:c'=c
   ·subst hcc;exact⟨_,hc'⟩
   ·obtain⟨w2,z2⟩:=I.cell y c' e;exact⟨w2,z2.sameBut hs hcc⟩
  ·obtain⟨e,n,ne,nf,d⟩:=I.pin p hp;refine⟨(hs.2 p.1 ?_).trans e,n,ne,nf,d⟩;intro q;rw[q,hoc] at e;have q':oc=p.2:=Option.some.inj e;exact d w' (by rw[<- q'];exact hocd)
theorem nz(I:Inv X pins σ H s)(hN:X.N.Nodup)(hi:X.N[i]? =some x)(hx:Loc X.env.scope x)(r:RelV v u)
  (h:∀ s',Inv X pins (σ.set i (some v)) H s'->Q () s')(hf:X.fn x=true\/X.env.scope.names.lookup x=some .local:=by first | exact .inl rfl | exact .inr rfl | assumption):wpAny M A (storeName X.env x u) Q E s:=
 xy I hN hi hx r (λ s' I' _=>h s' I') hf
theorem Inv.zB(I:Inv X pins σ H s)(ho:s'.os=s.os)(u:Un (frs X.stack) ch H H' s.heap s'.heap)(hok:HOk X.prog X.w H' s'.heap)(hg:AllBare s'.gens)
  (hch:∀ b∈ch,(b∈X.ex\/X.s₀.heap.objs.size<=b)/\b≠X.env.locals/\(∀ x c,X.env.cells.lookup x=some c->c≠b)/\∀ p∈X.pn++pins,p.1≠b):Inv X pins σ H' s':=by
 obtain⟨h',g',d',t',o'⟩:=s';have e:o'=s.os:=ho;subst e;exact I.call (g':=g') (t':=t') (d':=d') u hok hg hch
end
abbrev XK:=Value->Option Addr->Hp->Prop
abbrev St:=List (Option V)
abbrev VK:=V->Hp->Prop
abbrev TE:=St->Hp->VK->Prop
abbrev TT:=St->Hp->(Bool->Hp->Prop)->Prop
abbrev TA:=St->Hp->(List V->Hp->Prop)->Prop
structure Ends where
 nx:St->Hp->Prop
 rt:VK
 bk:St->Hp->Prop:=λ _ _=>False
 ct:St->Hp->Prop:=λ _ _=>False
abbrev TS:=Ends->St->Hp->Prop
def EP(X:Cx)(pins:PN)(σ:St)(Q:VK)(u:Value)(s':Shared):Prop:=∃ v H',Inv X pins σ H' s'/\RelV v u/\Q v H'
def TP(X:Cx)(pins:PN)(σ:St)(Q:Bool->Hp->Prop)(b:Bool)(s':Shared):Prop:=∃ H',Inv X pins σ H' s'/\Q b H'
def AP(X:Cx)(pins:PN)(σ:St)(Q:List V->Hp->Prop)(us:List Value)(s':Shared):Prop:=∃ vs H',Inv X pins σ H' s'/\Vals vs us/\Q vs H'
def SP(X:Cx)(pins:PN)(D:Ends)(f:Flow)(s':Shared):Prop:=
 match f with
 | .next=>∃ σ' H',Inv X pins σ' H' s'/\D.nx σ' H'
 | .brk=>∃ σ' H',Inv X pins σ' H' s'/\D.bk σ' H'
 | .cont=>∃ σ' H',Inv X pins σ' H' s'/\D.ct σ' H'
 | .ret u=>∃ v σ' H',Inv X pins σ' H' s'/\RelV v u/\D.rt v H'
def PE(X:Cx)(e:Expr)(t:TE):Prop:=
 ∀ (pins:PN) (s:Shared) (σ:St) (H:Hp) (Q:VK),Inv X pins σ H s->t σ H Q->wpAny (model X.prog X.w) X.A (eval e X.env) (EP X pins σ Q) X.xe s
def PT(X:Cx)(e:Expr)(t:TT):Prop:=
 ∀ (pins:PN) (s:Shared) (σ:St) (H:Hp) (Q:Bool->Hp->Prop),Inv X pins σ H s->t σ H Q->wpAny (model X.prog X.w) X.A (isTrue e X.env (eval e X.env)) (TP X pins σ Q) X.xe s
def PW(X:Cx)(e:Expr)(t:TT):Prop:=
 ∀ (whole:Sem Value) (pins:PN) (s:Shared) (σ:St) (H:Hp) (Q:Bool->Hp->Prop),Inv X pins σ H s->t σ H Q->wpAny (model X.prog X.w) X.A (isTrue e X.env whole) (TP X pins σ Q) X.xe s
theorem PW.pt(h:PW X e t):PT X e t:=h _
def PA(X:Cx)(es:List Expr)(t:TA):Prop:=
 ∀ (pos:Pos) (pins:PN) (s:Shared) (σ:St) (H:Hp) (Q:List V->Hp->Prop),Inv X pins σ H s->t σ H Q->wpAny (model X.prog X.w) X.A (spliced (backTo pos (starEach es X.env))) (AP X pins σ Q) X.xe s
def PS(X:Cx)(st:Stmt)(t:TS):Prop:=
 ∀ (pins:PN) (s:Shared) (σ:St) (H:Hp) (D:Ends),Inv X pins σ H s->t D σ H->wpAny (model X.prog X.w) X.A (exec st X.env) (SP X pins D) X.xe s
def PSs(X:Cx)(st:List Stmt)(t:TS):Prop:=
 ∀ (pins:PN) (s:Shared) (σ:St) (H:Hp) (D:Ends),Inv X pins σ H s->t D σ H->wpAny (model X.prog X.w) X.A (execs st X.env) (SP X pins D) X.xe s
theorem thn(h:wpAny M A t Q E s)(hQ:∀ a s,Q a s->Q' a s):wpAny M A t Q' E s:=wpAny_mono h hQ λ _ _ x=>x
section
variable {X:Cx}
def aiI(i:Nat):TE:=λ σ H Q=>∃ v,σ[i]? =some (some v)/\Q v H
def tC(v:V):TE:=λ _ H Q=>Q v H
theorem vA(hN:X.N[i]? =some x)(hv:Vis X.env.scope x)(hd:ND x:=by decide)(hcd:(x==("__classdict__" : Str))=false:=by decide):PE X (.Name x pos) (aiI i):=by
 intro pins s σ H Q I h;obtain⟨v,e,h⟩:=h;obtain⟨m,hn,hl⟩:=I.loc;obtain⟨u,r,l⟩:=hl i x v hN e hv;have fin:EP X pins σ Q u s:=⟨v,H,I,r,h⟩;rcases l with ⟨hk,hm⟩ | ⟨hk,c,hc,hcell⟩
 ·exact wpAny_Name (wpAny_loadName_local I.ok.kind hk hn hm fin) hd
 ·rcases hk with hk | hk
  ·exact wpAny_Name (wpAny_loadName_cell I.ok.kind hk hc hcell fin) hd
  ·exact wpAny_Name (wpAny_loadName_free I.ok.kind hk hc hcell fin hcd) hd
theorem agG{i j pos}:PE X (.Constant (.int i) j pos) (tC (.int i)):=λ _ _ _ H _ I h=>wpAny_Constant_int ⟨.int i,H,I.tok _,⟨_,rfl⟩,h⟩
theorem ahR{b j pos}:PE X (.Constant (.bool b) j pos) (tC (.bl b)):=λ _ _ _ H _ I h=>Constant_bool ⟨.bl b,H,I,rfl,h⟩
theorem aaY{j pos}:PE X (.Constant .none j pos) (tC .non):=λ _ _ _ H _ I h=>Constant_none ⟨.non,H,I,rfl,h⟩
theorem afh{x j pos}:PE X (.Constant (.str x) j pos) (tC (.str x)):=λ _ _ _ H _ I h=>Calls.Constant_str ⟨.str x,H,I.tok _,⟨_,rfl⟩,h⟩
def Gl(X:Cx)(x:Str):Prop:=X.env.kindOf x=some .globalImplicit
theorem fX(I:Inv X pins σ H s)(hg:Gl X x)(hm:X.mg x=some u)(h:Q u s)
  (hd:ND x:=by decide):wpAny (model X.prog X.w) X.A (eval (.Name x pos) X.env) Q E s:=
 Calls.Name_function_global I.ok.kind hg (Calls.loadGlobal_global (by rw[I.ok.glob];exact I.mod.glob.keeps I.bk) hm h) hd
theorem jg(I:Inv X pins σ H s)(hg:Gl X x)(hm:X.mg x=none)(hv:bootBuiltins x=some u)(h:Q u s)
  (hn:x ≠ "__name__":= by decide)(hd:ND x:=by decide):wpAny (model X.prog X.w) X.A (eval (.Name x pos) X.env) Q E s:=by
 obtain⟨mb,h1,h2⟩:=I.mod.blt;exact Calls.Name_function_global I.ok.kind hg (Calls.loadGlobal_builtin (by rw[I.ok.glob];exact I.mod.glob.keeps I.bk) hm (by rw[I.ok.blt];exact h1.keeps I.bk) ((h2 x hn).trans hv) h) hd
theorem rD(hg:Gl X x)(hm:X.mg x=some u)(r:RelV v u)(hd:ND x:=by decide):PE X (.Name x pos) (tC v):=
 λ _ _ _ H _ I h=>fX I hg hm ⟨v,H,I,r,h⟩ hd
theorem w6{x:Str}{v:V}{u:Value}{pos:Pos}(hg:Gl X x)(hm:X.mg x=none)(hv:bootBuiltins x=some u)(r:RelV v u)(hn:x ≠ "__name__":= by decide)(hd:ND x:=by decide):PE X (.Name x pos) (tC v):=
 λ _ _ _ H _ I h=>jg I hg hm hv ⟨v,H,I,r,h⟩ hn hd
variable {a b:Expr}{ta tb:TE}{pos:Pos}
def PC(X:Cx)(op:CmpOp)(a b:Expr)(t:TE):Prop:=
 ∀ (pins:PN) (s:Shared) (σ:St) (H:Hp) (Q:VK),Inv X pins σ H s->t σ H Q ->
  wpAny (model X.prog X.w) X.A (eval a X.env) (λ v s₁=>wpAny (model X.prog X.w) X.A (eval b X.env) (λ u s₂=>wpAny (model X.prog X.w) X.A (compareOp op v u) (EP X pins σ Q) X.xe s₂) X.xe s₁) X.xe s
theorem iD(b:Expr)(h:op ≠ .In)(h2:op ≠ .NotIn):behindInMarks op b=false:=by
 have e1:(op==CmpOp.In)=false:=by cases op<;>first | rfl | exact absurd rfl h
 have e2:(op==CmpOp.NotIn)=false:=by cases op<;>first | rfl | exact absurd rfl h2
 cases b<;>simp[behindInMarks,e1,e2]
def tB(t:TE):TT:=λ σ H Q=>t σ H λ x H1=>∃ c,x=.bl c/\Q c H1
theorem ae0(h:PC X op a b t)(h1:behindInMarks op b=false:=by first | exact iD _ (by decide) (by decide) | rfl):PT X (.Compare a [op] [b] pos) (tB t):=by intro pins s σ H Q I hw;refine wpAny_isTrue_Compare1 (thn (h pins s σ H _ I hw) λ v s1 h1=>thn h1 λ u s2 h2=>thn h2 λ c s3 ⟨x,H1,I1,r1,q1⟩=>?_) h1;obtain⟨d,rfl,q⟩:=q1;cases r1;exact wpAny_truthy_bool ⟨H1,I1,q⟩
theorem agF(h:PE X e t)(he:∀ whole,isTrue e X.env whole=(do let v <- whole;standAt e.pos;holding [v] (truthy v)):=by intro _;rfl):PT X e (tB t):=by intro pins s σ H Q I hw;refine isTrue_plain (thn (h pins s σ H _ I hw) λ v s1 ⟨x,H1,I1,r1,q1⟩=>?_) (he _);obtain⟨d,rfl,q⟩:=q1;cases r1;exact wpAny_truthy_bool ⟨H1,I1,q⟩
variable {tA tB':TT}{rest:List Expr}
def aiR(t u:TT):TT:=λ σ H Q=>t σ H λ c H1=>if c=true then u σ H1 Q else Q false H1
def tOr(t u:TT):TT:=λ σ H Q=>t σ H λ c H1=>if c=true then Q true H1 else u σ H1 Q
def ai1(t:TT):TT:=λ σ H Q=>t σ H λ c H1=>Q (!c) H1
theorem pw_and1(ha:PT X a tA):PW X (.BoolOp .And [a] pos) tA:=by
 intro wh pins s σ H Q I h;refine isTrue_and (thn (ha pins s σ H Q I h) λ c s1 e=>?_);cases c with
 | true=>exact isTrue_and_nil e
 | false=>exact e
theorem pw_or1(ha:PT X a tA):PW X (.BoolOp .Or [a] pos) tA:=by
 intro wh pins s σ H Q I h;refine isTrue_or (thn (ha pins s σ H Q I h) λ c s1 e=>?_);cases c with
 | false=>exact isTrue_or_nil e
 | true=>exact e
theorem pw_and(ha:PT X a tA)(hb:PW X (.BoolOp .And (b::rest) pos) tB'):PW X (.BoolOp .And (a::b::rest) pos) (aiR tA tB'):=by
 intro wh pins s σ H Q I h;refine isTrue_and (thn (ha pins s σ H _ I h) λ c s1 hq1=>?_);obtain⟨H1,I1,q1⟩:=hq1;cases c with
 | true=>exact hb wh pins s1 σ H1 Q I1 q1
 | false=>exact⟨H1,I1,q1⟩
theorem pw_or(ha:PT X a tA)(hb:PW X (.BoolOp .Or (b::rest) pos) tB'):PW X (.BoolOp .Or (a::b::rest) pos) (tOr tA tB'):=by
 intro wh pins s σ H Q I h;refine isTrue_or (thn (ha pins s σ H _ I h) λ c s1 hq2=>?_);obtain⟨H1,I1,q1⟩:=hq2;cases c with
 | true=>exact⟨H1,I1,q1⟩
 | false=>exact hb wh pins s1 σ H1 Q I1 q1
theorem af0(ha:PT X a tA):PT X (.UnaryOp .Not a pos) (ai1 tA):=by intro pins s σ H Q I h;exact isTrue_not (ha pins s σ H (λ c H1=>Q (!c) H1) I h)
def ahY(ta tb:TE):TE:=λ σ H Q=>ta σ H λ x H1=>∃ c,x=.bl c/\if c=true then tb σ H1 Q else Q (.bl false) H1
def ahA(ta:TE):TE:=λ σ H Q=>ta σ H λ x H1=>∃ c,x=.bl c/\Q (.bl (!c)) H1
theorem aeO{op}(h:PE X a t):PE X (.BoolOp op [a] pos) t:=λ pins s σ H Q I hw=>BoolOp_one (h pins s σ H Q I hw)
theorem aes(ha:PE X a ta)(hb:PE X (.BoolOp .And (b::rest) pos) tb):PE X (.BoolOp .And (a::b::rest) pos) (ahY ta tb):=by
 intro pins s σ H Q I h;refine BoolOp_and (thn (ha pins s σ H _ I h) λ v s1 hq3=>?_);obtain⟨x,H1,I1,r1,q1⟩:=hq3;obtain⟨c,rfl,q1⟩:=q1;cases r1;refine wpAny_truthy_bool ?_;cases c with
 | true=>exact hb pins s1 σ H1 Q I1 q1
 | false=>exact⟨.bl false,H1,I1,rfl,q1⟩
theorem afH(ha:PE X a ta):PE X (.UnaryOp .Not a pos) (ahA ta):=by intro pins s σ H Q I h;refine UnaryOp_ (thn (ha pins s σ H _ I h) λ v s1 hq4=>?_);obtain⟨x,H1,I1,r1,q1⟩:=hq4;obtain⟨c,rfl,q1⟩:=q1;cases r1;exact not_of (wpAny_truthy_bool ⟨.bl (!c),H1,I1,rfl,q1⟩)
end
def SqL(K:FG)(H:Hp)(a:Addr)(xs:List V):Prop:=
 Rd H a (.lst xs) \/
  ∃ (o:Obj) (its:Array Value) (n:Nat),K.lookup a=some o/\o.cls=.type "list" /\ o.dict=none/\o.data=.seq its n/\its.size<=sizeLine/\Vals xs its.toList
def SqT(K:FG)(H:Hp)(a:Addr)(xs:List V):Prop:=
 Rd H a (.tup xs) \/
  ∃ (o:Obj) (its:Array Value) (n:Nat),K.lookup a=some o/\o.cls=.type "tuple" /\ o.dict=none/\o.data=.seq its n/\its.size<=sizeLine/\Vals xs its.toList
def ajp:Value->Option V
 | .none=>some .non
 | .bool b=>some (.bl b)
 | .int i _=>some (.int i)
 | .str x _=>some (.str x)
 | .bytes b _=>some (.byt b)
 | .float b _=>some (.flt b)
 | .ref a=>some (.ref a)
 | .type n=>some (.ty n)
 | _=>none
theorem RelV.abs(r:RelV x u):ajp u=some x:=by
 cases x with
 | non=>cases r;rfl
 | bl _=>cases r;rfl
 | int _=>obtain⟨t,rfl⟩:=r;rfl
 | str _=>obtain⟨t,rfl⟩:=r;rfl
 | byt _=>obtain⟨t,rfl⟩:=r;rfl
 | flt _=>obtain⟨t,rfl⟩:=r;rfl
 | ref _=>cases r;rfl
 | ty _=>cases r;rfl
theorem RelV.inj(r:RelV x u)(q:RelV y u):x=y:=Option.some.inj (r.abs.symm.trans q.abs)
theorem Vals.inj:∀ {xs ys:List V} {us:List Value},Vals xs us->Vals ys us->xs=ys
 | _,_,_,.nil,.nil=>rfl
 | _,_,_,.cons r t,.cons r' t'=>by rw[r.inj r',Vals.inj t t']
theorem SqL.of{K:FG}(h:H a=some (.lst xs)):SqL K H a xs:=.inl (.inl h)
theorem Inv.list(I:Inv X pins σ H s)(h:SqL X.K H a xs):∃ its:List Value,Vals xs its/\PlainL s.heap a its.toArray/\xs.length<=sizeLine:=by
 rcases h with h | ⟨o,its,n,hk,hc,hd,hs,hz,r⟩
 ·obtain⟨z,its,n,r,e⟩:=h.ok I.hok;exact⟨its,r,⟨_,n,e,rfl,rfl,rfl⟩,z⟩
 ·refine⟨its.toList,r,⟨o,n,I.kIn a o hk,hc,hd,by simpa using hs⟩,?_⟩;have e:=r.length;simp only[Array.length_toList] at e;omega
theorem Inv.aiO(I:Inv X pins σ H s)(h:SqT X.K H a xs):∃ its:List Value,Vals xs its/\aby s.heap a its.toArray/\xs.length<=sizeLine:=by
 rcases h with h | ⟨o,its,n,hk,hc,hd,hs,hz,r⟩
 ·obtain⟨z,its,r,p⟩:=h.ok I.hok;exact⟨its,r,p,z⟩
 ·refine⟨its.toList,r,⟨o,I.kIn a o hk,hc,hd,n,by simpa using hs⟩,?_⟩;have e:=r.length;simp only[Array.length_toList] at e;omega
theorem Inv.tuple(I:Inv X pins σ H s)(h:SqT X.K H a xs):∃ its:List Value,Vals xs its/\IsTup s.heap a its.toArray/\xs.length<=sizeLine:=by obtain⟨its,r,p,z⟩:=I.aiO h;exact⟨its,r,p.tup,z⟩
theorem Inv.oB(I:Inv X pins σ H s)(h:SqL X.K H a xs)(h':SqL X.K H a ys):xs=ys:=by
 obtain⟨its,r,⟨o,n,e,_,_,d⟩,_⟩:=I.list h;obtain⟨its',r',⟨o',n',e',_,_,d'⟩,_⟩:=I.list h';rw[e] at e';cases e';rw[d] at d'
 injection d' with d1 _
 have:its=its':=by simpa using congrArg Array.toList d1
 subst this;exact r.inj r'
theorem Inv.oR(I:Inv X pins σ H s)(h:SqT X.K H a xs)(h':SqT X.K H a ys):xs=ys:=by
 obtain⟨its,r,⟨o,e,_,n,d⟩,_⟩:=I.tuple h;obtain⟨its',r',⟨o',e',_,n',d'⟩,_⟩:=I.tuple h';rw[e] at e';cases e';rw[d] at d'
 injection d' with d1 _
 have:its=its':=by simpa using congrArg Array.toList d1
 subst this;exact r.inj r'
abbrev Cx.yC(X:Cx)(E:VP):Cx:={X with xe:=E}
abbrev Cx.nox(X:Cx):Cx:=X.yC λ _ _=>False
theorem Cx.Ok.yC{X:Cx}(ok:X.Ok)(E:VP):(X.yC E).Ok:=
 ⟨ok.mod,ok.kind,ok.glob,ok.blt,ok.above,ok.inj,ok.has,ok.cab,ok.hd,ok.frames,ok.stk,ok.exf,ok.bs,ok.bsz,ok.noex,ok.exfs,ok.nL,ok.frf⟩
theorem Cx.Ok.je{X:Cx}{E:VP}(ok:(X.yC E).Ok):X.Ok:=
 ⟨ok.mod,ok.kind,ok.glob,ok.blt,ok.above,ok.inj,ok.has,ok.cab,ok.hd,ok.frames,ok.stk,ok.exf,ok.bs,ok.bsz,ok.noex,ok.exfs,ok.nL,ok.frf⟩
theorem Inv.yC(I:Inv X pins σ H s)(E:VP):Inv (X.yC E) pins σ H s:=⟨I.ok.yC E,I.os,I.bare,I.base,I.loc,I.cell,I.free,I.freeC,I.pin,I.hok,I.len⟩
theorem Inv.je(I:Inv (X.yC E) pins σ H s):Inv X pins σ H s:=⟨I.ok.je,I.os,I.bare,I.base,I.loc,I.cell,I.free,I.freeC,I.pin,I.hok,I.len⟩
theorem SP.je(h:SP (X.yC E) pins D f s'):SP X pins D f s':=by
 cases f with
 | next=>obtain⟨σ',H',I,q⟩:=h;exact⟨σ',H',I.je,q⟩
 | brk=>obtain⟨σ',H',I,q⟩:=h;exact⟨σ',H',I.je,q⟩
 | cont=>obtain⟨σ',H',I,q⟩:=h;exact⟨σ',H',I.je,q⟩
 | ret u=>obtain⟨v,σ',H',I,r,q⟩:=h;exact⟨v,σ',H',I.je,r,q⟩
theorem PSs.nox{st:List Stmt}{t:TS}(h:PSs X.nox st t):PSs X st t:=λ pins s σ H D I hw =>
 wpAny_mono (h pins s σ H D (I.yC _) hw) (λ _ _ q=>q.je) λ _ _ z=>False.elim z
section
variable {X:Cx}{st:Stmt}{rest:List Stmt}{t u:TS}{e:Expr}{te:TE}{pos:Pos}
def ahl:TS:=λ D σ H=>D.nx σ H
def ajo(t u:TS):TS:=λ D σ H=>t {D with nx:=u D} σ H
theorem adK:PSs X [] ahl:=λ _ _ σ H _ I h=>wpAny_execs_nil ⟨σ,H,I,h⟩
theorem yV(h1:PS X st t)(h2:PSs X rest u):PSs X (st::rest) (ajo t u):=by
 intro pins s σ H D I h;refine wpAny_execs_cons (thn (h1 pins s σ H {D with nx:=u D} I h) λ f s1 q=>?_);cases f with
 | next =>
  obtain⟨σ',H',I',q⟩:=q;exact h2 pins s1 σ' H' D I' q
 | ret v=>exact q
 | brk=>exact q
 | cont=>exact q
theorem vz(h1:PS X st t):PSs X [st] t:=by
 intro pins s σ H D I h;refine wpAny_execs_cons (thn (h1 pins s σ H D I h) λ f s1 q=>?_);cases f with
 | next=>exact wpAny_execs_nil q
 | ret v=>exact q
 | brk=>exact q
 | cont=>exact q
theorem Inv.quiet(I:Inv X pins σ H s):interactive X.env=false:=by simp[interactive,I.ok.kind]
def aht(te:TE):TS:=λ D σ H=>te σ H λ _ H1=>D.nx σ H1
theorem abL(he:PE X e te)(hs:swapsWith e none pos.line X.env=pure false:=by rfl):PS X (.Expr e pos) (aht te):=by intro pins s σ H D I h;exact wpAny_Expr_any (thn (he pins s σ H _ I h) λ v s1 ⟨x,H1,I1,r1,q1⟩=>⟨σ,H1,I1,q1⟩) I.quiet hs
def ajb(te:TE):TS:=λ D σ H=>te σ H D.rt
theorem af5(he:PE X e te):PS X (.Return (some e) pos) (ajb te):=by intro pins s σ H D I h;exact wpAny_Return_some (thn (he pins s σ H _ I h) λ v s1 ⟨x,H1,I1,r1,q1⟩=>⟨x,σ,H1,I1,r1,q1⟩)
def aiV(c:TT)(t u:TS):TS:=λ D σ H=>c σ H λ b H1=>if b=true then t D σ H1 else u D σ H1
theorem ag7(hc:PT X c tc)(ha:PSs X a t)(hb:PSs X b u):PS X (.If c a b pos) (aiV tc t u):=by
 intro pins s σ H D I h;refine wpAny_If (thn (hc pins s σ H _ I h) λ d s1 hq5=>?_);obtain⟨H1,I1,q1⟩:=hq5;cases d with
 | true=>exact ha pins s1 σ H1 D I1 q1
 | false=>exact hb pins s1 σ H1 D I1 q1
end
abbrev TG:=V->St->Hp->(St->Hp->Prop)->Prop
abbrev TGs:=List V->St->Hp->(St->Hp->Prop)->Prop
def PG(X:Cx)(target:Expr)(t:TG):Prop:=
 ∀ (pins:PN) (s:Shared) (σ:St) (H:Hp) (v:V) (u:Value) (Q:St->Hp->Prop),Inv X pins σ H s->RelV v u->t v σ H Q ->
  wpAny (model X.prog X.w) X.A (assign target X.env u) (λ _ s'=>∃ σ' H',Inv X pins σ' H' s'/\Q σ' H') X.xe s
def PGs(X:Cx)(ts:List Expr)(t:TGs):Prop:=
 ∀ (pins:PN) (s:Shared) (σ:St) (H:Hp) (vs:List V) (us:List Value) (Q:St->Hp->Prop),Inv X pins σ H s->Vals vs us->t vs σ H Q ->
  wpAny (model X.prog X.w) X.A (assignInOrder ((assignEach ts X.env).map (·.2)) us) (λ _ s'=>∃ σ' H',Inv X pins σ' H' s'/\Q σ' H') X.xe s
abbrev ahj:=V->V->V->Hp->(Hp->Prop)->Prop
def agU(X:Cx)(t:ahj):Prop:=
 ∀ (pins:PN) (s:Shared) (σ:St) (H:Hp) (o i v:V) (ov iv u:Value) (Q:Hp->Prop),Inv X pins σ H s->RelV o ov->RelV i iv->RelV v u->t o i v H Q ->
  wpAny (model X.prog X.w) X.A (setItem ov iv u) (λ _ s'=>∃ H',Inv X pins σ H' s'/\Q H') X.xe s
abbrev TIp:=V->V->Hp->VK->Prop
def PIp(X:Cx)(op:Operator)(t:TIp):Prop:=
 ∀ (pins:PN) (s:Shared) (σ:St) (H:Hp) (x y:V) (v u:Value) (Q:VK),Inv X pins σ H s->RelV x v->RelV y u->t x y H Q ->
  wpAny (model X.prog X.w) X.A (inplaceOp op v u) (EP X pins σ Q) X.xe s
def zm(i:Nat):TG:=λ v σ H Q=>Q (σ.set i (some v)) H
theorem qI(hN:X.N.Nodup)(hi:X.N[i]? =some x)(hx:Loc X.env.scope x)(hf:X.fn x=true\/X.env.scope.names.lookup x=some .local:=by first | exact .inl rfl | exact .inr rfl | assumption):PG X (.Name x pos) (zm i):=by intro pins s σ H v u Q I r h;exact wpAny_assign_Name (nz I hN hi hx r (λ s' I'=>⟨_,H,I',h⟩) hf)
def ajv:TGs:=λ vs σ H Q=>vs=[]/\Q σ H
def ahC(t:TG)(u:TGs):TGs:=λ vs σ H Q=>∃ v r,vs=v::r/\t v σ H λ σ' H'=>u r σ' H' Q
theorem acN:PGs X [] ajv:=by intro pins s σ H vs us Q I r h;obtain⟨e,h⟩:=h;subst e;cases r;exact assignInOrder_nil ⟨σ,H,I,h⟩
theorem aap(h1:PG X e t)(h2:PGs X es u)
  (hs:(assignEach (e::es) X.env).map (·.2)=assign e X.env::(assignEach es X.env).map (·.2):=by rfl):PGs X (e::es) (ahC t u):=by
 intro pins s σ H vs us Q I r h;obtain⟨v,vr,e1,h⟩:=h;subst e1;cases r with
 | cons r rr =>
  rw[hs];refine assignInOrder_cons (thn (h1 pins s σ H _ _ _ I r h) λ _ s1 hq6=>?_);obtain⟨σ1,H1,I1,q1⟩:=hq6;exact h2 pins s1 σ1 H1 _ _ Q I1 rr q1
def ajs(K:FG)(n:Nat)(t:TGs):TG:=λ v σ H Q=>∃ a xs,v=.ref a/\SqT K H a xs/\xs.length=n/\t xs σ H Q
theorem aeG(hc:X.calm=true)(h:PGs X es t)
  (hn:(assignEach es X.env).length=n:=by rfl)(hst:(assignEach es X.env).findIdx? (·.1)=none:=by rfl):PG X (.Tuple es k pos) (ajs X.K n t):=by
 intro pins s σ H v u Q I r hw;obtain⟨a,xs,e1,hq,hl,hw⟩:=hw;subst e1;cases r;obtain⟨its,rv,ht,hz⟩:=I.tuple hq;refine assign_Tuple_tuple (I.ok.hd hc) ht (by simp[hn,<- hl,rv.length]) hst λ h' hx=>?_;have I1:Inv X pins σ H {s with heap:=h'}:=I.kept (t':=s.toks) λ b o e=>hx b o (Nat.ne_of_lt (Heap.lt_size e)) e;exact h pins _ σ H xs _ Q I1 (by simpa using rv) hw
def ajq(to ti:TE)(t:ahj):TG:=λ v σ H Q=>to σ H λ o H1=>ti σ H1 λ i H2=>t o i v H2 λ H3=>Q σ H3
theorem afI(ho:PE X o to)(hi:PE X i ti)(hs:agU X t)
  (ha:∀ v,assign (.Subscript o i pos) X.env v=(do
   let ov <- holding [v] (eval o X.env)
   let iv <- holding [v,ov] (eval i X.env)
   standAt pos
   holding [v,ov,iv] (setItem ov iv v)
   release [v,ov,iv] []):=by intro _;rfl):PG X (.Subscript o i pos) (ajq to ti t):=by
 intro pins s σ H v u Q I r h;rw[ha];refine wpAny_bind (wpAny_holding (thn (ho pins s σ H _ I h) λ ov s1 hq7=>?_));obtain⟨x,H1,I1,r1,q1⟩:=hq7;refine wpAny_bind (wpAny_holding (thn (hi pins s1 σ H1 _ I1 q1) λ iv s2 hq8=>?_));obtain⟨y,H2,I2,r2,q2⟩:=hq8;refine wpAny_bind (wpAny_standAt (wpAny_bind (wpAny_holding (thn (hs pins s2 σ H2 x y v ov iv u _ I2 r1 r2 r q2) λ _ s3 hq9=>?_))));obtain⟨H3,I3,q3⟩:=hq9;exact wpAny_release ⟨σ,H3,I3,q3⟩
def aep(te:TE)(g:TG):TS:=λ D σ H=>te σ H λ x H1=>g x σ H1 D.nx
theorem afw(he:PE X e te)(hg:PG X tg g)(hs:swapsWithSole [tg] e pos.line X.env=pure false:=by rfl)(hw:swappedStores [tg] e X.env=pure none:=by rfl)
  (h1:(assignEach [tg] X.env).map (·.2)=[assign tg X.env]:=by rfl):PS X (.Assign [tg] e pos) (aep te g):=by
 intro pins s σ H D I h;refine wpAny_Assign_stores (thn (he pins s σ H _ I h) λ v s1 ⟨x,H1,I1,r1,q1⟩=>?_) hs hw;rw[h1];exact thn (hg pins s1 σ H1 x v _ I1 r1 q1) λ _ s2 q=>q
theorem afq(hN:X.N.Nodup)(hi:X.N[i]? =some x)(hx:Loc X.env.scope x)(he:PE X e te)(hs:swapsWith e (some (.Name x pos')) pos.line X.env=pure false:=by rfl)(hf:X.fn x=true\/X.env.scope.names.lookup x=some .local:=by first | exact .inl rfl | exact .inr rfl | assumption) :
  PS X (.Assign [.Name x pos'] e pos) (aep te (zm i)):=by
 intro pins s σ H D I h;refine wpAny_Assign_Name (thn (he pins s σ H _ I h) λ v s1 ⟨y,H1,I1,r1,q1⟩=>?_) hs;exact nz I1 hN hi hx r1 (λ s2 I2=>⟨_,H1,I2,q1⟩) hf
def ahq(to ti te:TE)(gR:V->V->Hp->VK->Prop)(tip:TIp)(tset:ahj):TS:=λ D σ H=>to σ H λ o H1=>ti σ H1 λ i H2=>gR o i H2 λ x H3=>te σ H3 λ y H4=>tip x y H4 λ z H5=>tset o i z H5 λ H6=>D.nx σ H6
def ahz(X:Cx)(t:V->V->Hp->VK->Prop):Prop:=
 ∀ (pins:PN) (s:Shared) (σ:St) (H:Hp) (o i:V) (ov iv:Value) (Q:VK),Inv X pins σ H s->RelV o ov->RelV i iv->t o i H Q ->
  wpAny (model X.prog X.w) X.A (getItem ov iv) (EP X pins σ Q) X.xe s
theorem ya(ho:PE X o to)(hi:PE X i ti)(hg:ahz X gR)(he:PE X e te)(hp:PIp X op tip)(hs:agU X tset)
  (ha:∀ ov iv new,augStore i ov iv new=(do holding [new,ov,iv] (setItem ov iv new);release [new,ov,iv] [];pure .next):=by intros;rfl):PS X (.AugAssign (.Subscript o i tpos) op e pos) (ahq to ti te gR tip tset):=by
 intro pins s σ H D I h;refine wpAny_AugAssign_SubscriptAny (thn (ho pins s σ H _ I h) λ ov s1 ⟨x1,H1,I1,r1,q1⟩=>?_) ha;refine thn (hi pins s1 σ H1 _ I1 q1) λ iv s2 hq10=>?_;obtain⟨x2,H2,I2,r2,q2⟩:=hq10;refine thn (hg pins s2 σ H2 x1 x2 ov iv _ I2 r1 r2 q2) λ old s3 hq11=>?_;obtain⟨x3,H3,I3,r3,q3⟩:=hq11;refine thn (he pins s3 σ H3 _ I3 q3) λ v s4 hq12=>?_;obtain⟨x4,H4,I4,r4,q4⟩:=hq12;refine thn (hp pins s4 σ H4 x3 x4 old v _ I4 r3 r4 q4) λ new s5 hq13=>?_;obtain⟨x5,H5,I5,r5,q5⟩:=hq13;exact thn (hs pins s5 σ H5 x1 x2 x5 ov iv new _ I5 r1 r2 r5 q5) λ _ s6 ⟨H6,I6,q6⟩=>⟨σ,H6,I6,q6⟩
def ipI(f:Int->Int->Int):TIp:=λ x y H Q=>∃ i j,x=.int i/\y=.int j/\Q (.int (f i j)) H
theorem sZ:PIp X .Add (ipI λ i j=>i+j):=by intro pins s σ H x y v u Q I r1 r2 h;obtain⟨i,j,e1,e2,q⟩:=h;subst e1;subst e2;obtain⟨t,rfl⟩:=r1;obtain⟨t',rfl⟩:=r2;exact iadd_int ⟨.int _,H,I.tok _,⟨_,rfl⟩,q⟩
theorem abc:PIp X .Sub (ipI λ i j=>i-j):=by intro pins s σ H x y v u Q I r1 r2 h;obtain⟨i,j,e1,e2,q⟩:=h;subst e1;subst e2;obtain⟨t,rfl⟩:=r1;obtain⟨t',rfl⟩:=r2;exact isub_int ⟨.int _,H,I.tok _,⟨_,rfl⟩,q⟩
def aeg(c:TT)(tb:TS):TS:=λ D σ H=>∃ W:Nat->St->Hp->Prop,(∃ m,W m σ H)/\∀ m σ H,W m σ H ->
 c σ H λ b H1=>if b=true then ∃ N:St->Hp->Prop,(∀ σ' H',N σ' H'->∃ m',m'<m/\W m' σ' H')/\tb {D with nx:=N,ct:=N,bk:=D.nx} σ H1 else D.nx σ H1
theorem aaA(hp:PassesOwn (model X.prog X.w) X.A X.env X.xe)(hc:PT X c tc)(hb:PSs X body tb):PS X (.While c body [] pos) (aeg tc tb):=by
 intro pins s σ H D I h;obtain⟨W,⟨m0,w0⟩,turn⟩:=h;refine wpAny_While (codeAny_whileLoop (λ n s'=>∃ σ' H',Inv X pins σ' H' s'/\W n σ' H') ?_ m0 ⟨σ,H,I,w0⟩);rintro n s1 ⟨σ1,H1,I1,w1⟩;refine wpAny_passesOwn hp (thn (hc pins s1 σ1 H1 _ I1 (turn n σ1 H1 w1)) λ b s2 hq14=>?_);obtain⟨H2,I2,q2⟩:=hq14;cases b with
 | true =>
  obtain⟨N,hN,q2⟩:=q2;rw[if_pos rfl];refine wpAny_passesOwn hp (thn (hb pins s2 σ1 H2 _ I2 q2) λ f s3 q3=>?_);cases f with
  | next =>
   obtain⟨σ3,H3,I3,n3⟩:=q3;obtain⟨m',hm,w3⟩:=hN σ3 H3 n3;exact⟨m',hm,σ3,H3,I3,w3⟩
  | cont =>
   obtain⟨σ3,H3,I3,n3⟩:=q3;obtain⟨m',hm,w3⟩:=hN σ3 H3 n3;exact⟨m',hm,σ3,H3,I3,w3⟩
  | brk=>exact q3
  | ret v=>exact q3
 | false =>
  rw[if_neg Bool.false_ne_true];exact wpAny_execs_nil ⟨σ1,H2,I2,q2⟩
structure It where
 go:Nat->Hp->Prop
 yld:Nat->Hp->V->Hp->Prop
 stop:Nat->Hp->Prop
def jz(X:Cx)(pins:PN)(H:Hp)(b:Addr):Prop:=
 H b=none/\b≠X.env.locals/\b ∉ X.fs/\(b∈X.ex\/X.s₀.heap.objs.size<=b)/\(∀ x c,X.env.cells.lookup x=some c->c≠b)/\∀ p∈X.pn++pins,p.1≠b
theorem Inv.mB(I:Inv X pins σ H s)(hb:s.heap.objs.size<=b)(hn:H' b=none):jz X pins H' b:=by
 refine⟨hn,Nat.ne_of_gt (Nat.lt_of_lt_of_le I.lt hb),I.aiB hb,.inr (Nat.le_trans I.sz hb),λ x c e z=>?_,λ p hp z=>?_⟩
 ·obtain⟨v,q⟩:=I.cell x c e;exact absurd (Nat.lt_of_lt_of_le q.lt (by rw[z];exact hb)) (Nat.lt_irrefl _)
 ·exact absurd (Nat.lt_of_lt_of_le (Heap.lt_size (I.pin p hp).1) (by rw[z];exact hb)) (Nat.lt_irrefl _)
structure Turn(P:Program)(w:World)(K:FG)(tg:Expr)(J:It)(fp:List Addr)(it:Addr)(tn:Nat->Heap->Prop):Prop where
 mem:it∈fp
 obj:∀ i h,tn i h->∀ b∈fp,∃ o,h.get? b=some o/\∀ v,o.data ≠ .cell v
 keep:∀ i h h',tn i h->(∀ b∈fp,∀ o,h.get? b=some o->h'.get? b=some o)->tn i h'
 item:∀ (X:Cx),X.prog=P->X.w=w->X.K=K->X.calm=true->∀ (i:Nat) (pins:PN) (s:Shared) (σ:St) (H:Hp) (E:VP),Inv X pins σ H s->(∀ b∈fp,jz X pins H b)->tn i s.heap->J.go i H ->
  wpAny (model P w) X.A (pyNext (.ref it)) (λ r s1=>∃ u,r=some u /\
   wpAny (model P w) X.A (letOwnedTupleGo tg (.ref it) u) (λ _ s2=>∃ x H',Inv X pins σ H' s2/\RelV x u/\J.yld i H x H'/\tn (i+1) s2.heap/\∀ b∈fp,H' b=none) E s1) E s
 done:∀ (X:Cx),X.prog=P->X.w=w->X.K=K->X.calm=true->∀ (i:Nat) (pins:PN) (s:Shared) (σ:St) (H:Hp) (E:VP),Inv X pins σ H s->(∀ b∈fp,jz X pins H b)->tn i s.heap->J.stop i H ->
  wpAny (model P w) X.A (pyNext (.ref it)) (λ r s1=>r=none/\Inv X pins σ H s1) E s
 self:∀ (A:Around) (i:Nat) (s:Shared) (Q:VP) (E:VP),tn i s.heap->Q (.ref it) s->wpAny (model P w) A (pyIter (.ref it)) Q E s
abbrev TI:=St->Hp->(It->Hp->Prop)->Prop
def PIE(X:Cx)(pins:PN)(σ:St)(tg:Expr)(R:It->Hp->Prop)(itv:Value)(s2:Shared):Prop:=
 ∃ (it:Addr) (fp:List Addr) (tn:Nat->Heap->Prop) (J:It) (H':Hp),itv=.ref it/\Inv X pins σ H' s2/\Turn X.prog X.w X.K tg J fp it tn/\tn 0 s2.heap/\(∀ b∈fp,jz X pins H' b)/\R J H'
def PI(X:Cx)(tg iter:Expr)(wi:TI):Prop:=
 ∀ (pins:PN) (s:Shared) (σ:St) (H:Hp) (R:It->Hp->Prop),Inv X pins σ H s->wi σ H R ->
  wpAny (model X.prog X.w) X.A (eval iter X.env) (λ v s1=>wpAny (model X.prog X.w) X.A (pyIter v) (PIE X pins σ tg R) X.xe s1) X.xe s
theorem wt(ho:s.heap.get? it=some o)(hc:o.cls=.type n)(hd:o.data=.fields vs)
  (hn:["enumerate", "zip", "dict_itemiterator", "dict_reverseitemiterator", "odict_iterator", "itertools.zip_longest", "itertools.pairwise"].contains n=false)(hQ:Q () s):wpAny M A (letOwnedTupleGo tg (.ref it) u) Q E s:=by
 unfold letOwnedTupleGo;cases tg<;>first
  | exact wpAny_pure hQ
  | (cases u<;>first
    | exact wpAny_pure hQ
    | (refine wpAny_bind (wpAny_load ho ?_)
       rw[hc,hd];show wpAny M A (if (["enumerate", "zip", "dict_itemiterator", "dict_reverseitemiterator", "odict_iterator", "itertools.zip_longest", "itertools.pairwise"].contains n&&vs[0]? == some (rawInt _))=true then _ else _) Q E s;rw[if_neg (by intro h;rw[hn,Bool.false_and] at h;cases h)];exact wpAny_pure hQ))
def Itl(K:FG)(a:Addr):It:=
 ⟨λ i H=>∃ xs x,SqL K H a xs/\xs[i]? =some x,λ i H x H'=>H'=H/\∀ xs,SqL K H a xs->xs[i]? =some x,λ i H=>∃ xs,SqL K H a xs/\xs.length<=i⟩
def Itt(K:FG)(a:Addr):It:=
 ⟨λ i H=>∃ xs x,SqT K H a xs/\xs[i]? =some x,λ i H x H'=>H'=H/\∀ xs,SqT K H a xs->xs[i]? =some x,λ i H=>∃ xs,SqT K H a xs/\xs.length<=i⟩
def Itr(lo:Int)(n:Nat):It:=⟨λ i _=>i<n,λ i H x H'=>H'=H/\x=.int (lo+i),λ i _=>n<=i⟩
theorem we{P:Program}{w:World}{K:FG}{tg:Expr}(a it:Addr):Turn P w K tg (Itl K a) [it] it (λ i h=>h.IsListIter it a i) where
 mem:=by simp
 obj:=λ i h st b hb=>by
  have e:b=it:=by simpa using hb
  subst e;obtain⟨o,e,c,d⟩:=st;exact⟨o,e,λ v z=>by rw[d] at z;cases z⟩
 keep:=λ i h h' st k=>st.at λ o e=>k it (by simp) o e
 item:=by intro X hP hw hK hc i pins s σ H E I hf st hg;subst hP hw hK;obtain⟨xs,x,hq,hx⟩:=hg;obtain⟨its,rv,p,hz⟩:=I.list hq;obtain⟨u,hu,ru⟩:=rv.get hx;obtain⟨f0,f1,f2,f3,f4,f5⟩:=hf it (by simp);refine wpAny_pyNext_list_item st p.isList (x:=u) (by simpa using hu) λ h' st' sb=>?_;have I1:Inv X pins σ H {s with heap:=h'}:=I.turned (t':=s.toks) (λ b o hb e=>(sb.2 b hb).trans e) f0 f1 f3 f4 f5;obtain⟨o,e,c,d⟩:=id st';exact⟨u,rfl,wt (s:={s with heap:=h'}) e c d (by decide) ⟨x,H,I1,ru,⟨rfl,λ ys hy=>by rw[I.oB hy hq];exact hx⟩,st',λ b hb=>(hf b hb).1⟩⟩
 done:=by intro X hP hw hK hc i pins s σ H E I hf st hg;subst hP hw hK;obtain⟨xs,hq,hx⟩:=hg;obtain⟨its,rv,p,hz⟩:=I.list hq;obtain⟨f0,f1,f2,f3,f4,f5⟩:=hf it (by simp);have hl:=rv.length;exact wpAny_pyNext_list_end (I.ok.hd hc) st p.isList (by simp;omega) λ h' eb=>⟨rfl,I.turned (t':=s.toks) (λ b o hb e=>eb b o hb e) f0 f1 f3 f4 f5⟩
 self:=λ _ _ _ _ _ st h=>wpAny_pyIter_listiter st h
theorem u4{P:Program}{w:World}{K:FG}{tg:Expr}(a it:Addr):Turn P w K tg (Itt K a) [it] it (λ i h=>h.IsTupleIter it a i) where
 mem:=by simp
 obj:=λ i h st b hb=>by
  have e:b=it:=by simpa using hb
  subst e;obtain⟨o,e,c,d⟩:=st;exact⟨o,e,λ v z=>by rw[d] at z;cases z⟩
 keep:=λ i h h' st k=>st.at λ o e=>k it (by simp) o e
 item:=by intro X hP hw hK hc i pins s σ H E I hf st hg;subst hP hw hK;obtain⟨xs,x,hq,hx⟩:=hg;obtain⟨its,rv,p,hz⟩:=I.tuple hq;obtain⟨u,hu,ru⟩:=rv.get hx;obtain⟨f0,f1,f2,f3,f4,f5⟩:=hf it (by simp);refine wpAny_pyNext_tuple_item st (show s.heap.IsTuple a its.toArray from p) (x:=u) (by simpa using hu) λ h' st' sb=>?_;have I1:Inv X pins σ H {s with heap:=h'}:=I.turned (t':=s.toks) (λ b o hb e=>(sb.2 b hb).trans e) f0 f1 f3 f4 f5;obtain⟨o,e,c,d⟩:=id st';exact⟨u,rfl,wt (s:={s with heap:=h'}) e c d (by decide) ⟨x,H,I1,ru,⟨rfl,λ ys hy=>by rw[I.oR hy hq];exact hx⟩,st',λ b hb=>(hf b hb).1⟩⟩
 done:=by intro X hP hw hK hc i pins s σ H E I hf st hg;subst hP hw hK;obtain⟨xs,hq,hx⟩:=hg;obtain⟨its,rv,p,hz⟩:=I.tuple hq;obtain⟨f0,f1,f2,f3,f4,f5⟩:=hf it (by simp);have hl:=rv.length;exact wpAny_pyNext_tuple_end (I.ok.hd hc) st (show s.heap.IsTuple a its.toArray from p) (by simp;omega) λ h' eb=>⟨rfl,I.turned (t':=s.toks) (λ b o hb e=>eb b o hb e) f0 f1 f3 f4 f5⟩
 self:=λ _ _ _ _ _ st h=>wpAny_pyIter_tupleiter st h
theorem uf{P:Program}{w:World}{K:FG}{tg:Expr}(it:Addr)(lo:Int)(n:Nat):Turn P w K tg (Itr lo n) [it] it (λ i h=>IsRangeIter h it (lo+(i:Nat) * 1) ((n:Int)-(i:Nat)) 1) where
 mem:=by simp
 obj:=λ i h st b hb=>by
  have e:b=it:=by simpa using hb
  subst e;exact⟨_,st,λ v z=>by have z':Data.fields _=Data.cell v:=z;cases z'⟩
 keep:=λ i h h' st k=>k it (by simp) _ st
 item:=by intro X hP hw hK hc i pins s σ H E I hf st hg;subst hP hw hK;obtain⟨f0,f1,f2,f3,f4,f5⟩:=hf it (by simp);have W:=Walks.range (prog:=X.prog) (w:=X.w) (I.ok.hd hc) it lo 1 n;refine W.item i s _ _ hg st λ v h' tk hv st' kk=>?_;obtain⟨t,rfl⟩:=hv;have I1:Inv X pins σ H {s with heap:=h',toks:=tk}:=I.turned (λ b o hb e=>kk b o (by simpa using hb) e) f0 f1 f3 f4 f5;refine⟨_,rfl,wt (s:={s with heap:=h',toks:=tk}) (n:= "range_iterator") st' rfl rfl (by decide) ⟨.int (lo+i),H,I1,⟨t,?_⟩,⟨rfl,rfl⟩,st',λ b hb=>(hf b hb).1⟩⟩;rw[Int.mul_one]
 done:=by intro X hP hw hK hc i pins s σ H E I hf st hg;subst hP hw hK;obtain⟨f0,f1,f2,f3,f4,f5⟩:=hf it (by simp);exact wpAny_pyNext_range_end (I.ok.hd hc) st (by have:n<=i:=hg;omega) λ h' eb=>⟨rfl,I.turned (t':=s.toks) (λ b o hb e=>eb b o hb e) f0 f1 f3 f4 f5⟩
 self:=λ _ _ _ _ _ st h=>wpAny_pyIter_rangeiter st h
theorem aaf{R:It->Hp->Prop}{lo hi:Int}{t u v:Tok}{tk:Nat}(I:Inv X pins σ H s)(h1:-(2 ^ 62)<=lo)(h2:lo<2 ^ 62)(h3:-(2 ^ 62)<=hi)(h4:hi<2 ^ 62)
  (q:R (Itr lo (hi-lo).toNat) H):wpAny (model X.prog X.w) X.A (pyIter (.ref s.heap.objs.size)) (PIE X pins σ tg R) E {s with heap:=s.heap.push {cls:=.type "range",data:=.fields #[.int lo t,.int hi u,.int 1 v]},toks:=tk}:=by
 refine wpAny_pyIter_range (IsRange.new ..) (small_one h1 h2 h3 h4) ?_;have I1:Inv X pins σ H {s with heap:=s.heap.push {cls:=.type "range",data:=.fields #[.int lo t,.int hi u,.int 1 v]},toks:=tk}:=I.kept λ b o e=>Heap.get?_push_of_some _ e;refine⟨(s.heap.push {cls:=.type "range",data:=.fields #[.int lo t,.int hi u,.int 1 v]}).objs.size,[(s.heap.push {cls:=.type "range",data:=.fields #[.int lo t,.int hi u,.int 1 v]}).objs.size],_,_,H,rfl,
  I1.kept (t':=tk) λ b o e=>Heap.get?_push_of_some _ e,uf _ lo (hi-lo).toNat,?_,λ b hb=>?_,q⟩
 ·have e1:lo+((0:Nat):Int) * 1=lo:=by simp
  have e2:(((hi-lo).toNat:Nat):Int)-((0:Nat):Int)=Builtin.Range.rangeSize lo hi 1:=by rw[rangeSize_one];split<;>omega
  show IsRangeIter _ _ (lo+((0:Nat):Int) * 1) ((((hi-lo).toNat:Nat):Int)-((0:Nat):Int)) 1;rw[e1,e2];exact Heap.get?_push_size _ rfl
 ·have e:b=(s.heap.push {cls:=.type "range",data:=.fields #[.int lo t,.int hi u,.int 1 v]}).objs.size:=by simpa using hb
  subst e;exact I1.mB (Nat.le_refl _) (I1.hok.fresh (Nat.le_refl _))
def ahV(ta:TA):TI:=λ σ H R=>ta σ H λ vs H1=>∃ j:Int,vs=[.int j]/\-(2 ^ 62)<=j/\j<2 ^ 62/\R (Itr 0 j.toNat) H1
theorem wY{ta:TA}{p pos:Pos}(hg:Gl X "range")(hm:X.mg "range" = none)(ha:PA X [a] ta)(hs:starEach [a] X.env=[(false,eval a X.env)]:=by rfl):PI X tg (.Call (.Name "range" p) [a] [] pos) (ahV ta):=by
 intro pins s σ H R I h;refine Call_ (jg I hg hm boot_range (PyProof.Rows.callWith_type1 (thn (ha pos pins s σ H _ I h) λ us s1 ⟨vs,H1,I1,r1,q1⟩=>?_) hs rfl));obtain⟨j,e,q1,q2,q⟩:=q1;subst e;cases r1 with
 | cons r rr =>
  cases rr;obtain⟨t,rfl⟩:=r;exact call_range_1 (aaf I1 (by omega) (by omega) q1 q2 (by simpa using q))
def ajf(wi:TI)(g:TG)(tb:TS):TS:=λ D σ H=>wi σ H λ J H1=>∃ W:Nat->Nat->St->Hp->Prop,(∃ m,W 0 m σ H1)/\∀ i m σ H,W i m σ H ->
 (J.stop i H/\D.nx σ H)\/(J.go i H/\∃ N:St->Hp->Prop,(∀ σ' H',N σ' H'->∃ m',m'<m/\W (i+1) m' σ' H')/\∀ x H',J.yld i H x H'->g x σ H' λ σ2 H2=>tb {D with nx:=N,ct:=N,bk:=D.nx} σ2 H2)
def kU(fp:List Addr)(h:Heap):PN:=fp.filterMap λ b=>(h.get? b).map λ o=>(b,o)
theorem dO(hb:b∈fp)(e:h.get? b=some o):(b,o)∈kU fp h:=List.mem_filterMap.mpr ⟨b,hb,by rw[e];rfl⟩
theorem vw(hp:p∈kU fp h):p.1∈fp/\h.get? p.1=some p.2:=by
 obtain⟨b,hb,e⟩:=List.mem_filterMap.mp hp;cases q:h.get? b with
 | none=>rw[q] at e;cases e
 | some o =>
  rw[q] at e;have e':(b,o)=p:=Option.some.inj e;subst e';exact⟨hb,q⟩
theorem Inv.pinned(I:Inv X pins σ H s)(hf:∀ b∈fp,jz X pins H b)(ho:∀ b∈fp,∃ o,s.heap.get? b=some o/\∀ v,o.data ≠ .cell v):Inv X (pins++kU fp s.heap) σ H s:=
 I.d5 λ p hp=>(List.mem_append.mp hp).elim (λ z=>I.pin p (List.mem_append_right _ z)) λ z=>by obtain⟨hb,e⟩:=vw z;obtain⟨f0,f1,f2,_⟩:=hf p.1 hb;obtain⟨o,e',d⟩:=ho p.1 hb;rw[e] at e';cases e';exact⟨e,f0,f1,f2,d⟩
theorem Inv.hU(I:Inv X (pins++pl) σ H s):Inv X pins σ H s:=I.d5 λ p hp=>I.pin p (List.mem_append_right _ (List.mem_append_left _ hp))
theorem ae2(hp:PassesOwn (model X.prog X.w) X.A X.env X.xe)(hc:X.calm=true)(hi:PI X tg iter wi)(hg:PG X tg g)(hb:PSs X body tb)
  (hs:∀ x,foldedSetIterable iter X.env x=pure x:=by intro _;rfl):PS X (.For tg iter body [] pos) (ajf wi g tb):=by
 intro pins s σ H D I h;refine wpAny_For (thn (hi pins s σ H _ I h) λ v s1 h1=>thn h1 λ itv s2 h2=>?_) hs;obtain⟨it,fp,tn,J,H2,e,I2,T,st2,f2,W,⟨m0,w0⟩,turn⟩:=h2;subst e;have stat:∀ {H':Hp},(∀ b∈fp,H' b=none)->∀ b∈fp,jz X pins H' b:=λ hn b hb=>⟨hn b hb,(f2 b hb).2⟩;refine codeAny_forLoop_any (λ n s'=>∃ i σ' H',Inv X pins σ' H' s'/\tn i s'.heap/\(∀ b∈fp,H' b=none)/\W i n σ' H') ?_ m0 ⟨0,σ,H2,I2,st2,λ b hb=>(f2 b hb).1,w0⟩;rintro n s3 ⟨i,σ3,H3,I3,st3,fr3,w3⟩;rcases turn i n σ3 H3 w3 with ⟨stop,qn⟩ | ⟨go,N,hN,step⟩
 ·refine wpAny_passesOwn hp (thn (T.done X rfl rfl rfl hc i pins s3 σ3 H3 X.xe I3 (stat fr3) st3 stop) λ r s4 ⟨hr,I4⟩=>?_);subst hr;exact wpAny_execs_nil ⟨σ3,H3,I4,qn⟩
 ·refine wpAny_passesOwn hp (thn (T.item X rfl rfl rfl hc i pins s3 σ3 H3 X.xe I3 (stat fr3) st3 go) λ r s4 ⟨u,hr,h4⟩=>?_);subst hr;refine wpAny_passesOwn hp (thn h4 λ _ s5 hq15=>?_);obtain⟨x,H5,I5,r5,y5,st5,fr5⟩:=hq15;have I5':=I5.pinned (stat fr5) (T.obj _ _ st5);refine wpAny_passesOwn hp (thn (hg _ s5 σ3 H5 x u _ I5' r5 (step x H5 y5)) λ _ s6 hq16=>?_);obtain⟨σ6,H6,I6,q6⟩:=hq16;refine wpAny_passesOwn hp (thn (hb _ s6 σ6 H6 _ I6 q6) λ f s7 q7=>?_);have again:∀ {σ7:St} {H7:Hp},Inv X (pins++kU fp s5.heap) σ7 H7 s7->N σ7 H7->∃ m,m<n/\∃ i σ' H',Inv X pins σ' H' s7/\tn i s7.heap/\(∀ b∈fp,H' b=none)/\W i m σ' H':=λ {σ7 H7} I7 n7=>by obtain⟨m',hm,w7⟩:=hN σ7 H7 n7;refine⟨m',hm,i+1,σ7,H7,I7.hU,T.keep _ _ _ st5 λ b hb o e=>(I7.pin (b,o) (List.mem_append_right _ (List.mem_append_right _ (dO hb e)))).1,λ b hb=>?_,w7⟩;obtain⟨o,e,d⟩:=T.obj _ _ st5 b hb;exact(I7.pin (b,o) (List.mem_append_right _ (List.mem_append_right _ (dO hb e)))).2.1
  cases f with
  | next=>obtain⟨σ7,H7,I7,n7⟩:=q7;exact again I7 n7
  | cont=>obtain⟨σ7,H7,I7,n7⟩:=q7;exact again I7 n7
  | brk=>obtain⟨σ7,H7,I7,q7⟩:=q7;exact⟨σ7,H7,I7.hU,q7⟩
  | ret v=>obtain⟨x7,σ7,H7,I7,r7,q7⟩:=q7;exact⟨x7,σ7,H7,I7.hU,r7,q7⟩
abbrev R2:=V->V->Hp->VK->Prop
def OpR(X:Cx)(f:Value->Value->Sem Value)(r:R2):Prop:=
 ∀ (pins:PN) (s:Shared) (σ:St) (H:Hp) (x y:V) (v u:Value) (Q:VK),Inv X pins σ H s->RelV x v->RelV y u->r x y H Q ->
  wpAny (model X.prog X.w) X.A (f v u) (EP X pins σ Q) X.xe s
def UnR(X:Cx)(f:Value->Sem Value)(r:V->Hp->VK->Prop):Prop:=
 ∀ (pins:PN) (s:Shared) (σ:St) (H:Hp) (x:V) (v:Value) (Q:VK),Inv X pins σ H s->RelV x v->r x H Q ->
  wpAny (model X.prog X.w) X.A (f v) (EP X pins σ Q) X.xe s
def eP(X:Cx)(f:Value)(r:List V->Hp->VK->Prop):Prop:=
 ∀ (pins:PN) (s:Shared) (σ:St) (H:Hp) (xs:List V) (us:List Value) (Q:VK),Inv X pins σ H s->Vals xs us->r xs H Q ->
  wpAny (model X.prog X.w) X.A (call f us) (EP X pins σ Q) X.xe s
def aiU(X:Cx)(r:V->Hp->(Bool->Hp->Prop)->Prop):Prop:=
 ∀ (pins:PN) (s:Shared) (σ:St) (H:Hp) (x:V) (v:Value) (Q:Bool->Hp->Prop),Inv X pins σ H s->RelV x v->r x H Q ->
  wpAny (model X.prog X.w) X.A (truthy v) (TP X pins σ Q) X.xe s
def tOp(r:R2)(ta tb:TE):TE:=λ σ H Q=>ta σ H λ x H1=>tb σ H1 λ y H2=>r x y H2 Q
def tUn(r:V->Hp->VK->Prop)(ta:TE):TE:=λ σ H Q=>ta σ H λ x H1=>r x H1 Q
def rI(C:Int->Int->Prop)(g:Int->Int->V):R2:=λ x y H Q=>∃ i j,x=.int i/\y=.int j/\C i j/\Q (g i j) H
def rI0(g:Int->Int->V):R2:=λ x y H Q=>∃ i j,x=.int i/\y=.int j/\Q (g i j) H
def rU(g:Int->V):V->Hp->VK->Prop:=λ x H Q=>∃ i,x=.int i/\Q (g i) H
theorem ahB(ha:PE X a ta)(hb:PE X b tb){pins:PN}{s:Shared}{σ:St}{H:Hp}{R:V->V->Hp->Prop}(I:Inv X pins σ H s)
  (h:ta σ H λ x H1=>tb σ H1 λ y H2=>R x y H2){Q:VP}{f:Value->Value->Sem Value}
  (hf:∀ v u s2 x y H2,Inv X pins σ H2 s2->RelV x v->RelV y u->R x y H2->wpAny (model X.prog X.w) X.A (f v u) Q X.xe s2) :
  wpAny (model X.prog X.w) X.A (eval a X.env) (λ v s₁=>wpAny (model X.prog X.w) X.A (eval b X.env) (λ u s₂=>wpAny (model X.prog X.w) X.A (f v u) Q X.xe s₂) X.xe s₁) X.xe s:=by
 refine thn (ha pins s σ H _ I h) λ v s1 hq17=>?_;obtain⟨x,H1,I1,r1,q1⟩:=hq17;refine thn (hb pins s1 σ H1 _ I1 q1) λ u s2 hq18=>?_;obtain⟨y,H2,I2,r2,q2⟩:=hq18;exact hf v u s2 x y H2 I2 r1 r2 q2
theorem aet(ho:OpR X (binaryOp op) r)(ha:PE X a ta)(hb:PE X b tb):PE X (.BinOp a op b pos) (tOp r ta tb):=by intro pins s σ H Q I h;exact wpAny_BinOp (ahB ha hb I h λ v u s2 x y H2 I2 rx ry q=>ho pins s2 σ H2 x y v u Q I2 rx ry q)
theorem ag6(ho:UnR X (unaryOp op) r)(ha:PE X a ta):PE X (.UnaryOp op a pos) (tUn r ta):=by intro pins s σ H Q I h;exact UnaryOp_ (thn (ha pins s σ H _ I h) λ v s1 ⟨x,H1,I1,r1,q1⟩=>ho pins s1 σ H1 x v Q I1 r1 q1)
theorem opI{g:Int->Int->Int}
  (rule:∀ (i j:Int) (t u:Tok) (s:Shared) (Q:VP) (E:VP),C i j->Q (.int (g i j) s.toks) {s with toks:=s.toks+1}->wpAny (model X.prog X.w) X.A (f (.int i t) (.int j u)) Q E s) :
  OpR X f (rI C λ i j=>.int (g i j)):=by
 intro pins s σ H x y v u Q I rx ry h;obtain⟨i,j,rfl,rfl,hc,q⟩:=h;obtain⟨t,rfl⟩:=rx;obtain⟨t',rfl⟩:=ry;exact rule i j t t' s _ _ hc ⟨.int (g i j),H,I.tok _,⟨_,rfl⟩,q⟩
theorem aio{g:Int->Int->Int}
  (rule:∀ (i j:Int) (t u:Tok) (s:Shared) (Q:VP) (E:VP),Q (.int (g i j) s.toks) {s with toks:=s.toks+1}->wpAny (model X.prog X.w) X.A (f (.int i t) (.int j u)) Q E s) :
  OpR X f (rI0 λ i j=>.int (g i j)):=by
 intro pins s σ H x y v u Q I rx ry h;obtain⟨i,j,rfl,rfl,q⟩:=h;obtain⟨t,rfl⟩:=rx;obtain⟨t',rfl⟩:=ry;exact rule i j t t' s _ _ ⟨.int (g i j),H,I.tok _,⟨_,rfl⟩,q⟩
theorem agR{g:Int->Int->Bool}
  (rule:∀ (i j:Int) (t u:Tok) (s:Shared) (Q:VP) (E:VP),Q (.bool (g i j)) s->wpAny (model X.prog X.w) X.A (f (.int i t) (.int j u)) Q E s) :
  OpR X f (rI0 λ i j=>.bl (g i j)):=by
 intro pins s σ H x y v u Q I rx ry h;obtain⟨i,j,rfl,rfl,q⟩:=h;obtain⟨t,rfl⟩:=rx;obtain⟨t',rfl⟩:=ry;exact rule i j t t' s _ _ ⟨.bl (g i j),H,I,rfl,q⟩
def ah2(i j:Int):Prop:=0<j/\j<1073741824
def aeW(i j:Int):Prop:=(-(2 ^ 64)<i/\i<2 ^ 64)\/(-(2 ^ 64)<j/\j<2 ^ 64)
theorem aeW.ok{i j:Int}(h:aeW i j):IntMulOk i j:=by
 rcases h with ⟨h1,h2⟩ | ⟨h1,h2⟩
 ·exact .of_left (intBits_le_64 h1 h2)
 ·exact .of_right (intBits_le_64 h1 h2)
theorem aeq:OpR X (binaryOp .Add) (rI0 λ i j=>.int (i+j)):=aio λ _ _ _ _ _ _ _ q=>add_int q
theorem aez:OpR X (binaryOp .Sub) (rI0 λ i j=>.int (i-j)):=aio λ _ _ _ _ _ _ _ q=>sub_int q
theorem g6:OpR X (binaryOp .Mult) (rI aeW λ i j=>.int (i * j)):=opI λ _ _ _ _ _ _ _ hc q=>mul_int q hc.ok
theorem mS:OpR X (binaryOp .FloorDiv) (rI ah2 λ i j=>.int (i / j)):=opI λ i j _ _ _ _ _ hc q=>by have h1:(0:Int)<j:=hc.1;have h2:j<1073741824:=hc.2;exact floordiv_int (by omega) (by rw[Int.fdiv_eq_ediv_of_nonneg i (by omega)];exact q) (.inl (PyProof.noPylong_small (by omega)))
theorem fQ:OpR X (binaryOp .Mod) (rI (λ _ j=>0<j) λ i j=>.int (i % j)):=opI λ i j _ _ _ _ _ hc q=>by have h1:(0:Int)<j:=hc;exact mod_int' (by omega) (by rw[Int.fmod_eq_emod_of_nonneg i (by omega)];exact q)
theorem unI{g:Int->Int}
  (rule:∀ (i:Int) (t:Tok) (s:Shared) (Q:VP) (E:VP),Q (.int (g i) s.toks) {s with toks:=s.toks+1}->wpAny (model X.prog X.w) X.A (f (.int i t)) Q E s) :
  UnR X f (rU λ i=>.int (g i)):=by
 intro pins s σ H x v Q I rx h;obtain⟨i,rfl,q⟩:=h;obtain⟨t,rfl⟩:=rx;exact rule i t s _ _ ⟨.int (g i),H,I.tok _,⟨_,rfl⟩,q⟩
theorem v3:UnR X (unaryOp .USub) (rU λ i=>.int (-i)):=unI λ _ _ _ _ _ q=>neg_int q
def aiH:V->V->Bool
 | .non,.non=>true | .non,.int _=>true | .int _,.non=>true | .non,.bl _=>true | .bl _,.non=>true | .non,.str _=>true | .str _,.non=>true
 | .int _,.int _=>true | .bl _,.bl _=>true | .str _,.str _=>true | .byt _,.byt _=>true
 | .int _,.str _=>true | .str _,.int _=>true | .bl _,.str _=>true | .str _,.bl _=>true
 | _,_=>false
def rEq:R2:=λ x y H Q=>aiH x y=true/\Q (.bl (decide (x=y))) H
def rNe:R2:=λ x y H Q=>aiH x y=true/\Q (.bl (!decide (x=y))) H
theorem vU:decide (V.int i=V.int j)=(i==j):=by rw[Bool.eq_iff_iff];simp
theorem aa9:decide (V.bl i=V.bl j)=(i==j):=by rw[Bool.eq_iff_iff];simp
theorem xD:decide (V.str i=V.str j)=(i==j):=by rw[Bool.eq_iff_iff];simp
theorem xF:decide (V.byt i=V.byt j)=(i.toList==j.toList):=by rw[Bool.eq_iff_iff];cases i;cases j;simp
theorem bH(I:Inv X pins σ H s)(q:Q (.bl k) H)(e:k=k'):EP X pins σ Q (.bool k') s:=by subst e;exact⟨.bl k,H,I,rfl,q⟩
theorem aia:OpR X (compareOp .Eq) rEq:=by
 intro pins s σ H x y v u Q I rx ry h;obtain⟨hs,q⟩:=h;cases x with
 | non =>
  cases rx;cases y with
  | non=>cases ry;exact PySem.EqNone.eq_none_none (bH I q (by simp))
  | bl j=>cases ry;exact PySem.EqNone.eq_none_bool (bH I q (by simp))
  | int j=>obtain⟨t',rfl⟩:=ry;exact PySem.EqNone.eq_none_int (bH I q (by simp))
  | str j=>obtain⟨t',rfl⟩:=ry;exact PySem.EqNone.eq_none_str (bH I q (by simp))
  | _=>exact absurd (show false=true from hs) Bool.false_ne_true
 | bl i =>
  cases rx;cases y with
  | non=>cases ry;exact PySem.EqNone.eq_bool_none (bH I q (by simp))
  | bl j=>cases ry;exact eq_bool (bH I q aa9)
  | str j=>obtain⟨t',rfl⟩:=ry;exact PySem.EqMixed.eq_bool_str (bH I q (by simp))
  | _=>exact absurd (show false=true from hs) Bool.false_ne_true
 | int i =>
  obtain⟨t,rfl⟩:=rx;cases y with
  | non=>cases ry;exact PySem.EqNone.eq_int_none (bH I q (by simp))
  | int j=>obtain⟨t',rfl⟩:=ry;exact eq_int (bH I q vU)
  | str j=>obtain⟨t',rfl⟩:=ry;exact PySem.EqMixed.eq_int_str (bH I q (by simp))
  | _=>exact absurd (show false=true from hs) Bool.false_ne_true
 | str i =>
  obtain⟨t,rfl⟩:=rx;cases y with
  | non=>cases ry;exact PySem.EqNone.eq_str_none (bH I q (by simp))
  | bl j=>cases ry;exact PySem.EqMixed.eq_str_bool (bH I q (by simp))
  | int j=>obtain⟨t',rfl⟩:=ry;exact PySem.EqMixed.eq_str_int (bH I q (by simp))
  | str j=>obtain⟨t',rfl⟩:=ry;exact eq_str (bH I q xD)
  | _=>exact absurd (show false=true from hs) Bool.false_ne_true
 | byt i =>
  obtain⟨t,rfl⟩:=rx;cases y with
  | byt j=>obtain⟨t',rfl⟩:=ry;exact W.eq_bytes (bH I q xF)
  | _=>exact absurd (show false=true from hs) Bool.false_ne_true
 | _=>cases y<;>exact absurd (show false=true from hs) Bool.false_ne_true
theorem aie:OpR X (compareOp .NotEq) rNe:=by
 intro pins s σ H x y v u Q I rx ry h;obtain⟨hs,q⟩:=h;cases x with
 | non =>
  cases rx;cases y with
  | non=>cases ry;exact PySem.EqNone.ne_none_none (bH I q (by simp))
  | bl j=>cases ry;exact PySem.EqNone.ne_none_bool (bH I q (by simp))
  | int j=>obtain⟨t',rfl⟩:=ry;exact PySem.EqNone.ne_none_int (bH I q (by simp))
  | str j=>obtain⟨t',rfl⟩:=ry;exact PySem.EqNone.ne_none_str (bH I q (by simp))
  | _=>exact absurd (show false=true from hs) Bool.false_ne_true
 | bl i =>
  cases rx;cases y with
  | non=>cases ry;exact PySem.EqNone.ne_bool_none (bH I q (by simp))
  | bl j=>cases ry;exact ne_bool (bH I q (congrArg not aa9))
  | str j=>obtain⟨t',rfl⟩:=ry;exact PySem.EqMixed.ne_bool_str (bH I q (by simp))
  | _=>exact absurd (show false=true from hs) Bool.false_ne_true
 | int i =>
  obtain⟨t,rfl⟩:=rx;cases y with
  | non=>cases ry;exact PySem.EqNone.ne_int_none (bH I q (by simp))
  | int j=>obtain⟨t',rfl⟩:=ry;exact ne_int (bH I q (congrArg not vU))
  | str j=>obtain⟨t',rfl⟩:=ry;exact PySem.EqMixed.ne_int_str (bH I q (by simp))
  | _=>exact absurd (show false=true from hs) Bool.false_ne_true
 | str i =>
  obtain⟨t,rfl⟩:=rx;cases y with
  | non=>cases ry;exact PySem.EqNone.ne_str_none (bH I q (by simp))
  | bl j=>cases ry;exact PySem.EqMixed.ne_str_bool (bH I q (by simp))
  | int j=>obtain⟨t',rfl⟩:=ry;exact PySem.EqMixed.ne_str_int (bH I q (by simp))
  | str j=>obtain⟨t',rfl⟩:=ry;exact ne_str (bH I q (congrArg not xD))
  | _=>exact absurd (show false=true from hs) Bool.false_ne_true
 | byt i =>
  obtain⟨t,rfl⟩:=rx;cases y with
  | byt j=>obtain⟨t',rfl⟩:=ry;exact W.ne_bytes (bH I q (congrArg not xF))
  | _=>exact absurd (show false=true from hs) Bool.false_ne_true
 | _=>cases y<;>exact absurd (show false=true from hs) Bool.false_ne_true
theorem ahg:OpR X (compareOp .Lt) (rI0 λ i j=>.bl (decide (i<j))):=agR λ _ _ _ _ _ _ _ q=>lt_int q
theorem ahE:OpR X (compareOp .LtE) (rI0 λ i j=>.bl (decide (i<=j))):=agR λ _ _ _ _ _ _ _ q=>le_int q
theorem rN:OpR X (compareOp .Gt) (rI0 λ i j=>.bl (decide (j<i))):=agR λ _ _ _ _ _ _ _ q=>gt_int q
theorem ae3:OpR X (compareOp .GtE) (rI0 λ i j=>.bl (decide (j<=i))):=agR λ _ _ _ _ _ _ _ q=>ge_int q
theorem aaG:OpR X (compareOp .Is) (λ x y H Q=>y=.non/\Q (.bl (decide (x=.non))) H):=by
 intro pins s σ H x y v u Q I rx ry h;obtain⟨rfl,q⟩:=h;cases ry;refine is_none_gen (bH I q ?_);cases x<;>first
  | (cases rx;rfl)
  | (obtain⟨t,rfl⟩:=rx;rfl)
theorem mQ:OpR X (compareOp .IsNot) (λ x y H Q=>y=.non/\Q (.bl (!decide (x=.non))) H):=by
 intro pins s σ H x y v u Q I rx ry h;obtain⟨rfl,q⟩:=h;cases ry;refine isnot_none_gen (bH I q ?_);cases x<;>first
  | (cases rx;rfl)
  | (obtain⟨t,rfl⟩:=rx;rfl)
theorem ado(ho:OpR X (compareOp op) r)(ha:PE X a ta)(hb:PE X b tb)(hm:behindInMarks op b=false):PE X (.Compare a [op] [b] pos) (tOp r ta tb):=by intro pins s σ H Q I h;exact wpAny_Compare1 (ahB ha hb I h λ v u s2 x y H2 I2 rx ry q=>ho pins s2 σ H2 x y v u Q I2 rx ry q) hm
def ada(t:TE):TT:=λ σ H Q=>t σ H λ x H'=>∃ k,x=.bl k/\Q k H'
theorem adw(ho:OpR X (compareOp op) r)(ha:PE X a ta)(hb:PE X b tb)(hm:behindInMarks op b=false):PT X (.Compare a [op] [b] pos) (ada (tOp r ta tb)):=by
 intro pins s σ H Q I h;refine wpAny_isTrue_Compare1 (thn (ha pins s σ H _ I h) λ v s1 ⟨x,H1,I1,r1,q1⟩=>thn (hb pins s1 σ H1 _ I1 q1) λ u s2 ⟨y,H2,I2,r2,q2⟩ =>
  thn (ho pins s2 σ H2 x y v u _ I2 r1 r2 q2) λ c s3 ⟨z,H3,I3,r3,k,e,q3⟩=>?_) hm
 subst e;cases r3;exact wpAny_truthy_bool ⟨H3,I3,q3⟩
def wV(r r':R2)(ta tb tc:TE):TE:=λ σ H Q=>ta σ H λ x H1=>tb σ H1 λ y H2=>r x y H2 λ z H3=>∃ k,z=.bl k /\
 (if k=true then tc σ H3 λ w' H4=>r' y w' H4 Q else Q (.bl false) H3)
theorem aau(ho:OpR X (compareOp op) r)(ho':OpR X (compareOp op') r')(ha:PE X a ta)(hb:PE X b tb)(hc:PE X c tc)
  (hm:lastMarks [op,op'] [b,c]=false:=by with_unfolding_all rfl):PE X (.Compare a [op,op'] [b,c] pos) (wV r r' ta tb tc):=by
 intro pins s σ H Q I h;refine Compare_chain (thn (ha pins s σ H _ I h) λ v s1 ⟨x,H1,I1,r1,q1⟩=>chain_link (thn (hb pins s1 σ H1 _ I1 q1) λ u s2 ⟨y,H2,I2,r2,q2⟩ =>
  thn (ho pins s2 σ H2 x y v u _ I2 r1 r2 q2) λ d s3 ⟨z,H3,I3,r3,k,e,q3⟩=>?_)) hm
 subst e;cases r3;refine wpAny_truthy_bool ?_;cases k with
 | false=>exact ite_ff ⟨.bl false,H3,I3,rfl,q3⟩
 | true=>exact ite_tt (chain_last (thn (hc pins s3 σ H3 _ I3 q3) λ w' s4 ⟨z',H4,I4,r4,q4⟩=>ho' pins s4 σ H4 y z' u w' Q I4 r2 r4 q4))
theorem zj(ho:OpR X (compareOp op) r)(ho':OpR X (compareOp op') r')(ha:PE X a ta)(hb:PE X b tb)(hc:PE X c tc)
  (hm:lastMarks [op,op'] [b,c]=false:=by with_unfolding_all rfl):PT X (.Compare a [op,op'] [b,c] pos) (ada (wV r r' ta tb tc)):=by
 intro pins s σ H Q I h;refine isTrue_chain (thn (ha pins s σ H _ I h) λ v s1 ⟨x,H1,I1,r1,q1⟩=>test_link (thn (hb pins s1 σ H1 _ I1 q1) λ u s2 ⟨y,H2,I2,r2,q2⟩ =>
  thn (ho pins s2 σ H2 x y v u _ I2 r1 r2 q2) λ d s3 ⟨z,H3,I3,r3,k,e,q3⟩=>?_)) hm
 subst e;cases r3;refine wpAny_truthy_bool ?_;cases k with
 | false =>
  obtain⟨k',e',q'⟩:=q3;cases e';exact ite_ff ⟨H3,I3,q'⟩
 | true =>
  refine ite_tt (test_last (thn (hc pins s3 σ H3 _ I3 q3) λ w' s4 ⟨z',H4,I4,r4,q4⟩=>thn (ho' pins s4 σ H4 y z' u w' _ I4 r2 r4 q4) λ d' s5 hq19=>?_));obtain⟨z2,H5,I5,r5,k2,e2,q5⟩:=hq19;subst e2;cases r5;exact wpAny_truthy_bool ⟨H5,I5,q5⟩
def ag0(K:FG)(x:V)(H:Hp)(k:Bool):Prop:=
 match x with
 | .non=>k=false
 | .bl b=>k=b
 | .int i=>k=(i != 0)
 | .str y=>y.length<=sizeLine/\k=((y.length:Int) != 0)
 | .byt y=>y.size<=sizeLine/\k=((y.size:Int) != 0)
 | .ref p=>(∃ xs,SqL K H p xs/\k=!xs.isEmpty)\/(∃ xs,SqT K H p xs/\k=!xs.isEmpty)\/∃ kvs,H p=some (.dK kvs)/\k=!kvs.isEmpty
 | _=>False
theorem uv(r:KV kvs vs):(!vs.isEmpty)=!kvs.isEmpty:=by
 cases r<;>rfl
theorem ml(r:Vals xs its):(!its.toArray.isEmpty)=!xs.isEmpty:=by
 cases r<;>simp
theorem jL:(sizeLine:Nat)<2 ^ 63:=by rw[sizeLine_eq];decide
theorem aaI:aiU X (λ x H Q=>∃ k,ag0 X.K x H k/\Q k H):=by
 intro pins s σ H x v Q I rx h;obtain⟨k,e,q⟩:=h;have hl:=jL;have hs:sizeLine=16777216:=sizeLine_eq;cases x with
 | non =>
  cases rx;have e':k=false:=e;subst e';exact truthy_none ⟨H,I,q⟩
 | bl b =>
  cases rx;have e':k=b:=e;subst e';exact wpAny_truthy_bool ⟨H,I,q⟩
 | int i =>
  obtain⟨t,rfl⟩:=rx;have e':k=(i != 0):=e;subst e';exact PySem.P.truthy_int ⟨H,I,q⟩
 | str y =>
  obtain⟨t,rfl⟩:=rx;obtain⟨hy,e'⟩:y.length<=sizeLine/\k=((y.length:Int) != 0):=e;subst e';exact PySem.P.truthy_str (by omega) ⟨H,I.tok _,q⟩
 | byt y =>
  obtain⟨t,rfl⟩:=rx;obtain⟨hy,e'⟩:y.size<=sizeLine/\k=((y.size:Int) != 0):=e;subst e';exact W.truthy_bytes (by omega) ⟨H,I.tok _,q⟩
 | ref p =>
  cases rx;have e':(∃ xs,SqL X.K H p xs/\k=!xs.isEmpty)\/(∃ xs,SqT X.K H p xs/\k=!xs.isEmpty)\/∃ kvs,H p=some (.dK kvs)/\k=!kvs.isEmpty:=e;rcases e' with ⟨xs,hx,e'⟩ | ⟨xs,hx,e'⟩ | ⟨kvs,hx,e'⟩
  ·subst e';obtain⟨its,r,pl,hz⟩:=I.list hx;have hlen:=r.length;exact wpAny_truthy_list pl.isList (by simp only[List.size_toArray];omega) ⟨H,I.tok _,by rw[ml r];exact q⟩
  ·subst e';obtain⟨its,r,pl,hz⟩:=I.tuple hx;have hlen:=r.length;exact truthy_tuple pl (by simp only[List.size_toArray];omega) ⟨H,I.tok _,by rw[ml r];exact q⟩
  ·subst e';obtain⟨hz,hS,vs,r,m⟩:kvs.length<=sizeLine/\(p==sysModules)=false/\∃ vs,KV kvs vs/\s.heap.DictOf (ba X.prog X.w) p vs:=I.hok p _ hx;have hlen:kvs.length=vs.length:=Paired.length r;exact wpAny_truthy_dict hS m (by omega) ⟨H,I.tok _,by rw[uv r];exact q⟩
 | _=>exact(show False from e).elim
theorem aaw(ha:PE X a ta)(he:∀ whole,isTrue a X.env whole=(do let v <- whole;standAt a.pos;holding [v] (truthy v))) :
  PT X a (λ σ H Q=>ta σ H λ x H'=>∃ k,ag0 X.K x H' k/\Q k H'):=by
 intro pins s σ H Q I h;exact isTrue_plain (thn (ha pins s σ H _ I h) λ v s1 ⟨x,H1,I1,r1,q1⟩=>aaI pins s1 σ H1 x v Q I1 r1 q1) (he _)
theorem uo:OpR X (binaryOp .Add) (λ x y H Q=>∃ i j,x=.str i/\y=.str j/\i.length+j.length<=sizeLine/\Q (.str (i++j)) H):=by intro pins s σ H x y v u Q I rx ry h;obtain⟨i,j,rfl,rfl,hz,q⟩:=h;obtain⟨t,rfl⟩:=rx;obtain⟨t',rfl⟩:=ry;exact add_str (λ t' tk=>⟨.str (i++j),H,I.tok _,⟨_,rfl⟩,q⟩) hz
theorem vals1(r:Vals [x] us):∃ u,us=[u]/\RelV x u:=by
 cases r with
 | cons r1 r2=>cases r2;exact⟨_,rfl,r1⟩
theorem vals2(r:Vals [x,y] us):∃ u w',us=[u,w']/\RelV x u/\RelV y w':=by
 cases r with
 | cons r1 r2 =>
  cases r2 with
  | cons r3 r4=>cases r4;exact⟨_,_,rfl,r1,r3⟩
theorem yQ:eP X (.builtin "abs") (λ xs H Q=>∃ i,xs=[.int i]/\Q (.int (if i<0 then -i else i)) H):=by intro pins s σ H xs us Q I r h;obtain⟨i,rfl,q⟩:=h;obtain⟨u,rfl,t,rfl⟩:=vals1 r;exact call_abs_int λ u tk=>⟨.int (if i<0 then -i else i),H,I.tok _,⟨_,rfl⟩,q⟩
theorem wj(hc:X.calm=true):eP X (.builtin "max") (λ xs H Q=>∃ i j,xs=[.int i,.int j]/\Q (.int (if j > i then j else i)) H):=by
 intro pins s σ H xs us Q I r h;obtain⟨i,j,rfl,q⟩:=h;obtain⟨u,w',rfl,⟨t,rfl⟩,⟨t',rfl⟩⟩:=vals2 r;refine max_two_ints (I.ok.hd hc) λ h' tk k=>⟨_,H,I.kept k,?_,q⟩
 by_cases hj:j > i
 ·rw[if_pos hj,if_pos hj];exact⟨_,rfl⟩
 ·rw[if_neg hj,if_neg hj];exact⟨_,rfl⟩
theorem oU(hc:X.calm=true):eP X (.builtin "min") (λ xs H Q=>∃ i j,xs=[.int i,.int j]/\Q (.int (if j<i then j else i)) H):=by
 intro pins s σ H xs us Q I r h;obtain⟨i,j,rfl,q⟩:=h;obtain⟨u,w',rfl,⟨t,rfl⟩,⟨t',rfl⟩⟩:=vals2 r;refine min_two_ints (I.ok.hd hc) λ h' tk k=>⟨_,H,I.kept k,?_,q⟩
 by_cases hj:j<i
 ·rw[if_pos hj,if_pos hj];exact⟨_,rfl⟩
 ·rw[if_neg hj,if_neg hj];exact⟨_,rfl⟩
def aiL(K:FG)(x:V)(H:Hp)(n:Nat):Prop:=
 match x with
 | .str y=>y.length<=sizeLine/\n=y.length
 | .byt y=>y.size<=sizeLine/\n=y.size
 | .ref p=>(∃ xs,SqL K H p xs/\n=xs.length)\/∃ xs,SqT K H p xs/\n=xs.length
 | _=>False
theorem cZ:eP X (.builtin "len") (λ xs H Q=>∃ x n,xs=[x]/\aiL X.K x H n/\Q (.int n) H):=by
 intro pins s σ H xs us Q I r h;obtain⟨x,n,rfl,e,q⟩:=h;obtain⟨u,rfl,rx⟩:=vals1 r;have hl:=jL;have hs:sizeLine=16777216:=sizeLine_eq;cases x with
 | str y =>
  obtain⟨t,rfl⟩:=rx;obtain⟨hy,e'⟩:y.length<=sizeLine/\n=y.length:=e;subst e';exact len_str (by omega) ⟨.int _,H,I.tok _,⟨_,rfl⟩,q⟩
 | byt y =>
  obtain⟨t,rfl⟩:=rx;obtain⟨hy,e'⟩:y.size<=sizeLine/\n=y.size:=e;subst e';exact W.len_bytes (by omega) ⟨.int _,H,I.tok _,⟨_,rfl⟩,q⟩
 | ref p =>
  cases rx;have e':(∃ xs,SqL X.K H p xs/\n=xs.length)\/∃ xs,SqT X.K H p xs/\n=xs.length:=e;rcases e' with ⟨xs,hx,e'⟩ | ⟨xs,hx,e'⟩
  ·subst e';obtain⟨its,r',pl,hz⟩:=I.list hx;have hlen:=r'.length;exact Calls.call_len_list pl.isList (by simp only[List.size_toArray];omega) ⟨.int xs.length,H,I.tok _,⟨_,by simp only[List.size_toArray];rw[hlen]⟩,q⟩
  ·subst e';obtain⟨its,r',pl,hz⟩:=I.tuple hx;have hlen:=r'.length;exact len_tuple pl (by simp only[List.size_toArray];omega) ⟨.int xs.length,H,I.tok _,⟨_,by simp only[List.size_toArray];rw[hlen]⟩,q⟩
 | _=>exact(show False from e).elim
structure acb(h:Heap)(x dx C:Addr)(mA:Str->Option Value):Prop where
 obj:h.get? x=some (W.instObj C dx)
 ns:h.Ns1 dx mA
 ne:dx≠x
theorem pz{h:Heap}{dx:Addr}{mA:Str->Option Value}(n:h.Ns1 dx mA):∃ od,h.get? dx=some od/\∀ name,W.lookIn name od=some (mA name):=by
 obtain⟨o,es,ep,ho,hd,hk,_,hm⟩:=n;refine⟨o,ho,λ name=>?_⟩;have e:=hm name;unfold nsFind findBy at e;rw[<- Array.find?_toList] at e;unfold W.lookIn;rw[hd];dsimp only
 split
 ·rename_i y q
  rw[q] at e;exact congrArg some e
 ·rename_i q
  rw[q] at e;have a:es.toList.any (·.refKey)=false:=by rw[List.any_eq_false];intro y hy;obtain⟨z,t,hkey⟩:=hk y (Array.mem_toList_iff.mp hy);simp[DictEntry.refKey,hkey]
  have a':¬ es.toList.any (·.refKey)=true:=by rw[a];exact Bool.false_ne_true
  rw[if_neg a'];exact congrArg some e
theorem acb.look(I:acb h x dx C mA):∃ od,W.InstAt h x (W.instObj C dx) C (some od)/\∀ name,W.lookIn name od=some (mA name):=
 let ⟨od,ho,hl⟩:=pz I.ns
 ⟨od,⟨I.obj,rfl,rfl,ho⟩,hl⟩
section
variable {prog:Program}{w:World}{A:Around}{E:VP}{s:Shared}{K:FG}{x dx C f:Addr}{mA:Str->Option Value}{name:Str}{v:Value}
theorem get_map(X:K.In s.heap)(I:acb s.heap x dx C mA)(hg:W.plainGet K C name=true)(hh:W.hasDictIn K C=true)
  (ha:W.findIn K (.ref C) name=some none)(hv:mA name=some v)(hv':W.handedIn v=true)(h:Q v {s with toks:=s.toks+1}) :
  wpAny (model prog w) A (getAttr (.ref x) name expr) Q E s:=by
 obtain⟨od,J,hl⟩:=I.look;exact W.get_value X J (W.plainGet_of hg).1 (W.findObj_own hh ha rfl (by rw[hl,hv])) hv' h
theorem z9(X:K.In s.heap)(I:acb s.heap x dx C mA)(hg:W.plainGet K C name=true)
  (hf:W.findIn K (.ref C) name=some (some (.ref f)))(ht:W.isFn K (.ref f)=true)(hv:mA name=none)(h:Q (.ref f,[.ref x]) s) :
  wpAny (model prog w) A (getMethod (.ref x) name pl) Q E s:=by
 obtain⟨od,J,hl⟩:=I.look;exact W.method_fn X J (W.plainGet_of hg).1 (W.plainGet_of hg).2 hf (beq_iff_eq.mp ht) (by show(W.lookIn name od).map (·.isSome)=some false;rw[hl,hv];rfl) h
theorem acw(X:K.In s.heap)(I:acb s.heap x dx C mA)
  (hs:W.findIn K (.ref C) "__setattr__" = some (some (.builtin "object.__setattr__")))(hp:W.plainOver K C=true)(ht:W.takerIn K C name=some none)(hh:W.hasDictIn K C=true)
  (hw:PySem.Within mA ns)(hsz:ns.length<=sizeLine)
  (h:∀ h',acb h' x dx C (λ y=>if y=name then some v else mA y)->Heap.SameBut dx s.heap h'->Q () {s with heap:=h',toks:=s.toks+2}) :
  wpAny (model prog w) A (setAttr (.ref x) name v) Q E s:=by
 obtain⟨od,J,hl⟩:=I.look;refine W.set_plain X J hs (W.osa_open (s:={s with toks:=s.toks+1}) (r:=none) X J hp ht λ b=>?_);obtain⟨cd,hc,hd'⟩:=W.any_some hh;have hx:s.heap.get? x=some ⟨.ref C,some dx,.plain,#[]⟩:=I.obj;refine wpAny_bind (wpAny_pure (wpAny_bind (wpAny_bind (wpAny_loadPart hx (wpAny_bind (W.Looks.here (s:={s with toks:=s.toks+1}) (W.looks_clsIn X hc) ?_))))));rw[hd'];refine wpAny_pure (a:=some dx) (wpAny_bind (wpAny_pure (wpAny_bind ?_)));refine wpAny_nsSet1 (s:={s with toks:=s.toks+1}) I.ns λ h' hn2 hs2=>?_;obtain⟨oD,esD,epD,hoD,hdD,hcD⟩:=hn2.count (PySem.Within.cons name v hw);refine wpAny_bind (wpAny_lookBehind hoD (by rw[hdD];exact pastItsLine_dict (Nat.le_trans hcD (by rw[List.length_cons];omega))) ?_);exact wpAny_pure (h _ ⟨(hs2.2 _ (Ne.symm I.ne)).trans I.obj,hn2,I.ne⟩ hs2)
theorem mR(X:K.In s.heap)(hm:W.makesIn K C=true)
  (hi:W.findIn K (.ref C) "__init__" = some (some (.ref f)))(hf:W.typeIn K (.ref f)=some (.type "function"))
  (h:codeAny (model prog w) (A.under (.builtin "type.__call__" ⟨.ref C::vs,kw⟩)) (.call (.ref f) ⟨.ref (s.heap.objs.size+1)::vs,kw⟩) (W.InitBack (s.heap.objs.size+1) R)
   {s with heap:=(s.heap.push W.emptyDict).push (W.instObj C s.heap.objs.size)}) :
  codeAny (model prog w) A (.call (.ref C) ⟨vs,kw⟩) R s:=by
 obtain⟨hh,g,d,t,os⟩:=s;exact W.make_core (W.makes_of X hm) (W.looks_findIn X hi) (λ self=>W.bind_fn X self hf) (.inl rfl) h
end
def lD(f:Str)(v:V):List (Str×V)->List (Str×V)
 | []=>[(f,v)]
 | (g,x)::r=>if g=f then (g,v)::r else (g,x)::lD f v r
theorem j9(f g:Str)(v:V):∀ fs:List (Str×V),(lD f v fs).lookup g=if g=f then some v else fs.lookup g
 | []=>by
  show List.lookup g [(f,v)]=_
  by_cases h:g=f
  ·have hb:(g==f)=true:=beq_iff_eq.mpr h;simp only[List.lookup,hb,if_pos h]
  ·have hb:(g==f)=false:=beq_eq_false_iff_ne.mpr h;simp only[List.lookup,hb,if_neg h]
 | (k,x)::r=>by
  have ih:=j9 f g v r;rw[show lD f v ((k,x)::r)=(if k=f then (k,v)::r else (k,x)::lD f v r) from rfl]
  by_cases hk:k=f
  ·rw[if_pos hk]
   by_cases h:g=k
   ·have hb:(g==k)=true:=beq_iff_eq.mpr h;simp only[List.lookup,hb,if_pos (h.trans hk)]
   ·have hb:(g==k)=false:=beq_eq_false_iff_ne.mpr h;simp only[List.lookup,hb,if_neg (λ e:g=f=>h (e.trans hk.symm))]
  ·rw[if_neg hk]
   by_cases h:g=k
   ·have hb:(g==k)=true:=beq_iff_eq.mpr h;simp only[List.lookup,hb,if_neg (λ e:g=f=>hk (h.symm.trans e))]
   ·have hb:(g==k)=false:=beq_eq_false_iff_ne.mpr h;simp only[List.lookup,hb];exact ih
theorem ko(f:Str)(v:V):∀ fs:List (Str×V),f∈(lD f v fs).map (·.1)/\∀ g,g∈fs.map (·.1)->g∈(lD f v fs).map (·.1)
 | []=>⟨by simp[lD],λ g h=>by simp at h⟩
 | (k,x)::r=>by
  obtain⟨i1,i2⟩:=ko f v r;rw[show lD f v ((k,x)::r)=(if k=f then (k,v)::r else (k,x)::lD f v r) from rfl]
  by_cases hk:k=f
  ·rw[if_pos hk];subst hk;exact⟨by simp,λ g h=>by simpa using h⟩
  ·rw[if_neg hk];refine⟨?_,λ g h=>?_⟩
   ·rw[List.map_cons];exact List.mem_cons_of_mem _ i1
   ·rw[List.map_cons] at h ⊢;rcases List.mem_cons.mp h with e | e
    ·exact List.mem_cons.mpr (.inl e)
    ·exact List.mem_cons_of_mem _ (i2 g e)
theorem jH(f:Str)(v:V):∀ fs:List (Str×V),(lD f v fs).length<=fs.length+1
 | []=>by simp[lD]
 | (k,x)::r=>by
  have ih:=jH f v r;rw[show lD f v ((k,x)::r)=(if k=f then (k,v)::r else (k,x)::lD f v r) from rfl]
  by_cases hk:k=f
  ·rw[if_pos hk,List.length_cons,List.length_cons];omega
  ·rw[if_neg hk,List.length_cons,List.length_cons];omega
theorem oh.some_of(r:oh (some v) o):∃ u,o=some u/\RelV v u:=by
 cases o with
 | none=>exact(show False from r).elim
 | some u=>exact⟨u,rfl,r⟩
theorem oh.none_of(r:oh none o):o=none:=by
 cases o with
 | none=>rfl
 | some u=>exact(show False from r).elim
theorem qh(r:RelV v u):W.handedIn u=true:=by
 cases v with
 | non=>cases (show u=Value.none from r);rfl
 | bl b=>cases (show u=Value.bool b from r);rfl
 | int i=>obtain⟨t,e⟩:=(show ∃ t,u=Value.int i t from r);cases e;rfl
 | str x=>obtain⟨t,e⟩:=(show ∃ t,u=Value.str x t from r);cases e;rfl
 | byt b=>obtain⟨t,e⟩:=(show ∃ t,u=Value.bytes b t from r);cases e;rfl
 | flt b=>obtain⟨t,e⟩:=(show ∃ t,u=Value.float b t from r);cases e;rfl
 | ref a=>cases (show u=Value.ref a from r);rfl
 | ty n=>cases (show u=Value.type n from r);rfl
theorem rm(hok:HOk P w H h)(e:H a=some (.ins C dx fs)):∃ mA,acb h a dx C mA/\(∀ f,oh (fs.lookup f) (mA f))/\PySem.Within mA (fs.map (·.1))/\fs.length<=1000/\H dx=some (.own a):=by obtain⟨d,z,ne,ob,mA,n,r,q⟩:=(show cF P w H h a (.ins C dx fs) from hok a _ e);exact⟨mA,⟨ob,n,ne⟩,r,q,z,d⟩
structure Cls(K:FG)(C:Addr):Prop where
 pg:W.plainGet K C Str.empty=true
 hd:W.hasDictIn K C=true
 po:W.plainOver K C=true
 sa:W.findIn K (.ref C) "__setattr__" = some (some (.builtin "object.__setattr__"))
theorem Cls.get{K:FG}{C:Addr}(c:Cls K C)(f:Str):W.plainGet K C f=true:=c.pg
def cJ(K:FG)(C:Addr)(f:Str):Prop:=W.findIn K (.ref C) f=some none
theorem cJ.ahc{K:FG}{C:Addr}{f:Str}(n:cJ K C f):W.takerIn K C f=some none:=by
 unfold W.takerIn;rw[show W.findIn K (.ref C) f=some none from n];rfl
structure Meth(K:FG)(C:Addr)(m:Str)(f:Addr):Prop where
 at_:W.findIn K (.ref C) m=some (some (.ref f))
 fn:W.isFn K (.ref f)=true
 kp:W.keepIn K (.ref f)=true
theorem mE(I:Inv X pins σ H s)(e:H a=some (.ins C dx fs))(c:Cls X.K C)(n:cJ X.K C f)(l:fs.lookup f=some v)
  (h:∀ u s',Inv X pins σ H s'->RelV v u->Q u s'):wpAny (model X.prog X.w) A (getAttr (.ref a) f b) Q E s:=by
 obtain⟨mA,O,r,_,_,_⟩:=rm I.hok e;obtain⟨u,hu,ru⟩:=oh.some_of (v:=v) (o:=mA f) (by rw[<- l];exact r f);exact get_map I.kIn O (c.get f) c.hd n hu (qh ru) (h u _ (I.tok _) ru)
theorem iY(I:Inv X pins σ H s)(e:H a=some (.ins C dx fs))(c:Cls X.K C)(k:Meth X.K C m g)(l:fs.lookup m=none)
  (h:Q (.ref g,[.ref a]) s):wpAny (model X.prog X.w) A (getMethod (.ref a) m pl) Q E s:=by
 obtain⟨mA,O,r,_,_,_⟩:=rm I.hok e;have hn:mA m=none:=oh.none_of (by rw[<- l];exact r m);exact z9 I.kIn O (c.get m) k.at_ k.fn hn h
theorem mw(I:Inv X pins σ H s)(e:H a=some (.ins C dx fs))(c:Cls X.K C)(n:cJ X.K C f)(hl:fs.length<1000)(ry:RelV y u)
  (h:∀ s',Inv X pins σ (upd H a (.ins C dx (lD f y fs))) s'->Q () s'):wpAny (model X.prog X.w) A (setAttr (.ref a) f u) Q E s:=by
 obtain⟨mA,O,r,wi,_,ho⟩:=rm I.hok e;have hz:(fs.map (·.1)).length<=sizeLine:=by rw[List.length_map,sizeLine_eq];omega
 refine acw I.kIn O c.sa c.po n.ahc c.hd wi hz λ h' O' sb=>h _ ?_;have hd:∃ o,h'.get? dx=some o:=let ⟨o,_,_,e',_⟩:=O'.ns; ⟨o,e'⟩;refine I.write (x:=a) (e:=dx) (by rw[e];exact True.intro) (.inr ho) (λ b q hb z=>(sb.2 b hb).trans z) hd ?_;refine⟨by rw[aq O.ne];exact ho,?_,O.ne,O'.obj,_,O'.ns,λ g=>?_,λ g hg=>?_⟩
 ·have:=jH f y fs;omega
 ·show oh ((lD f y fs).lookup g) (if g=f then some u else mA g);rw[j9]
  by_cases q:g=f
  ·rw[if_pos q,if_pos q];exact ry
  ·rw[if_neg q,if_neg q];exact r g
 ·by_cases q:g=f
  ·rw[q];exact(ko f y fs).1
  ·refine(ko f y fs).2 g (wi g λ z=>hg ?_);show(if g=f then some u else mA g)=none;rw[if_neg q];exact z
theorem Inv.made(I:Inv X pins σ H s):Inv X pins σ (upd (upd H s.heap.objs.size (.own (s.heap.objs.size+1))) (s.heap.objs.size+1) (.ins C s.heap.objs.size []))
  {s with heap:=(s.heap.push W.emptyDict).push (W.instObj C s.heap.objs.size)}:=by
 have e1:(s.heap.push W.emptyDict).get? s.heap.objs.size=some W.emptyDict:=Heap.get?_push_size s.heap rfl;have e2:((s.heap.push W.emptyDict).push (W.instObj C s.heap.objs.size)).get? (s.heap.objs.size+1)=some (W.instObj C s.heap.objs.size):=by
  have:=Heap.get?_push_size (s.heap.push W.emptyDict) (o:=W.instObj C s.heap.objs.size) rfl
  rwa[Heap.size_push] at this
 have e3:(s.heap.push W.emptyDict).Ns s.heap.objs.size (λ _=>none):=⟨W.emptyDict,#[],_,e1,rfl,(λ e he=>absurd he (by simp)),λ _=>rfl⟩;have I1:=I.laid (a:=s.heap.objs.size) (o:=.own (s.heap.objs.size+1)) (h':=s.heap.push W.emptyDict) (t':=s.toks) (λ b u q=>Heap.get?_push_of_some _ q) (Nat.le_refl _) ⟨_,e1⟩;refine I1.laid (a:=s.heap.objs.size+1) (o:=.ins C s.heap.objs.size []) (t':=s.toks) (λ b u q=>Heap.get?_push_of_some _ q) (Nat.le_of_eq (Heap.size_push _ _)) ?_;have ne:s.heap.objs.size≠s.heap.objs.size+1:=Nat.ne_of_lt (Nat.lt_succ_self _);refine⟨by rw[aq ne,au],Nat.zero_le _,ne,e2,λ _=>none,(Heap.Ns1.of_empty e3).at λ o q=>Heap.get?_push_of_some _ q,λ _=>True.intro,λ y hy=>absurd rfl hy⟩
theorem yu(hb:attributeBase e f env (eval e env)=eval e env)
  (h:wpAny (model prog w) A (eval e env) (λ o s₁=>wpAny (model prog w) A (getAttr o f true) Q E s₁) E s):wpAny (model prog w) A (eval (.Attribute e f pos) env) Q E s:=
 Attribute_any_ h (by rw[arm_eval_Attribute,hb])
def ajj(K:FG)(ta:TE)(f:Str):TE:=λ σ H Q=>ta σ H λ x H1=>∃ a C dx fs v,x=.ref a/\H1 a=some (.ins C dx fs)/\Cls K C/\cJ K C f/\fs.lookup f=some v/\Q v H1
def ajk(K:FG)(ta tv:TE)(f:Str):TS:=λ D σ H=>tv σ H λ y H1=>ta σ H1 λ x H2=>∃ a C dx fs,x=.ref a/\H2 a=some (.ins C dx fs)/\Cls K C/\cJ K C f/\fs.length<1000 /\
 D.nx σ (upd H2 a (.ins C dx (lD f y fs)))
def ai0(X:Cx)(op:Operator)(rd:V->V->Hp->VK->Prop):Prop:=
 ∀ (pins:PN) (s:Shared) (σ:St) (H:Hp) (x y:V) (u v:Value) (Q:VK),Inv X pins σ H s->RelV x u->RelV y v->rd x y H Q->wpAny (model X.prog X.w) X.A (inplaceOp op u v) (EP X pins σ Q) X.xe s
def abY(K:FG)(ta tv:TE)(rd:V->V->Hp->VK->Prop)(f:Str):TS:=λ D σ H=>ta σ H λ x H1=>∃ a C dx fs v,x=.ref a/\H1 a=some (.ins C dx fs)/\Cls K C/\cJ K C f/\fs.lookup f=some v /\
 tv σ H1 λ y H2=>rd v y H2 λ z H3=>∃ dx' fs',H3 a=some (.ins C dx' fs')/\fs'.length<1000/\D.nx σ (upd H3 a (.ins C dx' (lD f z fs')))
theorem agc(he:PE X e ta)(hb:attributeBase e f X.env (eval e X.env)=eval e X.env):PE X (.Attribute e f pos) (ajj X.K ta f):=by intro pins s σ H Q I h;refine yu hb (thn (he pins s σ H _ I h) λ u s1 hq20=>?_);obtain⟨x,H1,I1,rx,a,C,dx,fs,v,ex,ea,c,n,l,q⟩:=hq20;subst ex;obtain rfl:u=Value.ref a:=rx;exact mE I1 ea c n l λ u' s2 I2 ru=>⟨v,H1,I2,ru,q⟩
theorem aeJ(ha:PE X o ta)(hv:PE X value tv)(hs:swapsWith value (some (.Attribute o f pos')) pos.line X.env=pure false):PS X (.Assign [.Attribute o f pos'] value pos) (ajk X.K ta tv f):=by intro pins s σ H D I h;refine plainObj_wpAny_Assign_Attribute (thn (hv pins s σ H _ I h) λ u s1 ⟨y,H1,I1,ry,q⟩=>thn (ha pins s1 σ H1 _ I1 q) λ ov s2 ⟨x,H2,I2,rx,a,C,dx,fs,ex,ea,c,n,l,q2⟩=>?_) hs;subst ex;obtain rfl:ov=Value.ref a:=rx;exact mw I2 ea c n l ry λ s3 I3=>⟨σ,_,I3,q2⟩
theorem wA(ha:PE X o ta)(hv:PE X value tv)(hop:ai0 X op rd):PS X (.AugAssign (.Attribute o f tpos) op value pos) (abY X.K ta tv rd f):=by intro pins s σ H D I h;refine wpAny_AugAssign_AttributeAny (thn (ha pins s σ H _ I h) λ ov s1 hq21=>?_);obtain⟨x,H1,I1,rx,a,C,dx,fs,v,ex,ea,c,n,l,q⟩:=hq21;subst ex;obtain rfl:ov=Value.ref a:=rx;refine mE I1 ea c n l λ u s2 I2 ru=>thn (hv pins s2 σ H1 _ I2 q) λ w3 s3 ⟨y,H2,I3,ry,q3⟩=>thn (hop pins s3 σ H2 v y u w3 _ I3 ru ry q3) λ w4 s4 hq22=>?_;obtain⟨z,H3,I4,rz,dx',fs',ea',l',q4⟩:=hq22;exact mw I4 ea' c n l' rz λ s5 I5=>⟨σ,_,I5,q4⟩
structure cY(k:Nat)(A:Around):Prop where
 hd:A.handled=none
 gd:A.guards=some []
 dp:A.depth+3 * k+5<recursionLimit
 un:A.units+16 * k+200<cLine
theorem cY.mono(r:cY k A)(h:j<=k):cY j A:=⟨r.hd,r.gd,by have:=r.dp;omega,by have:=r.un;omega⟩
theorem cY.deeper(r:cY (k+1) A)(env:Env):cY k (A.deeper env):=
 ⟨r.hd,r.gd,by have:=r.dp;show A.depth+1+3 * k+5<_;omega,by have:=r.un;show A.units+3+16 * k+200<_;omega⟩
theorem cY.in1(r:cY (k+1) A):cY k A.in1:=
 ⟨r.hd,r.gd,by have:=r.dp;show A.depth+3 * k+5<_;omega,by have:=r.un;show A.units+1+16 * k+200<_;omega⟩
theorem ug{A:Around}{C:Addr}{us:List Value}{kw:List (Str×Value)}:(A.under (.builtin "type.__call__" ⟨.ref C::us,kw⟩)).depth=A.depth+1:=by
 first | rfl | simp[Around.under,Code.weight,Code.isCreation,Code.isGuard,Code.isCaller,Code.frames,Code.isFrame,guardIds]
theorem uu{A:Around}{C:Addr}{us:List Value}{kw:List (Str×Value)}:(A.under (.builtin "type.__call__" ⟨.ref C::us,kw⟩)).units=A.units+1:=by
 first | rfl | simp[Around.under,Code.cUnits,Code.frames,Code.isFrame]
theorem cY.make(r:cY (k+1) A)(C:Addr)(us:List Value)(kw:List (Str×Value)):cY k (A.under (.builtin "type.__call__" ⟨.ref C::us,kw⟩)):=
 ⟨r.hd,(by first | exact r.gd | (simpa [Around.under,Code.isGuard,Code.frames,Code.isFrame,guardIds] using r.gd)),by have:=r.dp;rw[ug];omega,by have:=r.un;rw[uu];omega⟩
theorem cY.depth(r:cY k A):A.depth<recursionLimit:=by have:=r.dp;omega
theorem cY.units(r:cY k A):A.units+64<cLine:=by have:=r.un;omega
def aai:TA:=λ _ H Q=>Q [] H
def rY(ta:TE)(tr:TA):TA:=λ σ H Q=>ta σ H λ x H1=>tr σ H1 λ xs H2=>Q (x::xs) H2
theorem mx:PA X [] aai:=λ _ _ _ _ H Q I h=>Calls.spliced_nil ⟨[],H,I,.nil,h⟩
theorem gP(ha:PE X e te)(hr:PA X es t)(hs:starEach (e::es) X.env=(false,eval e X.env)::starEach es X.env:=by rfl):PA X (e::es) (rY te t):=by intro pos pins s σ H Q I h;rw[hs];show wpAny _ _ (spliced ((false,eval e X.env)::backTo pos (starEach es X.env))) _ _ s;refine Calls.spliced_cons (thn (ha pins s σ H _ I h) λ u s1 hq23=>?_);obtain⟨x,H1,I1,r1,q1⟩:=hq23;exact thn (hr pos pins s1 σ H1 _ I1 q1) λ us s2 ⟨xs,H2,I2,r2,q2⟩=>⟨x::xs,H2,I2,.cons r1 r2,q2⟩
def aiC(t:TA):TE:=λ σ H Q=>t σ H λ xs H1=>xs.length<=sizeLine/\∀ p,H1 p=none->Q (.ref p) (upd H1 p (.tup xs))
def aiT(t:TA):TE:=λ σ H Q=>t σ H λ xs H1=>xs.length<=sizeLine/\∀ p,H1 p=none->Q (.ref p) (upd H1 p (.lst xs))
theorem abB{x1}(h:PA X es t):PE X (.Tuple es x1 pos) (aiC t):=by intro pins s σ H Q I hq;refine wpAny_Tuple_spliced (thn (h pos pins s σ H _ I hq) λ us s1 ⟨xs,H1,I1,r,z,q⟩=>⟨by rw[<- r.length];exact z,?_⟩);have hf:H1 s1.heap.objs.size=none:=I1.hok.fresh (Nat.le_refl _);refine⟨.ref s1.heap.objs.size,upd H1 s1.heap.objs.size (.tup xs),I1.laid (t':=s1.toks) (λ b u e=>Heap.get?_push_of_some _ e) (Nat.le_refl _) ?_,rfl,q _ hf⟩;exact⟨z,us,r,aby.new _ _⟩
theorem abf(h:PA X es t):PE X (.List es pos) (aiT t):=by intro pins s σ H Q I hq;refine wpAny_List_spliced (thn (h pos pins s σ H _ I hq) λ us s1 ⟨xs,H1,I1,r,z,q⟩=>⟨by rw[<- r.length];exact z,?_⟩);have hf:H1 s1.heap.objs.size=none:=I1.hok.fresh (Nat.le_refl _);refine⟨.ref s1.heap.objs.size,upd H1 s1.heap.objs.size (.lst xs),I1.laid (t':=s1.toks) (λ b u e=>Heap.get?_push_of_some _ e) (Nat.le_refl _) ?_,rfl,q _ hf⟩;exact⟨z,us,0,r,Heap.get?_push_size _ rfl⟩
abbrev Sp:=List V->Hp->VK->XK->Prop
abbrev CXT:=List Env->Hp->Shared->XK->VP
structure abu(P:Program)(w:World)(K:FG)(mg:Str->Option Value)(base:Heap)(A:Around)(outer:List Env)(s:Shared)(H:Hp):Prop where
 frames:A.frames=some outer
 mod:Mod K mg base
 bs:∀ b o,base.get? b=some o->s.heap.get? b=some o/\H b=none
 bsz:base.objs.size<=s.heap.objs.size
 nL:s.heap.FunFrames base outer
 frf:∀ b∈frs outer,H b=none
 hok:HOk P w H s.heap
 bare:AllBare s.gens
def CE(outer:List Env)(P:Program)(w:World)(H:Hp)(s:Shared)(Q:VK)(u:Value)(s':Shared):Prop:=
 ∃ v H',s'.os=s.os/\AllBare s'.gens/\Un (frs outer) [] H H' s.heap s'.heap/\HOk P w H' s'.heap/\RelV v u/\Q v H'
def CR(CX:CXT)(outer:List Env)(P:Program)(w:World)(H:Hp)(s:Shared)(Q:VK)(E:XK)(r:Result)(s':Shared):Prop:=
 match r with
 | .ok (.ret u)=>CE outer P w H s Q u s'
 | .ok _=>False
 | .error e=>CX outer H s E e s'
structure bW(P:Program)(w:World)(K:FG)(mg:Str->Option Value)(base:Heap)(CX:CXT)(k:Nat)(f:Addr)(fd:FuncData)(ps:List Str)(sp:Sp):Prop where
 len:∀ vs H Q E,sp vs H Q E->vs.length=ps.length
 run:∀ (A:Around) (outer:List Env) (s:Shared) (H:Hp) (args:Args) (us:List Value) (vs:List V) (Q:VK) (E:XK),cY k A->abu P w K mg base A outer s H->BindsTo s fd args (ps.zip us)->Vals vs us->sp vs H Q E ->
  codeAny (model P w) A (.call (.ref f) args) (CR CX outer P w H s Q E) s
theorem abu.make{P:Program}{w:World}{K:FG}{mg:Str->Option Value}{base:Heap}{A:Around}{outer:List Env}{s:Shared}{H:Hp}(e:abu P w K mg base A outer s H)(C:Addr)(us:List Value)(kw:List (Str×Value)) :
  abu P w K mg base (A.under (.builtin "type.__call__" ⟨.ref C::us,kw⟩)) outer s H:=⟨by first | exact e.frames | (simpa [Around.under,Code.envs,Code.isFrame,pushEnvs] using e.frames),e.mod,e.bs,e.bsz,e.nL,e.frf,e.hok,e.bare⟩
theorem Inv.aeb(I:Inv X pins σ H s):abu X.prog X.w X.K X.mg X.base X.A X.stack s H:=
 ⟨I.ok.frames,I.ok.mod,I.bs,Nat.le_trans I.ok.bsz I.sz,I.stack,I.nk,I.hok,I.bare⟩
theorem Inv.after(I:Inv X pins σ H s)(h:CE X.stack X.prog X.w H s Q u s'):EP X pins σ Q u s':=by obtain⟨v,H',os,bare,un,hok,r,q⟩:=h;obtain⟨hh,g,d,t,os'⟩:=s';obtain rfl:os'=s.os:=os;exact⟨v,H',I.call (h':=hh) (g':=g) (d':=d) (t':=t) (ch:=[]) un hok bare (λ b z=>absurd z (by simp)),r,q⟩
def ah6(sp:Sp)(dvs:List V)(E:XK)(t:TA):TE:=λ σ H Q=>t σ H λ vs H1=>sp (vs++dvs) H1 Q E
def adV(C:Addr)(m:Str)(sp:Sp)(dvs:List V)(E:XK)(ta:TE)(t:TA):TE:=λ σ H Q=>ta σ H λ x H1=>∃ a dx fs,x=.ref a/\H1 a=some (.ins C dx fs)/\fs.lookup m=none /\
 t σ H1 λ vs H2=>sp (x::(vs++dvs)) H2 Q E
def aho(C:Addr)(sp:Sp)(dvs:List V)(E:XK)(t:TA):TE:=λ σ H Q=>t σ H λ vs H1=>∀ x dx,H1 x=none->H1 dx=none->dx≠x ->
 sp (.ref x::(vs++dvs)) (upd (upd H1 dx (.own x)) x (.ins C dx [])) (λ v H2=>v=.non/\Q (.ref x) H2) E
def Binds(K:FG)(fd:FuncData)(ps:List Str)(ds:List Value):Prop:=
 ∀ (s:Shared) (us:List Value),K.In s.heap->(us++ds).length=ps.length->BindsTo s fd ⟨us,[]⟩ (ps.zip (us++ds))
theorem Binds.all{K:FG}{fd:FuncData}{ps:List Str}(h:∀ us:List Value,us.length=ps.length->bindArgs fd ⟨us,[]⟩=pure (ps.zip us)):Binds K fd ps []:=λ s us _ hl=>by rw[List.append_nil] at hl ⊢;exact .of_eq (h us hl)
def Passes(CX:CXT)(X:Cx)(E:XK):Prop:=∀ (pins:PN) (σ:St) (H:Hp) (s:Shared) (e:Value) (s':Shared),Inv X pins σ H s->CX X.stack H s E e s'->X.xe e s'
theorem yo(F:bW X.prog X.w X.K X.mg X.base CX k f fd ps sp)(hr:cY k X.A)(hb:Binds X.K fd ps ds)(hd:Vals dvs ds)(hx:Passes CX X E)
  (I:Inv X pins σ H s)(r:Vals vs us)(h:sp (vs++dvs) H Q E):wpAny (model X.prog X.w) X.A (call (.ref f) us) (EP X pins σ Q) X.xe s:=by
 have r2:Vals (vs++dvs) (us++ds):=r.append hd;have hl:(us++ds).length=ps.length:=by rw[<- r2.length];exact F.len _ _ _ _ h
 refine wpAny_call (codeAny_mono (F.run X.A X.stack s H ⟨us,[]⟩ (us++ds) (vs++dvs) Q E hr I.aeb (hb s us I.kIn hl) r2 h) λ r s' hq=>?_);cases r with
 | error e=>exact hx pins σ H s e s' I hq
 | ok fl =>
  cases fl with
  | ret u=>exact I.after hq
  | next=>exact False.elim hq
  | brk=>exact False.elim hq
  | cont=>exact False.elim hq
theorem adn(F:bW X.prog X.w X.K X.mg X.base CX k f fd ps sp)(hr:cY k X.A)(hg:Gl X x)(hm:X.mg x=some (.ref f))(hk:W.keepIn X.K (.ref f)=true)(hb:Binds X.K fd ps ds)(hd:Vals dvs ds)(hx:Passes CX X E)
  (ha:PA X (e::es) t)(hdb:ND x:=by decide)(he:starEach (e::es) X.env=(false,eval e X.env)::starEach es X.env:=by rfl)(hpl:(backTo pos (starEach es X.env)).any (·.1)=false:=by rfl) :
  PE X (.Call (.Name x p) (e::es) [] pos) (ah6 sp dvs E t):=by
 intro pins s σ H Q I h;refine wpAny_Call_Name_kw (fX I hg hm ?_ hdb);refine W.callWith_K (h₀:=X.base) I.ok.mod.kin hk (thn (ha pos pins s σ H _ I h) λ us s1 ⟨vs,H1,I1,r,q⟩=>⟨I1.kIn,?_⟩) he hpl;exact yo F hr hb hd hx I1 r q
theorem adG(he:PE X o ta)(c:Cls X.K C)(hm:Meth X.K C m f)(F:bW X.prog X.w X.K X.mg X.base CX k f fd ps sp)(hr:cY k X.A)(hb:Binds X.K fd ps ds)(hd:Vals dvs ds)(hx:Passes CX X E)(ha:PA X (e::es) t)
  (hst:starEach (e::es) X.env=(false,eval e X.env)::starEach es X.env:=by rfl)(hpl:(backTo pos (starEach es X.env)).any (·.1)=false:=by rfl)
  (ht:eval (.Call (.Attribute o m apos) (e::es) [] pos) X.env=(do
   let ov <- eval o X.env
   standAt apos.atName
   let (f,first) <- holding [ov] (getMethod ov m pl)
   callWith pos f first (backTo pos (starEach (e::es) X.env)) (backToKw pos (keywordEach [] X.env))):=by rfl) :
  PE X (.Call (.Attribute o m apos) (e::es) [] pos) (adV C m sp dvs E ta t):=by
 intro pins s σ H Q I h;refine W.methodCall_KW (pl:=pl) (thn (he pins s σ H _ I h) λ u s1 ⟨x,H1,I1,rx,a,dx,fs,ex,ea,l,q⟩=>?_) ht;subst ex;obtain rfl:u=Value.ref a:=rx;refine iY I1 ea c hm l ?_;refine W.callWith_K (first:=[.ref a]) (h₀:=X.base) I.ok.mod.kin hm.kp (thn (ha pos pins s1 σ H1 _ I1 q) λ us s2 ⟨vs,H2,I2,r,q2⟩=>⟨I2.kIn,?_⟩) hst hpl
 exact yo (us:=.ref a::us) (vs:=.ref a::vs) F hr hb hd hx I2 (.cons rfl r) q2
theorem yM(he:PE X o ta)(c:Cls X.K C)(hm:Meth X.K C m f)(F:bW X.prog X.w X.K X.mg X.base CX k f fd ps sp)(hr:cY k X.A)(hb:Binds X.K fd ps ds)(hd:Vals dvs ds)(hx:Passes CX X E)
  (ht:eval (.Call (.Attribute o m apos) [] [] pos) X.env=(do
   let ov <- eval o X.env
   standAt apos.atName
   let (f,first) <- holding [ov] (getMethod ov m pl)
   callWith pos f first (backTo pos (starEach [] X.env)) (backToKw pos (keywordEach [] X.env))):=by rfl) :
  PE X (.Call (.Attribute o m apos) [] [] pos) (adV C m sp dvs E ta aai):=by
 intro pins s σ H Q I h;refine W.methodCall_KW (pl:=pl) (thn (he pins s σ H _ I h) λ u s1 ⟨x,H1,I1,rx,a,dx,fs,ex,ea,l,q⟩=>?_) ht;subst ex;obtain rfl:u=Value.ref a:=rx;refine iY I1 ea c hm l ?_;exact W.callWith_K0 (first:=[.ref a]) I1.kIn hm.kp (yo (us:=[.ref a]) (vs:=[.ref a]) F hr hb hd hx I1 (.cons rfl .nil) q)
structure Mk(K:FG)(C f:Addr):Prop where
 makes:W.makesIn K C=true
 init:W.findIn K (.ref C) "__init__" = some (some (.ref f))
 fn:W.isFn K (.ref f)=true
 kp:W.keepIn K (.ref C)=true
theorem zO(M:Mk X.K C f)(F:bW X.prog X.w X.K X.mg X.base CX k f fd ps sp)(hr:cY (k+1) X.A)(hb:Binds X.K fd ps ds)(hd:Vals dvs ds)
  (hx:Passes CX X E)(I:Inv X pins σ H s)(r:Vals vs us)
  (h:∀ x dx,H x=none->H dx=none->dx≠x->sp (.ref x::(vs++dvs)) (upd (upd H dx (.own x)) x (.ins C dx [])) (λ v H2=>v=.non/\Q (.ref x) H2) E) :
  wpAny (model X.prog X.w) X.A (call (.ref C) us) (EP X pins σ Q) X.xe s:=by
 have hq:=h (s.heap.objs.size+1) s.heap.objs.size (I.hok.fresh (Nat.le_succ _)) (I.hok.fresh (Nat.le_refl _)) (Nat.ne_of_lt (Nat.lt_succ_self _));have I2:=Inv.made (C:=C) I;have r2:Vals (V.ref (s.heap.objs.size+1)::(vs++dvs)) (Value.ref (s.heap.objs.size+1)::(us++ds)):=.cons rfl (r.append hd);have hl:(Value.ref (s.heap.objs.size+1)::us++ds).length=ps.length:=by have e:=r2.length;rw[F.len _ _ _ _ hq] at e;exact e.symm
 refine wpAny_call (mR (f:=f) I.kIn M.makes M.init (beq_iff_eq.mp M.fn) (codeAny_mono (F.run _ X.stack _ _ ⟨Value.ref (s.heap.objs.size+1)::us,[]⟩ (Value.ref (s.heap.objs.size+1)::(us++ds)) _ _ E (hr.make C us [])
  (I2.aeb.make C us []) (hb _ (Value.ref (s.heap.objs.size+1)::us) I2.kIn hl) r2 hq) λ r s' hq'=>?_))
 cases r with
 | error e=>exact hx pins σ _ _ e s' I2 hq'
 | ok fl =>
  cases fl with
  | ret u =>
   obtain⟨v,H',I3,rv,ev,q3⟩:=I2.after hq';subst ev;exact⟨rv,⟨V.ref (s.heap.objs.size+1),H',I3,rfl,q3⟩⟩
  | next=>exact False.elim hq'
  | brk=>exact False.elim hq'
  | cont=>exact False.elim hq'
theorem zI(M:Mk X.K C f)(F:bW X.prog X.w X.K X.mg X.base CX k f fd ps sp)(hr:cY (k+1) X.A)(hg:Gl X x)(hm:X.mg x=some (.ref C))(hb:Binds X.K fd ps ds)(hd:Vals dvs ds)(hx:Passes CX X E)
  (hdb:ND x:=by decide):PE X (.Call (.Name x p) [] [] pos) (aho C sp dvs E aai):=by
 intro pins s σ H Q I h;refine wpAny_Call_Name_kw (fX I hg hm ?_ hdb);exact W.callWith_K0 I.kIn M.kp (zO (us:=[]) M F hr hb hd hx I .nil h)
def PK(X:Cx)(kws:List Keyword)(t:TA):Prop:=
 ∀ (pos:Pos) (pins:PN) (s:Shared) (σ:St) (H:Hp) (Q:List V->Hp->Prop),Inv X pins σ H s->t σ H Q->wpAny (model X.prog X.w) X.A (evalAll ((backToKw pos (keywordEach kws X.env)).map (·.2))) (AP X pins σ Q) X.xe s
theorem abi:PK X [] aai:=λ _ _ _ _ H Q I h=>wpAny_evalAll_nil ⟨[],H,I,.nil,h⟩
theorem wa(ha:PE X e te)(hr:PK X kws t):PK X (⟨nm,e,kpos⟩::kws) (rY te t):=by intro pos pins s σ H Q I h;show wpAny _ _ (evalAll ((do let v <- eval e X.env;standAt pos;pure v)::(backToKw pos (keywordEach kws X.env)).map (·.2))) _ _ s;refine wpAny_evalAll_cons (wpAny_bind (thn (ha pins s σ H _ I h) λ u s1 ⟨x,H1,I1,r1,q1⟩=>wpAny_bind (wpAny_standAt (wpAny_pure ?_))));exact thn (hr pos pins s1 σ H1 _ I1 q1) λ us s2 ⟨xs,H2,I2,r2,q2⟩=>⟨x::xs,H2,I2,.cons r1 r2,q2⟩
structure aP(N P:List Str)(sc:Scope):Prop where
 kind:sc.kind=.function
 co:sc.isCoroutine=false
 gen:sc.isGenerator=false
 nd:N.Nodup
 pre:N.take P.length=P
 par:∀ x∈P,sc.names.lookup x=some .local\/sc.names.lookup x=some .cell
 nofree:∀ y∈sc.names,y.2 ≠ .free
theorem oY{kindOf:Str->Option NameKind}:∀ {binds:List (Str×Value)} {m:Str->Option Value},(∀ v,(x,v) ∉ binds)->bindL kindOf binds m x=m x
 | [],_,_=>rfl
 | (n,v)::r,m,h=>by
  unfold bindL;rw[oY λ w hw=>h w (List.mem_cons_of_mem _ hw)]
  split
  ·have:x≠n:=by rintro rfl;exact h v List.mem_cons_self
   simp[this]
  ·rfl
theorem qq{kindOf:Str->Option NameKind}:∀ {binds:List (Str×Value)} {m:Str->Option Value},(∀ v,(x,v) ∉ binds)->bindC kindOf binds m x=m x
 | [],_,_=>rfl
 | (n,v)::r,m,h=>by
  unfold bindC;rw[qq λ w hw=>h w (List.mem_cons_of_mem _ hw)]
  split
  ·rfl
  ·have:x≠n:=by rintro rfl;exact h v List.mem_cons_self
   simp[this]
theorem pV{kindOf:Str->Option NameKind}{v:Value}:∀ {P:List Str} {vs:List Value} {i:Nat} {m:Str->Option Value},P.Nodup->P[i]? =some x->vs[i]? =some v->kindOf x=some .local ->
  bindL kindOf (P.zip vs) m x=some v
 | [],_,_,_,_,h,_,_=>by simp at h
 | _::_,[],_,_,_,_,h,_=>by simp at h
 | p::P,w::vs,0,m,nd,h1,h2,hk=>by simp at h1 h2;subst h1;subst h2;show bindL kindOf ((p,w)::P.zip vs) m p=_;unfold bindL;rw[oY λ v hv=>(List.nodup_cons.mp nd).1 (List.of_mem_zip hv).1,if_pos hk];simp
 | p::P,w::vs,i+1,m,nd,h1,h2,hk=>by show bindL kindOf ((p,w)::P.zip vs) m x=_;unfold bindL;exact pV (i:=i) (List.nodup_cons.mp nd).2 (by simpa using h1) (by simpa using h2) hk
theorem qp{kindOf:Str->Option NameKind}{v:Value}:∀ {P:List Str} {vs:List Value} {i:Nat} {m:Str->Option Value},P.Nodup->P[i]? =some x->vs[i]? =some v->kindOf x≠some .local ->
  bindC kindOf (P.zip vs) m x=some v
 | [],_,_,_,_,h,_,_=>by simp at h
 | _::_,[],_,_,_,_,h,_=>by simp at h
 | p::P,w::vs,0,m,nd,h1,h2,hk=>by simp at h1 h2;subst h1;subst h2;show bindC kindOf ((p,w)::P.zip vs) m p=_;unfold bindC;rw[qq λ v hv=>(List.nodup_cons.mp nd).1 (List.of_mem_zip hv).1,if_neg hk];simp
 | p::P,w::vs,i+1,m,nd,h1,h2,hk=>by show bindC kindOf ((p,w)::P.zip vs) m x=_;unfold bindC;exact qp (i:=i) (List.nodup_cons.mp nd).2 (by simpa using h1) (by simpa using h2) hk
def start(N:List Str)(vs:List V):St:=vs.map some++List.replicate (N.length-vs.length) none
def qT(CX:CXT)(P:Program)(w:World)(K:FG)(mg:Str->Option Value)(base:Heap)(N:List Str)(qual:Str)(scope:Scope)(f:Addr)(cd:Value)(A:Around)(outer:List Env)(s:Shared)(H:Hp)(E:XK):Cx where
 prog:=P
 w:=w
 K:=K
 mg:=mg
 base:=base
 A:=A.deeper (envOfC qual scope s.heap.objs.size f cd)
 N:=N
 s₀:=s
 H₀:=H
 env:=envOfC qual scope s.heap.objs.size f cd
 outer:=outer
 stack:=envOfC qual scope s.heap.objs.size f cd::outer
 ex:=[]
 calm:=true
 fn:=λ _=>true
 pn:=[]
 xe:=λ e s'=>wpAny (model P w) (A.deeper (envOfC qual scope s.heap.objs.size f cd)) (leaving (envOfC qual scope s.heap.objs.size f cd) e) (λ _ s''=>CX outer H s E e s'') (λ e' s''=>CX outer H s E e' s'') s'
theorem sU{sc:Scope}{n:Nat}(h:sc.names.lookup x=some .cell):∃ c,(cellsFrom n sc.names []).lookup x=some c:=by have q:=W.cellsFrom_some sc.names n [] (.inl h);exact Option.isSome_iff_exists.mp q
theorem vq{CX:CXT}{P:Program}{w:World}{K:FG}{mg:Str->Option Value}{base:Heap}{N ps:List Str}{qual:Str}{scope:Scope}{f:Addr}{cd:Value}{A:Around}{outer:List Env}{s s1:Shared}{H:Hp}{E:XK}{us:List Value}{vs:List V}
  (S:aP N ps scope)(hd:A.handled=none)(e0:abu P w K mg base A outer s H)(hl:vs.length=ps.length)(r:Vals vs us)
  (x:InCallC s s.heap.objs.size (bindL (envOfC qual scope s.heap.objs.size f cd).kindOf (ps.zip us) λ _=>none) (cellsFrom (s.heap.objs.size+1) scope.names []) (bindC (envOfC qual scope s.heap.objs.size f cd).kindOf (ps.zip us) λ _=>none) s1) :
  Inv (qT CX P w K mg base N qual scope f cd A outer s H E) [] (start N vs) H s1:=by
 have hpl:ps.length<=N.length:=by have:=congrArg List.length S.pre;rw[List.length_take] at this;omega
 obtain⟨h1,tk,rfl,hk⟩:=x.done;have noA:∀ b:Addr,b ∉ (qT CX P w K mg base N qual scope f cd A outer s H E).ex:=λ b z=>absurd (show b∈([]:List Addr) from z) (by simp);refine⟨⟨e0.mod,S.kind,rfl,rfl,Nat.le_refl _,λ y z c h1 h2=>?_,λ y hy=>?_,λ y c _ h=>?_,λ _=>hd,Around.frames_deeper e0.frames,.inr ⟨rfl,rfl⟩,λ b z=>absurd z (noA b),e0.bs,e0.bsz,λ b _ _=>noA b,λ b z=>absurd z (noA b),e0.nL,e0.frf⟩,
  rfl,e0.bare,Un.kept hk,⟨_,x.toInCall.ns,λ i y v h1 h2 h3=>?_⟩,λ y c h=>⟨_,x.cell y c h⟩,e0.hok.fresh (Nat.le_refl _),λ y c h=>?_,λ p hp=>absurd (show p∈([]:PN) from hp) (by simp),e0.hok.kept hk,?_⟩
 ·exact name_of_addr x.apart (PySem.mem_of_lookup h1) (PySem.mem_of_lookup h2)
 ·have hy:scope.names.lookup y=some .cell\/scope.names.lookup y=some .free:=hy;rcases hy with hy | hy
  ·exact sU hy
  ·exact absurd rfl (S.nofree _ (PySem.mem_of_lookup hy))
 ·exact Nat.le_of_lt (x.above y c (PySem.mem_of_lookup h))
 ·have hi:i<vs.length:=by
   unfold start at h2
   by_cases hi:i<vs.length
   ·exact hi
   ·rw[List.getElem?_append_right (by simpa using hi)] at h2;rw[List.getElem?_replicate] at h2
    split at h2<;>cases h2
  have ha:vs[i]? =some v:=by
   unfold start at h2;rw[List.getElem?_append_left (by simpa using hi),List.getElem?_map] at h2;cases e:vs[i]? with
   | none=>rw[e] at h2;cases h2
   | some a=>rw[e] at h2;cases h2;rfl
  obtain⟨u,hu,rv⟩:=r.get ha;have hp:ps[i]? =some y:=by rw[<- S.pre,List.getElem?_take_of_lt (by omega)];exact h1
  have ndP:ps.Nodup:=by rw[<- S.pre];exact S.nd.sublist (List.take_sublist _ _)
  refine⟨u,rv,?_⟩;rcases S.par y (List.mem_of_getElem? hp) with k | k
  ·exact .inl ⟨k,pV ndP hp hu k⟩
  ·obtain⟨c,e⟩:=sU (n:=s.heap.objs.size+1) k;refine .inr ⟨.inl k,c,e,?_⟩;have q:=x.cell y c e;rw[qp ndP hp hu (by show scope.names.lookup y≠_;rw[k];decide)] at q;exact q
 ·exact e0.hok.fresh (Nat.le_of_lt (x.above y c (PySem.mem_of_lookup h)))
 ·unfold start;show _=N.length;rw[List.length_append,List.length_map,List.length_replicate];omega
theorem zZ{CX:CXT}{P:Program}{w:World}{K:FG}{mg:Str->Option Value}{base:Heap}{k:Nat}{f:Addr}{name qual:Str}{params:Arguments}{body:List Stmt}{scope:Scope}{dV kV doc pm cdv ct oc:Value}{an od:Option Addr}
  {osl:Array (Option Value)}{N ps:List Str}{sp:Sp}(lk:K.lookup f=some ⟨oc,od,.func (W.fnOf name qual params body scope dV kV doc pm an cdv ct),osl⟩)(hcd:W.codeIn K cdv qual=true)(S:aP N ps scope)
  (len:∀ vs H Q E,sp vs H Q E->vs.length=ps.length)
  (hbody:∀ (A:Around) (outer:List Env) (s:Shared) (H:Hp) (vs:List V) (Q:VK) (E:XK),cY k (A.deeper (envOfC qual scope s.heap.objs.size f cdv))->sp vs H Q E ->
   ∃ t,PSs (qT CX P w K mg base N qual scope f cdv A outer s H E) body t/\t {nx:=λ _ H'=>Q .non H',rt:=Q} (start N vs) H) :
  bW P w K mg base CX (k+1) f (W.fnOf name qual params body scope dV kV doc pm an cdv ct) ps sp:=by
 refine⟨len,λ A outer s H args us vs Q E hr e0 hb r hsp=>?_⟩;have hl:=len _ _ _ _ hsp;have KX:K.In s.heap:=e0.mod.kin.keeps λ b o e=>(e0.bs b o e).1;have lim:s.heap.NoLimit:=e0.mod.nolimit.keeps λ b o e=>(e0.bs b o e).1;have hkind:∀ y∈ps.zip us,scope.names.lookup y.1=some .local\/(scope.names.lookup y.1=some .cell/\((cellsFrom (s.heap.objs.size+1) scope.names []).lookup y.1).isSome=true):=λ⟨n,v⟩ hy=>by
  rcases S.par n (List.of_mem_zip hy).1 with q | q
  ·exact .inl q
  ·exact .inr ⟨q,W.cellsFrom_some _ _ _ (.inl q)⟩
 refine codeAny_call_function hr.depth (KX _ _ lk) rfl S.co S.gen rfl (W.codeRec_of KX hcd) (hb _ _ _ _ ?_);refine wpAny_newFunctionEnv_cells S.kind hkind λ env he s1 x=>?_;subst he;refine⟨lim.keeps x.toInCall.keep,codeAny_func ?_⟩;obtain⟨t,ht,hq⟩:=hbody A outer s H vs Q E (hr.deeper _) hsp;have I:Inv (qT CX P w K mg base N qual scope f cdv A outer s H E) [] (start N vs) H s1:=vq S hr.hd e0 hl r x;refine wpAny_mono (ht [] s1 (start N vs) H _ I hq) (λ fl s' hs=>?_) λ e s' hs=>hs;have fin:∀ {σ':St} {H':Hp} {v:V} {u:Value},Inv (qT CX P w K mg base N qual scope f cdv A outer s H E) [] σ' H' s'->RelV v u->Q v H'->CE outer P w H s Q u s':=
  λ {σ' H' v u} J rv q=>⟨v,H',J.os,J.bare,J.base,J.hok,rv,q⟩
 cases fl with
 | ret u =>
  obtain⟨v,σ',H',J,rv,q⟩:=hs;exact fin J rv q
 | next =>
  obtain⟨σ',H',J,q⟩:=hs;exact fin (v:=V.non) (u:=Value.none) J rfl q
 | brk =>
  obtain⟨_,_,_,q⟩:=hs;exact False.elim q
 | cont =>
  obtain⟨_,_,_,q⟩:=hs;exact False.elim q
section
variable {X:Cx}{x:Str}{p pos:Pos}{e:Expr}{es:List Expr}{t:TA}{id T:String}{r:List V->Hp->VK->Prop}
def tCB(r:List V->Hp->VK->Prop)(t:TA):TE:=λ σ H Q=>t σ H λ vs H1=>r vs H1 Q
theorem oe(hc:eP X (.builtin id) r)(hg:Gl X x)(hm:X.mg x=none)(hv:bootBuiltins x=some (.builtin id))(ha:PA X (e::es) t)(hn:x ≠ "__name__":= by decide)(hdb:ND x:=by decide)
  (he:starEach (e::es) X.env=(false,eval e X.env)::starEach es X.env:=by rfl)(hpl:(backTo pos (starEach es X.env)).any (·.1)=false:=by rfl):PE X (.Call (.Name x p) (e::es) [] pos) (tCB r t):=by
 intro pins s σ H Q I h;refine wpAny_Call_Name_kw (jg I hg hm hv ?_ hn hdb);exact PyProof.Rows.callWith_builtin1 (thn (ha pos pins s σ H _ I h) λ us s1 ⟨vs,H1,I1,r1,q1⟩=>hc pins s1 σ H1 vs us Q I1 r1 q1) he hpl
theorem wK(hc:eP X (.type T) r)(hg:Gl X x)(hm:X.mg x=none)(hv:bootBuiltins x=some (.type T))(ha:PA X (e::es) t)(hn:x ≠ "__name__":= by decide)(hdb:ND x:=by decide)
  (he:starEach (e::es) X.env=(false,eval e X.env)::starEach es X.env:=by rfl)(hpl:(backTo pos (starEach es X.env)).any (·.1)=false:=by rfl):PE X (.Call (.Name x p) (e::es) [] pos) (tCB r t):=by
 intro pins s σ H Q I h;refine wpAny_Call_Name_kw (jg I hg hm hv ?_ hn hdb);exact PyProof.Rows.callWith_type1 (thn (ha pos pins s σ H _ I h) λ us s1 ⟨vs,H1,I1,r1,q1⟩=>hc pins s1 σ H1 vs us Q I1 r1 q1) he hpl
end
end L2
namespace HT
open PySem PyProof.Rows
section
open PySem.SeqAt
open PySem.AutoSeq1 (wpAny_loadPart')
open PySem.MeetsSeq PySem.MeetsSeq2 PySem.MeetsSeq3
end
def sIx(n d:Nat):Option Int->Nat
 | none=>d
 | some v=>if v<0 then (v+(n:Int)).toNat else min v.toNat n
theorem afm(n d:Nat)(hd:d<=n)(o:Option Int):sIx n d o<=n:=by
 cases o with
 | none=>exact hd
 | some v =>
  show(if v<0 then (v+(n:Int)).toNat else min v.toNat n)<=n
  by_cases hv:v<0
  ·rw[if_pos hv];omega
  ·rw[if_neg hv];exact Nat.min_le_right _ _
theorem xi(v:Int)(n d:Nat):(if v<0 then max (v+(n:Int)) 0 else min v (n:Int))=((sIx n d (some v):Nat):Int):=by
 show(if v<0 then max (v+(n:Int)) 0 else min v (n:Int))=(((if v<0 then (v+(n:Int)).toNat else min v.toNat n):Nat):Int)
 by_cases hv:v<0
 ·simp only[if_pos hv];omega
 ·simp only[if_neg hv];omega
theorem uz(lo hi:Option Int)(n:Nat):Builtin.Slice.sliceAdjust lo hi 1 (n:Int)=(((sIx n 0 lo:Nat):Int),((sIx n n hi:Nat):Int)):=by
 have h1:¬ ((1:Int)<0):=by omega
 unfold Builtin.Slice.sliceAdjust;simp only[h1,if_false];refine Prod.ext ?_ ?_
 ·cases lo with
  | none=>rfl
  | some v=>exact xi v n 0
 ·cases hi with
  | none=>rfl
  | some v=>exact xi v n n
theorem uq(i j:Nat):Builtin.Slice.slicePlaces (i:Int) (j:Int) 1=j-i:=by
 unfold Builtin.Slice.slicePlaces;have h1:(1:Int) > 0:=by omega
 simp only[h1,if_true,Int.ediv_one]
 split<;>omega
theorem l4(p:IsPart v o)(h:Q o s):wpAny (model prog w) A (Builtin.Slice.slicePartIndex v) Q E s:=by
 cases p with
 | none=>exact slicePart_none h
 | int i t=>exact slicePart_int h
theorem jn{sl:Addr}{vl vu:Value}{lo hi:Option Int}{n:Nat}(hs:s.heap.IsSliceOf sl vl vu .none)(pl:IsPart vl lo)(pu:IsPart vu hi)
  (h:Q (((sIx n 0 lo:Nat):Int),1,sIx n n hi-sIx n 0 lo) s):wpAny (model prog w) A (Builtin.Slice.sliceApplied (.ref sl) (pure (n:Int))) Q E s:=by
 obtain⟨os,hos,hcs,hds⟩:=id hs;unfold Builtin.Slice.sliceApplied Builtin.Slice.sliceFields;refine wpAny_bind (wpAny_bind (wpAny_field hos hds (x:=vl) rfl (wpAny_bind (wpAny_field hos hds (x:=vu) rfl (wpAny_bind (wpAny_field hos hds (x:=.none) rfl (wpAny_pure ?_)))))));refine wpAny_bind (slicePart_none ?_);show wpAny _ _ (if ((1:Int)==0)=true then _ else _) _ _ s;rw[if_neg (by decide)];refine wpAny_bind (l4 pl (wpAny_bind (l4 pu (wpAny_bind (wpAny_pure ?_)))));show wpAny _ _ (match Builtin.Slice.sliceAdjust lo hi 1 (n:Int) with | (lo,hi)=>pure (lo,(1:Int),Builtin.Slice.slicePlaces lo hi 1)) _ _ s
 rw[uz lo hi n];show wpAny _ _ (pure (((sIx n 0 lo:Nat):Int),(1:Int),Builtin.Slice.slicePlaces ((sIx n 0 lo:Nat):Int) ((sIx n n hi:Nat):Int) 1)) _ _ s;rw[uq];exact wpAny_pure h
theorem aad(xs:Array Value)(i k:Nat):((List.range k).filterMap λ(m:Nat)=>xs[((i:Int)+(m:Int) * 1).toNat]?).toArray=((xs.toList.drop i).take k).toArray:=by
 have e:(λ(m:Nat)=>xs[((i:Int)+(m:Int) * 1).toNat]?)=λ m=>xs[i+m]?:=by
  funext m;have:((i:Int)+(m:Int) * 1).toNat=i+m:=by omega
  rw[this]
 rw[e];have:=pick_run xs i k;rw[List.filterMap_map] at this;have e2:((λ x=>xs[x]?) ∘ λ x=>i+x)=λ m=>xs[i+m]?:=rfl;rw[e2] at this;rw[this]
theorem iM{t sl:Addr}{items:Array Value}{vl vu:Value}{lo hi:Option Int}(ht:IsTup s.heap t items)(hs:s.heap.IsSliceOf sl vl vu .none)(pl:IsPart vl lo)(pu:IsPart vu hi)
  (hw:¬ (sIx items.size 0 lo=0/\sIx items.size items.size hi=items.size))
  (h:Q (.ref s.heap.objs.size) {s with heap:=s.heap.push {cls:=.type "tuple",data:=.seq ((items.toList.drop (sIx items.size 0 lo)).take (sIx items.size items.size hi-sIx items.size 0 lo)).toArray}})
  (hsz:items.size<=sizeLine):wpAny (model prog w) A (getItem (.ref t) (.ref sl)) Q E s:=by
 have htake:sizeOk (.seq ((items.toList.drop (sIx items.size 0 lo)).take (sIx items.size items.size hi-sIx items.size 0 lo)).toArray):=by show((items.toList.drop (sIx items.size 0 lo)).take (sIx items.size items.size hi-sIx items.size 0 lo)).toArray.size<=sizeLine;rw[List.size_toArray,List.length_take,List.length_drop,Array.length_toList];omega
 have hj:sIx items.size items.size hi<=items.size:=afm _ _ (Nat.le_refl _) hi;obtain⟨os,hos,hcs,hds⟩:=id hs;have hTs:s.TypeIs (.ref sl) "slice":= ⟨os,hos,hcs⟩;unfold getItem
 try with_reducible refine wpAny_holding ?_
 first | refine wpAny_bind (wpAny_pure ?_) | skip
 refine wpAny_bind (wpAny_sequenceKey ht.typeIs (by decide) ?_);refine wpAny_bind (wpAny_callSpecial?_slot (name:=Str.ofString "__getitem__") ht.typeIs PyProof.Rows.slot_tuple_getitem
  (wpAny_call_entry PyProof.Rows.slot_tuple_getitem ht.typeIs entry_tuple_getitem ?_ (args_tuple_getitem _ _)))
 show wpAny _ _ (Builtin.Tuple.tupleItemsOf (.ref t) >>= _) _ _ s;refine wpAny_bind (tupleItemsOf_ ht ?_);refine wpAny_bind (wpAny_typeOf hTs ?_);rw[if_pos (by decide)];refine wpAny_bind (jn hs pl pu ?_);have hno:¬ ((((sIx items.size 0 lo:Nat):Int)==0&&(1:Int)==1&&(sIx items.size items.size hi-sIx items.size 0 lo)==items.size)=true):=by intro q;rw[Bool.and_eq_true,Bool.and_eq_true] at q;have q1:((sIx items.size 0 lo:Nat):Int)=0:=eq_of_beq q.1.1;have q2:sIx items.size items.size hi-sIx items.size 0 lo=items.size:=eq_of_beq q.2;exact hw ⟨by omega,by omega⟩
 show wpAny _ _ (if (((sIx items.size 0 lo:Nat):Int)==0&&(1:Int)==1&&(sIx items.size items.size hi-sIx items.size 0 lo)==items.size)=true then _ else _) _ _ s;rw[if_neg hno,aad]
 first
  | exact wpAny_bind (m:=Builtin.Tuple.tupleExact _) (wpAny_newObj_type (wpAny_pure ⟨_,rfl,wpAny_pure h⟩) htake)
  | exact wpAny_bind (m:=Builtin.Tuple.tupleExact _) (wpAny_newObj_type (wpAny_bind (wpAny_pure (wpAny_pure ⟨_,rfl,wpAny_pure h⟩))) htake)
  | exact wpAny_bind (wpAny_bind (m:=Builtin.Tuple.tupleExact _) (wpAny_newObj_type (wpAny_pure (wpAny_pure ⟨_,rfl,wpAny_pure h⟩)) htake))
  | exact wpAny_bind (wpAny_bind (m:=Builtin.Tuple.tupleExact _) (wpAny_newObj_type (wpAny_pure ⟨_,rfl,wpAny_pure h⟩) htake))
end HT
namespace L2
abbrev TO:=St->Hp->(Option Int->Hp->Prop)->Prop
def PO(X:Cx)(e:Option Expr)(t:TO):Prop:=
 ∀ (pins:PN) (s:Shared) (σ:St) (H:Hp) (Q:Option Int->Hp->Prop),Inv X pins σ H s->t σ H Q ->
  wpAny (model X.prog X.w) X.A (evalPart e X.env) (λ u s'=>∃ o H',Inv X pins σ H' s'/\IsPart u o/\Q o H') X.xe s
def adQ:TO:=λ _ H Q=>Q none H
def aii(t:TE):TO:=λ σ H Q=>t σ H λ x H1=>∃ i,x=.int i/\Q (some i) H1
section
variable {X:Cx}{e:Expr}{te:TE}{lo hi:Option Expr}{tl th:TO}{pos p2:Pos}
theorem acK:PO X none adQ:=by intro pins s σ H Q I h;rw[evalPart_none];exact wpAny_pure ⟨none,H,I,.none,h⟩
theorem abX(h:PE X e te):PO X (some e) (aii te):=by intro pins s σ H Q I hw;rw[evalPart_some];refine thn (h pins s σ H _ I hw) λ u s1 hq24=>?_;obtain⟨x,H1,I1,r1,q1⟩:=hq24;obtain⟨i,rfl,q⟩:=q1;obtain⟨t,rfl⟩:=r1;exact⟨some i,H1,I1,.int i t,q⟩
def SlR(X:Cx)(r:V->Option Int->Option Int->Hp->VK->Prop):Prop:=
 ∀ (pins:PN) (s:Shared) (σ:St) (H:Hp) (x:V) (v vl vu:Value) (lo hi:Option Int) (sl:Addr) (Q:VK),Inv X pins σ H s->RelV x v->s.heap.IsSliceOf sl vl vu .none->IsPart vl lo->IsPart vu hi->r x lo hi H Q ->
  ∃ T id,typeLookup (.type T) "__getitem__" = pure (some (.builtin id))/\s.TypeIs v T/\wpAny (model X.prog X.w) X.A (getItem v (.ref sl)) (EP X pins σ Q) X.xe s
theorem SlR.or(h:SlR X r)(h':SlR X r'):SlR X (λ x lo hi H Q=>r x lo hi H Q\/r' x lo hi H Q):=by
 intro pins s σ H x v vl vu lo hi sl Q I rx hs pl pu q;rcases q with q | q
 ·exact h pins s σ H x v vl vu lo hi sl Q I rx hs pl pu q
 ·exact h' pins s σ H x v vl vu lo hi sl Q I rx hs pl pu q
def tSl(r:V->Option Int->Option Int->Hp->VK->Prop)(te:TE)(tl th:TO):TE:=λ σ H Q=>te σ H λ x H1=>tl σ H1 λ l H2=>th σ H2 λ u H3=>r x l u H3 Q
theorem nU(hr:SlR X r)(he:PE X e te)(hl:PO X lo tl)(hu:PO X hi th):PE X (.Subscript e (.Slice lo hi none p2) pos) (tSl r te tl th):=by intro pins s σ H Q I h;refine Subscript_ (thn (he pins s σ H _ I h) λ v s1 hq25=>?_);obtain⟨x,H1,I1,r1,q1⟩:=hq25;refine wpAny_Slice (thn (hl pins s1 σ H1 _ I1 q1) λ vl s2 ⟨l,H2,I2,pl,q2⟩=>thn (hu pins s2 σ H2 _ I2 q2) λ vu s3 hq26=>?_);obtain⟨u,H3,I3,pu,q3⟩:=hq26;rw[evalPart_none];refine wpAny_pure ?_;have I4:Inv X pins σ H3 {s3 with heap:=s3.heap.push {cls:=.type "slice",data:=.fields #[vl,vu,.none]}}:=I3.kept (t':=s3.toks) λ b ob q=>Heap.get?_push_of_some _ q;obtain⟨T,id,hT,ht,hg⟩:=hr pins {s3 with heap:=s3.heap.push {cls:=.type "slice",data:=.fields #[vl,vu,.none]}} σ H3 x v vl vu l u s3.heap.objs.size Q I4 r1 (Heap.IsSliceOf.new ..) pl pu q3;show wpAny (model X.prog X.w) X.A (subscriptTail e (.Slice lo hi none p2) v (.ref s3.heap.objs.size)) (EP X pins σ Q) X.xe {s3 with heap:=s3.heap.push {cls:=.type "slice",data:=.fields #[vl,vu,.none]}};exact tail_any (ops:=[.ref s3.heap.objs.size,v]) ht hT hg (by with_unfolding_all rfl)
def xB(xs:List V)(lo hi:Option Int):List V:=(xs.drop (HT.sIx xs.length 0 lo)).take (HT.sIx xs.length xs.length hi-HT.sIx xs.length 0 lo)
theorem kQ(xs:List V)(lo hi:Option Int):(xB xs lo hi).length<=xs.length:=by
 unfold xB;rw[List.length_take,List.length_drop];omega
def aiG(K:FG):V->Option Int->Option Int->Hp->VK->Prop:=λ x lo hi H Q=>∃ a xs,x=.ref a/\SqT K H a xs /\
 ¬ (HT.sIx xs.length 0 lo=0/\HT.sIx xs.length xs.length hi=xs.length)/\∀ p,H p=none->Q (.ref p) (upd H p (.tup (xB xs lo hi)))
theorem ae8:SlR X (aiG X.K):=by
 intro pins s σ H x v vl vu lo hi sl Q I rx hs pl pu h;obtain⟨a,xs,rfl,hx,hw,q⟩:=h;cases rx;obtain⟨its,r,ht,hz⟩:=I.tuple hx;have hlen:its.toArray.size=xs.length:=by rw[List.size_toArray];exact r.length.symm
 refine⟨"tuple",_,PyProof.Rows.slot_tuple_getitem.lookup,ht.typeIs,?_⟩;refine HT.iM ht hs pl pu (by rw[hlen];exact hw) ?_ (by rw[hlen];exact hz);rw[hlen];refine⟨.ref s.heap.objs.size,_,I.laid (t':=s.toks) (o:=.tup (xB xs lo hi)) (λ b ob q=>Heap.get?_push_of_some _ q) (Nat.le_refl _) ?_,rfl,q _ (I.hok.fresh (Nat.le_refl _))⟩;exact⟨Nat.le_trans (kQ xs lo hi) hz,_,(r.drop (HT.sIx xs.length 0 lo)).take (HT.sIx xs.length xs.length hi-HT.sIx xs.length 0 lo),aby.new _ _⟩
end
def ixN(n:Nat)(i:Int):Option Nat:=if 0<=i then (if i<n then some i.toNat else none) else if -(n:Int)<=i then some (i+n).toNat else none
def atI(xs:List α)(i:Int):Option α:=(ixN xs.length i).bind λ j=>xs[j]?
theorem xl(h:ixN n i=some j):seqIndex? i n=some j/\j<n/\-(n:Int)<=i/\i<n:=by
 unfold ixN at h
 by_cases h0:0<=i
 ·rw[if_pos h0] at h
  by_cases h1:i<n
  ·rw[if_pos h1] at h;have e:i.toNat=j:=Option.some.inj h;exact⟨by rw[seqIndex_of h0 h1,e],by omega,by omega,h1⟩
  ·rw[if_neg h1] at h;cases h
 ·rw[if_neg h0] at h
  by_cases h1:-(n:Int)<=i
  ·rw[if_pos h1] at h;have e:(i+n).toNat=j:=Option.some.inj h;exact⟨by rw[seqIndex_neg (by omega) h1,e],by omega,h1,by omega⟩
  ·rw[if_neg h1] at h;cases h
theorem nM(h:atI xs i=some v):∃ j,seqIndex? i xs.length=some j/\xs[j]? =some v/\j<xs.length/\-(xs.length:Int)<=i/\i<xs.length:=by
 unfold atI at h;cases e:ixN xs.length i with
 | none=>rw[e] at h;cases h
 | some j =>
  rw[e] at h;obtain⟨h1,h2,h3,h4⟩:=xl e;exact⟨j,h1,h,h2,h3,h4⟩
theorem ng{α:Type}{xs:List α}{j:Nat}{v:α}(h:xs[j]? =some v):atI xs (j:Int)=some v:=by
 have hj:j<xs.length:=(List.getElem?_eq_some_iff.mp h).1;have e:ixN xs.length (j:Int)=some j:=by
  unfold ixN;rw[if_pos (by omega),if_pos (by omega)];simp
 unfold atI;rw[e];exact h
def sf(b:Expr):Prop:=∀ o i,subscripted b false o i=operate [o,i] (getItem o i)
def IxR(X:Cx)(r:R2):Prop:=
 ∀ (value slice:Expr) (pins:PN) (s:Shared) (σ:St) (H:Hp) (x y:V) (v u:Value) (Q:VK),Inv X pins σ H s->RelV x v->RelV y u->r x y H Q ->
  subscripted slice false v u=operate [v,u] (getItem v u)->wpAny (model X.prog X.w) X.A (subscriptTail value slice v u) (EP X pins σ Q) X.xe s
def MtR(X:Cx)(id:String)(r:V->List V->Hp->VK->Prop):Prop:=
 ∀ (pins:PN) (s:Shared) (σ:St) (H:Hp) (x:V) (xs:List V) (v:Value) (us:List Value) (Q:VK),Inv X pins σ H s->RelV x v->Vals xs us->r x xs H Q ->
  wpAny (model X.prog X.w) X.A (call (.builtin id) (v::us)) (EP X pins σ Q) X.xe s
section
variable {X:Cx}{a b:Expr}{ta tb:TE}{pos:Pos}
theorem IxR.or(h:IxR X r)(h':IxR X r'):IxR X (λ x y H Q=>r x y H Q\/r' x y H Q):=by
 intro value slice pins s σ H x y v u Q I rx ry q hs;rcases q with q | q
 ·exact h value slice pins s σ H x y v u Q I rx ry q hs
 ·exact h' value slice pins s σ H x y v u Q I rx ry q hs
theorem aij(hr:IxR X r)(ha:PE X a ta)(hb:PE X b tb)(hs:sf b):PE X (.Subscript a b pos) (tOp r ta tb):=by intro pins s σ H Q I h;exact Subscript_ (ahB ha hb I h λ v u s2 x y H2 I2 rx ry q=>hr a b pins s2 σ H2 x y v u Q I2 rx ry q (hs _ _))
def ahX(K:FG):R2:=λ x y H Q=>∃ p xs i v,x=.ref p/\y=.int i/\SqL K H p xs/\atI xs i=some v/\Q v H
def aiK(K:FG):R2:=λ x y H Q=>∃ p xs i v,x=.ref p/\y=.int i/\SqT K H p xs/\atI xs i=some v/\Q v H
def aiu:R2:=λ x y H Q=>∃ z i c,x=.str z/\y=.int i/\z.length<=sizeLine/\atI z.cps.toList i=some c/\Q (.str ⟨#[c]⟩) H
theorem ack:IxR X (ahX X.K):=by
 intro value slice pins s σ H x y v u Q I rx ry h hs;obtain⟨p,xs,i,z,rfl,rfl,hq,he,q⟩:=h;cases rx;obtain⟨t,rfl⟩:=ry;obtain⟨its,r,pl,hz⟩:=I.list hq;obtain⟨j,h1,h2,h3,h4,h5⟩:=nM he;obtain⟨w,ew,rw'⟩:=r.get h2;have hl:=r.length;have hn:=jL;have fin:EP X pins σ Q w s:=⟨z,H,I,rw',q⟩
 by_cases h0:0<=i
 ·have hj:i.toNat=j:=by rw[seqIndex_of h0 h5] at h1;exact Option.some.inj h1
  exact item_listR pl.isList h0 (by omega) (by rw[hj];simpa using ew) fin hs
 ·have hj:(i+(its.toArray.size:Int)).toNat=j:=by rw[seqIndex_neg (by omega) h4] at h1;rw[List.size_toArray,<- hl];exact Option.some.inj h1
  exact subscriptTail_builtinR (x:=w) pl.isList.typeIs slot_list_getitem.lookup
   (wpAny_getItem_list_neg (Q:=λ r s'=>r=w/\EP X pins σ Q r s') pl.isList (by omega) (by rw[List.size_toArray]<;>omega) (by omega) (by rw[hj];simpa using ew) ⟨rfl,fin⟩) hs
theorem af3:IxR X (aiK X.K):=by
 intro value slice pins s σ H x y v u Q I rx ry h hs;obtain⟨p,xs,i,z,rfl,rfl,hq,he,q⟩:=h;cases rx;obtain⟨t,rfl⟩:=ry;obtain⟨its,r,pl,hz⟩:=I.tuple hq;obtain⟨j,h1,h2,h3,h4,h5⟩:=nM he;obtain⟨w,ew,rw'⟩:=r.get h2;have hl:=r.length;have hn:=jL;have fin:EP X pins σ Q w s:=⟨z,H,I,rw',q⟩;exact subscriptTail_builtinR (x:=w) pl.typeIs slot_tuple_getitem.lookup
  (getItem_tuple (j:=j) (Q:=λ r s'=>r=w/\EP X pins σ Q r s') pl (by omega) (by omega) (by rw[List.size_toArray,<- hl];exact h1) (by simpa using ew) ⟨rfl,fin⟩) hs
theorem agQ:IxR X aiu:=by
 intro value slice pins s σ H x y v u Q I rx ry h hs;obtain⟨z,i,c,rfl,rfl,hz,he,q⟩:=h;obtain⟨t,rfl⟩:=rx;obtain⟨t',rfl⟩:=ry;obtain⟨j,h1,h2,h3,h4,h5⟩:=nM he;have hl:z.cps.toList.length=z.length:=by simp[Str.length]
 rw[hl] at h1 h4 h5;have hn:=jL;exact tail_any (typeIs_str s z t) slot_str_getitem.lookup (getItem_str (c:=c) (by have e1:decide (i < -(2 ^ 63:Int))=false:=decide_eq_false (by omega);have e2:decide (i >= 2 ^ 63)=false:=decide_eq_false (by omega);rw[e1,e2,Bool.or_false]) (by rw[h1];simpa using h2) ⟨.str ⟨#[c]⟩,H,I.tok _,⟨_,rfl⟩,q⟩) hs
def rIx(K:FG):R2:=λ x y H Q=>ahX K x y H Q\/aiK K x y H Q\/aiu x y H Q
theorem bu:IxR X (rIx X.K):=ack.or (af3.or agQ)
theorem u9(its:List Value)(n j:Nat)(u:Value):Obj.mapSeq (·.setIfInBounds j u) {cls:=.type "list",data:=.seq its.toArray n}={cls:=.type "list",data:=.seq (its.set j u).toArray n}:=by simp[Obj.mapSeq]
theorem Inv.lst(I:Inv X pins σ H s)(h:H p=some (.lst xs)) :
  ∃ (its:List Value) (n:Nat),Vals xs its/\s.heap.get? p=some {cls:=.type "list",data:=.seq its.toArray n}/\xs.length<=sizeLine:=by
 obtain⟨z,its,n,r,e⟩:=I.hok p _ h;exact⟨its,n,r,e,z⟩
theorem Inv.aeF{xs ys:List V}{its its':List Value}{n n':Nat}(I:Inv X pins σ H s)(h:H p=some (.lst xs))
  (ho:s.heap.get? p=some {cls:=.type "list",data:=.seq its.toArray n})(hf:f {cls:=.type "list",data:=.seq its.toArray n}={cls:=.type "list",data:=.seq its'.toArray n'})(r:Vals ys its')(hz:ys.length<=sizeLine)(t:Nat) :
  Inv X pins σ (upd H p (.lst ys)) {s with heap:=s.heap.update p f,toks:=t}:=by
 have e:(s.heap.update p f).get? p=some {cls:=.type "list",data:=.seq its'.toArray n'}:=by rw[Heap.get?_update_self f ho (by rw[hf]<;>rfl),hf]
 refine I.write (x:=p) (e:=p) (by rw[h];trivial) (.inl rfl) (λ b u hb q=>(Heap.get?_update_other _ _ (Ne.symm hb)).trans q) ⟨_,e⟩ ?_;exact⟨hz,its',n',r,e⟩
def ahp:V->V->V->Hp->(Hp->Prop)->Prop:=λ o i v H Q=>∃ p xs k j,o=.ref p/\i=.int k/\H p=some (.lst xs)/\ixN xs.length k=some j/\Q (upd H p (.lst (xs.set j v)))
theorem set_list:agU X ahp:=by
 intro pins s σ H o i v ov iv u Q I ro ri rv h;obtain⟨p,xs,k,j,rfl,rfl,hp,hj,q⟩:=h;cases ro;obtain⟨t,rfl⟩:=ri;obtain⟨its,n,r,ho,hz⟩:=I.lst hp;obtain⟨h1,h2,h3,h4⟩:=xl hj;have hl:=r.length;have hn:=jL;have I':Inv X pins σ (upd H p (.lst (xs.set j v))) {s with heap:=s.heap.update p (Obj.mapSeq (·.setIfInBounds j u))}:=
  I.aeF hp ho (u9 its n j u) (r.set rv j) (by rw[List.length_set];exact hz) s.toks
 by_cases h0:0<=k
 ·have hk:k.toNat=j:=by rw[seqIndex_of h0 h4] at h1;exact Option.some.inj h1
  exact W.ki_setAt ho h0 (by omega) (by rw[List.size_toArray,<- hl];exact h4) (by rw[hk];exact⟨_,I',q⟩)
 ·have hk:(k+(its.toArray.size:Int)).toNat=j:=by rw[seqIndex_neg (by omega) h3] at h1;rw[List.size_toArray,<- hl];exact Option.some.inj h1
  exact W.ki_setBack ho (by omega) (by rw[List.size_toArray,<- hl];exact h3) (by omega) (by rw[hk];exact⟨_,I',q⟩)
theorem pI(lo hi:Option Int)(n:Nat):(sliceBounds lo hi none n).1=((HT.sIx n 0 lo:Nat):Int)/\(sliceBounds lo hi none n).2.1=((HT.sIx n n hi:Nat):Int)/\(sliceBounds lo hi none n).2.2=1:=by
 refine⟨?_,?_,rfl⟩
 ·cases lo with
  | none=>simp[sliceBounds,HT.sIx]
  | some i =>
   simp only[sliceBounds,HT.sIx,Option.getD_none,show(1:Int) > 0 by decide,if_true]
   by_cases h:i<0
   ·simp only[h,if_true]<;>omega
   ·simp only[h,if_false]<;>omega
 ·cases hi with
  | none=>simp[sliceBounds,HT.sIx]
  | some i =>
   simp only[sliceBounds,HT.sIx,Option.getD_none,show(1:Int) > 0 by decide,if_true]
   by_cases h:i<0
   ·simp only[h,if_true]<;>omega
   ·simp only[h,if_false]<;>omega
theorem ow(its:List Value)(lo hi:Option Int):slicePick its.toArray lo hi none=((its.drop (HT.sIx its.length 0 lo)).take (HT.sIx its.length its.length hi-HT.sIx its.length 0 lo)).toArray:=by obtain⟨h1,h2,h3⟩:=pI lo hi its.toArray.size;unfold slicePick;rw[h1,h2,h3];simp only[sliceRange_one,pick_run,List.size_toArray]<;>rfl
def ais(K:FG):V->Option Int->Option Int->Hp->VK->Prop:=λ x lo hi H Q=>∃ a xs,x=.ref a/\SqL K H a xs/\∀ p,H p=none->Q (.ref p) (upd H p (.lst (xB xs lo hi)))
theorem qF:SlR X (ais X.K):=by intro pins s σ H x v vl vu lo hi sl Q I rx hs pl pu h;obtain⟨a,xs,rfl,hx,q⟩:=h;cases rx;obtain⟨its,r,ht,hz⟩:=I.list hx;have hlen:=r.length;refine⟨"list",_,slot_list_getitem.lookup,ht.isList.typeIs,?_⟩;refine wpAny_getItem_list_slice ht.isList hs pl pu .none (by simp) ?_ (by rw[List.size_toArray]<;>omega);rw[ow,<- hlen];refine⟨.ref s.heap.objs.size,_,I.laid (t':=s.toks) (o:=.lst (xB xs lo hi)) (λ b ob q=>Heap.get?_push_of_some _ q) (Nat.le_refl _) ?_,rfl,q _ (I.hok.fresh (Nat.le_refl _))⟩;exact⟨Nat.le_trans (kQ xs lo hi) hz,_,0,(r.drop (HT.sIx xs.length 0 lo)).take (HT.sIx xs.length xs.length hi-HT.sIx xs.length 0 lo),Heap.get?_push_size _ rfl⟩
def lL:V->Bool
 | .non=>true
 | .bl _=>true
 | .int _=>true
 | .str _=>true
 | _=>false
def eqV:V->V->Bool
 | .non,.non=>true
 | .bl a,.bl b=>a==b
 | .bl a,.int b=>(if a then 1 else 0)==b
 | .int a,.bl b=>a==(if b then 1 else 0)
 | .int a,.int b=>a==b
 | .str a,.str b=>a==b
 | _,_=>false
theorem agx(ry:RelV y u)(rx:RelV x v)(fy:lL y=true)(fx:lL x=true):SeqAt.EqAt A s u v (eqV y x):=by
 cases y with
 | non =>
  cases ry;cases x with
  | non=>cases rx;exact SeqAt.EqAt.same _
  | bl b=>cases rx;exact SeqAt.EqAt.none_bool b
  | int b=>obtain⟨t,rfl⟩:=rx;exact SeqAt.EqAt.none_int b t
  | str b=>obtain⟨t,rfl⟩:=rx;exact SeqAt.EqAt.none_str b t
  | _=>exact absurd (show false=true from fx) Bool.false_ne_true
 | bl a =>
  cases ry;cases x with
  | non=>cases rx;exact SeqAt.EqAt.bool_none a
  | bl b=>cases rx;exact SeqAt.EqAt.bool_bool a b
  | int b=>obtain⟨t,rfl⟩:=rx;exact SeqAt.EqAt.bool_int a b t
  | str b=>obtain⟨t,rfl⟩:=rx;exact SeqAt.EqAt.bool_str a b t
  | _=>exact absurd (show false=true from fx) Bool.false_ne_true
 | int a =>
  obtain⟨t',rfl⟩:=ry;cases x with
  | non=>cases rx;exact SeqAt.EqAt.int_none a t'
  | bl b=>cases rx;exact SeqAt.EqAt.int_bool a t' b
  | int b=>obtain⟨t,rfl⟩:=rx;exact SeqAt.EqAt.int_int a t' b t
  | str b=>obtain⟨t,rfl⟩:=rx;exact SeqAt.EqAt.int_str a t' b t
  | _=>exact absurd (show false=true from fx) Bool.false_ne_true
 | str a =>
  obtain⟨t',rfl⟩:=ry;cases x with
  | non=>cases rx;exact SeqAt.EqAt.str_none a t'
  | bl b=>cases rx;exact SeqAt.EqAt.str_bool a t' b
  | int b=>obtain⟨t,rfl⟩:=rx;exact SeqAt.EqAt.str_int a t' b t
  | str b=>obtain⟨t,rfl⟩:=rx;exact SeqAt.EqAt.str_str a t' b t
  | _=>exact absurd (show false=true from fx) Bool.false_ne_true
 | _=>exact absurd (show false=true from fy) Bool.false_ne_true
def eqU(x:V)(u:Value):Bool:=match u with
 | .none=>eqV .non x
 | .bool b=>eqV (.bl b) x
 | .int i _=>eqV (.int i) x
 | .str z _=>eqV (.str z) x
 | _=>false
theorem abA(r:RelV y u)(f:lL y=true):eqU x u=eqV y x:=by
 cases y with
 | non=>cases r;rfl
 | bl b=>cases r;rfl
 | int i=>obtain⟨t,rfl⟩:=r;rfl
 | str z=>obtain⟨t,rfl⟩:=r;rfl
 | _=>exact absurd (show false=true from f) Bool.false_ne_true
theorem qW:∀ {xs:List V} {us:List Value},Vals xs us->xs.all lL=true->us.any (eqU x)=xs.any λ y=>eqV y x
 | _,_,.nil,_=>rfl
 | y::xs,u::us,.cons r t,f=>by rw[List.all_cons,Bool.and_eq_true] at f;rw[List.any_cons,List.any_cons,abA r f.1,qW t f.2]
theorem oy(rx:RelV x v)(fx:lL x=true):∀ {xs:List V} {us:List Value},Vals xs us->xs.all lL=true->∀ u∈us,SeqAt.EqAt A s u v (eqU x u)
 | _,_,.nil,_=>λ u hu=>by cases hu
 | y::xs,u::us,.cons r t,f=>λ u' hu=>by
  rw[List.all_cons,Bool.and_eq_true] at f;rcases List.mem_cons.mp hu with rfl | hu
  ·rw[abA r f.1];exact agx r rx f.1 fx
  ·exact oy rx fx t f.2 u' hu
def inV(x:V)(xs:List V):Bool:=xs.any λ y=>eqV y x
def rIn(K:FG)(neg:Bool):R2:=λ x y H Q=>∃ p xs,y=.ref p/\(SqL K H p xs\/SqT K H p xs)/\lL x=true/\xs.all lL=true/\Q (.bl (if neg then !inV x xs else inV x xs)) H
theorem wg:OpR X (compareOp .In) (rIn X.K false):=by
 intro pins s σ H x y v u Q I rx ry h;obtain⟨p,xs,rfl,hq,fx,fs,q⟩:=h;cases ry;rcases hq with hq | hq
 ·obtain⟨its,r,pl,hz⟩:=I.list hq;refine SeqAt.in_listAt (eqU x) pl.isList (λ w hw=>oy rx fx r fs w (by simpa using hw)) ⟨.bl _,H,I,rfl,?_⟩;rw[show its.toArray.any (eqU x)=its.any (eqU x) by simp,qW r fs];exact q
 ·obtain⟨its,r,pl,hz⟩:=I.tuple hq;refine SeqAt.in_tupleAt (eqU x) pl (λ w hw=>oy rx fx r fs w (by simpa using hw)) ⟨.bl _,H,I,rfl,?_⟩;rw[show its.toArray.any (eqU x)=its.any (eqU x) by simp,qW r fs];exact q
theorem eO:eP X (.type "list") (λ xs H Q=>∃ p ys,xs=[.ref p]/\(SqL X.K H p ys\/SqT X.K H p ys)/\∀ l,H l=none->Q (.ref l) (upd H l (.lst ys))):=by
 intro pins s σ H xs us Q I r h;obtain⟨p,ys,rfl,hq,q⟩:=h;obtain⟨u,rfl,rx⟩:=vals1 r;cases rx;have fin:∀ (its:List Value),Vals ys its->ys.length<=sizeLine->∀ (h':Heap) (c':Nat),(∀ b o',s.heap.get? b=some o'->h'.get? b=some o') ->
   h'.get? s.heap.objs.size=some {cls:=.type "list",dict:=none,data:=.seq its.toArray c',slots:=#[]}->EP X pins σ Q (.ref s.heap.objs.size) {s with heap:=h'}:=λ its r' hz h' c' kp e =>
  ⟨.ref s.heap.objs.size,_,I.laid (t':=s.toks) kp (Nat.le_refl _) (show cF X.prog X.w _ h' _ (.lst ys) from⟨hz,its,c',r',e⟩),rfl,q _ (I.hok.fresh (Nat.le_refl _))⟩
 rcases hq with hq | hq
 ·obtain⟨its,r',pl,hz⟩:=I.list hq;have hlen:=r'.length;obtain⟨o,ho,hc,n,hd⟩:=pl.isList;exact call_list_seq p (.inl rfl) ho hc hd (λ h' c' kp e=>fin its r' hz h' c' kp e) (by simp only[List.size_toArray]<;>omega)
 ·obtain⟨its,r',pl,hz⟩:=I.tuple hq;have hlen:=r'.length;obtain⟨o,ho,hc,n,hd⟩:=pl;exact call_list_seq p (.inr rfl) ho hc hd (λ h' c' kp e=>fin its r' hz h' c' kp e) (by simp only[List.size_toArray]<;>omega)
def tyV(K:FG)(T:String)(x:V)(H:Hp):Prop:=match x with
 | .str _=>T = "str"
 | .int _=>T = "int"
 | .ref p=>(T = "list" /\ ∃ xs,SqL K H p xs)\/(T = "tuple" /\ ∃ xs,SqT K H p xs) \/
   (T = "dict" /\ ((∃ kvs,H p=some (.dK kvs))\/∃ kvs,H p=some (.dT kvs)))\/(T = "set" /\ ∃ S n,H p=some (.set S n))
 | _=>False
theorem agH(I:Inv X pins σ H s)(r:RelV x v)(ty:tyV X.K T x H) :
  s.TypeIs v T/\∀ a,v=.ref a->∃ ob,s.heap.get? a=some ob/\ob.dict=none:=by
 cases x with
 | str z =>
  obtain⟨t,rfl⟩:=r;cases (show T = "str" from ty);exact⟨typeIs_str s z t,λ _ e=>nomatch e⟩
 | int i =>
  obtain⟨t,rfl⟩:=r;cases (show T = "int" from ty);exact⟨typeIs_int s i t,λ _ e=>nomatch e⟩
 | ref p =>
  cases r;rcases ty with ⟨rfl,xs,hq⟩ | ⟨rfl,xs,hq⟩ | ⟨rfl,hk⟩ | ⟨rfl,S,n,hk⟩
  ·obtain⟨its,_,pl,_⟩:=I.list hq;refine⟨pl.isList.typeIs,λ a e=>?_⟩;cases e;obtain⟨o,n,e,c,hd,_⟩:=pl;exact⟨o,e,hd⟩
  ·obtain⟨its,_,⟨o,h1,h2,h3,_⟩,_⟩:=I.aiO hq;refine⟨⟨o,h1,h2⟩,λ a e=>?_⟩;cases e;exact⟨o,h1,h3⟩
  ·have z:∃ o,s.heap.get? p=some o/\o.ExactDict:=by
    rcases hk with ⟨kvs,hk⟩ | ⟨kvs,hk⟩
    ·obtain⟨_,_,_,_,o,_,_,e,ex,_⟩:=I.hok p _ hk;exact⟨o,e,ex⟩
    ·obtain⟨_,_,_,_,o,_,_,e,ex,_⟩:=I.hok p _ hk;exact⟨o,e,ex⟩
   obtain⟨o,e,ex⟩:=z;refine⟨⟨o,e,ex.1⟩,λ a e2=>?_⟩;cases e2;exact⟨o,e,ex.2.1⟩
  ·obtain⟨o,_,_,_,e,ex,_⟩:=I.hok p _ hk;refine⟨⟨o,e,ex.1⟩,λ a e2=>?_⟩;cases e2;exact⟨o,e,ex.2.1⟩
 | _=>exact False.elim ty
def tBM(K:FG)(T:String)(r:V->List V->Hp->VK->Prop)(to:TE)(t:TA):TE:=λ σ H Q=>to σ H λ x H1=>tyV K T x H1/\t σ H1 λ xs H2=>r x xs H2 Q
variable {o e:Expr}{es:List Expr}{to:TE}{t:TA}{name:Str}{apos cpos:Pos}{T id:String}{r:V->List V->Hp->VK->Prop}
theorem zt(pa:PlainAttrs T)(slot:Slot T name id)(hty:typeOf (.builtin id)=pure (.type "method_descriptor"))(hm:MtR X id r)(ho:PE X o to)(ha:PA X (e::es) t)
  (hbase:attributeBase o name X.env (eval o X.env)=eval o X.env:=by rfl)
  (hfew:((backTo cpos (starEach (e::es) X.env)).all (λ x=>!x.1)&&(backToKw cpos (keywordEach [] X.env)).all (λ x=>x.1.isSome)
   && decide ((e::es).length+([]:List Keyword).length+(if ([]:List Keyword).isEmpty then 0 else 1)<30))=true:=by rfl)
  (hline:(apos.endLine==cpos.line)=true:=by rfl)(hs:starEach (e::es) X.env=(false,eval e X.env)::starEach es X.env:=by rfl)(hplain:(backTo cpos (starEach es X.env)).any (·.1)=false:=by rfl) :
  PE X (.Call (.Attribute o name apos) (e::es) [] cpos) (tBM X.K T r to t):=by
 intro pins s σ H Q I h;refine wpAny_Call_method_late hbase hfew hline rfl (thn (ho pins s σ H _ I h) λ v s1 hq27=>?_);obtain⟨x,H1,I1,r1,ty,q1⟩:=hq27;obtain⟨h1,h2⟩:=agH I1 r1 ty;refine⟨T,id,pa,slot,hty,h1,h2,?_⟩;have hA:=ha cpos pins s1 σ H1 _ I1 q1;rw[hs] at hA ⊢;refine Calls.callWith_builtin (by show(false || (backTo cpos (starEach es X.env)).any (·.1))=false;rw[hplain]<;>rfl) (Calls.evalArgs_plain ?_);exact thn hA λ us s2 ⟨vs,H2,I2,r2,q2⟩=>hm pins s2 σ H2 x vs v us Q I2 r1 r2 q2
end
def MtM(X:Cx)(id:String)(r:V->List V->Hp->VK->Prop):Prop:=
 ∀ (pins:PN) (s:Shared) (σ:St) (H:Hp) (x:V) (xs:List V) (v:Value) (us:List Value) (Q:VK),Inv X pins σ H s->RelV x v->Vals xs us->r x xs H Q ->
  wpAny (model X.prog X.w) X.A (call (.builtin id) (v::us)) (EP X pins σ Q) X.xe s
theorem Vals.one:∀ {x:V} {us:List Value},Vals [x] us->∃ u,us=[u]/\RelV x u
 | _,_,.cons r .nil=>⟨_,rfl,r⟩
theorem Vals.rep(h:Vals xs us):∀ k:Nat,Vals (List.replicate k xs).flatten (List.replicate k us).flatten
 | 0=>.nil
 | k+1=>by rw[List.replicate_succ,List.replicate_succ,List.flatten_cons,List.flatten_cons];exact Vals.append h (Vals.rep h k)
theorem foldl_rep(its:List Value):∀ (k:Nat) (acc:List Value),
  List.foldl (λ x1 x2=>x1++x2) acc.toArray (List.replicate k its.toArray)=(acc++(List.replicate k its).flatten).toArray
 | 0,acc=>by simp
 | k+1,acc=>by
  have e:acc.toArray++its.toArray=(acc++its).toArray:=by simp
  have e2:(acc++its)++(List.replicate k its).flatten=acc++(List.replicate (k+1) its).flatten:=by rw[List.replicate_succ,List.flatten_cons,List.append_assoc]
  rw[<- e2,<- foldl_rep its k (acc++its),<- e,List.replicate_succ,List.foldl_cons]
theorem Inv.ajn{its its':List Value}{n:Nat}{t':Nat}(I:Inv X pins σ H s)(hH:H l=some (.lst xs))
  (e:s.heap.get? l=some {cls:=.type "list",data:=.seq its.toArray n})(hf:f its.toArray=its'.toArray)(hv:Vals ys its')(hz:ys.length<=sizeLine) :
  Inv X pins σ (upd H l (.lst ys)) {s with heap:=s.heap.update l (Obj.mapSeq f),toks:=t'}:=by
 have q:=PySem.IsL.update e f;rw[hf] at q;refine I.write (x:=l) (e:=l) (by rw[hH];exact trivial) (.inl rfl) (λ b' u hb hu=>(Heap.get?_update_other s.heap (Obj.mapSeq f) (Ne.symm hb)).trans hu) ⟨_,q⟩ ?_;exact⟨hz,its',_,hv,q⟩
theorem Inv.aiw(I:Inv X pins σ H s)(hv:Vals ys its)(hz:ys.length<=sizeLine) :
  Inv X pins σ (upd H s.heap.objs.size (.lst ys)) {s with heap:=s.heap.push {cls:=.type "list",data:=.seq its.toArray},toks:=t'}:=
 I.laid (λ _ _ q=>Heap.get?_push_of_some _ q) (Nat.le_refl _) ⟨hz,its,0,hv,Heap.get?_push_size _ rfl⟩
theorem Inv.fresh(I:Inv X pins σ H s):H s.heap.objs.size=none:=I.hok.fresh (Nat.le_refl _)
theorem Inv.ajm(I:Inv X pins σ H s)(hH:H l=some (.lst xs)):xs.length<=sizeLine/\∃ (its:List Value) (n:Nat),Vals xs its/\xs.length=its.length/\s.heap.get? l=some {cls:=.type "list",data:=.seq its.toArray n}:=by obtain⟨z,its,n,r,e⟩:=I.hok l _ hH;exact⟨z,its,n,r,r.length,e⟩
theorem aaj{n:Nat}(h:n<=sizeLine):Builtin.List.listTooLong n=false:=by
 unfold Builtin.List.listTooLong;exact decide_eq_false (by omega)
def ace:V->List V->Hp->VK->Prop:=λ x vs H Q=>∃ l xs y,x=.ref l/\vs=[y]/\H l=some (.lst xs)/\xs.length<sizeLine/\Q .non (upd H l (.lst (xs++[y])))
theorem xE:MtM X "list.append" ace:=by intro pins s σ H x vs v us Q I rx rv h;obtain⟨l,xs,y,rfl,rfl,hH,hz,q⟩:=h;cases rx;obtain⟨u,rfl,ru⟩:=rv.one;obtain⟨z,its,n,r,hl,e⟩:=I.ajm hH;refine call_meets F.slot_list_append ⟨_,e,rfl⟩ F.entry_list_append (F.args_list_append_2 _ _) (PySem.list_append l its.toArray n u (by rw[List.size_toArray];omega)) ⟨e,?_⟩;refine⟨.non,_,I.ajn (its':=its++[u]) hH e (by simp) (r.append (.cons ru .nil)) ?_,rfl,q⟩;rw[List.length_append,List.length_singleton];omega
theorem len_rep(xs:List α)(k:Nat):(List.replicate k xs).flatten.length=k * xs.length:=by
 induction k with
 | zero=>simp
 | succ k ih=>rw[List.replicate_succ,List.flatten_cons,List.length_append,ih,Nat.succ_mul,Nat.add_comm]
end L2
namespace Att
open PySem PySem.W PySem.Calls PyProof.Rows
theorem kX:∀ (ns:List Int) (vs:List Value),WellAll P h vs (ns.map WData.int)->IntsAre vs ns:=by
 intro ns
 induction ns with
 | nil =>
  intro vs w;rw[List.map_nil] at w;cases w;exact .nil
 | cons n ns ih =>
  intro vs w;rw[List.map_cons] at w;cases w with
  | cons a b =>
   cases a;exact .cons _ _ (ih _ b)
theorem yg{l:OpenLaw}{n:Nat}(hn:l.most=some n){args:List WData}{vals:List Value}
  (hpre:l.row.toRowW.claim.pre args=true)(hwl:WellAll P h vals args) :
  ∃ a vs ns,vals=[Value.ref a]/\args=[WData.list (ns.map WData.int)]/\h.get? a=some {cls:=.type "list",data:=.seq vs.toArray}/\IntsAre vs ns/\ns.length<=n:=by
 have hsh:WShape.hasAll [] args [.list .int]=true:=(pre_splitW hpre).1;have hc:l.pre.holds [] {args:=args}=true:=(pre_splitW hpre).2;obtain⟨d,r,rfl,h1,h2⟩:=hasAllW_cons hsh;obtain rfl:=hasAllW_nil h2;obtain⟨xs,rfl,h3⟩:=hasW_list h1;obtain⟨ns,rfl⟩:=items_int h3;have hlen:ns.length<=n:=by
  unfold OpenLaw.pre at hc;have h4:(WTm.not (.lt (.lit (.int (n:Int))) (.len (.arg 0)))).holds [] {args:=[.list (ns.map .int)]}=true:=by have h4:=(holds_andW hc).1;rw[hn] at h4;exact h4
  have h5:=condW_of h4 (w_not (w_lt w_lit (w_len_list (w_arg rfl))));rw[List.length_map] at h5;refine Nat.le_of_not_lt λ q=>?_;have q':(n:Int)<((ns.length:Nat):Int):=by omega
  first
   | (rw[decide_eq_true q'] at h5;exact absurd h5 (by decide))
   | (simp at h5;omega)
 cases hwl with
 | cons w1 w2 =>
  cases w2;cases w1 with
  | list ho hall=>exact⟨_,_,ns,rfl,rfl,ho,kX ns _ hall,hlen⟩
theorem vM(l:OpenLaw)(args:List WData):l.row.toRowW.claim.post args (.bool true) args=true:=
 postW_of (r:=l.row.toRowW) (X:=(true==true))
  (show WShape.has [] (.bool true) .bool=true by first | rfl | decide | simp[WShape.has,WShape.arms,WShape.armsAll])
  (show(WTm.eq .res (.lit (.bool true))).value [] {args:=args,res:=some (.bool true),after:=args}=some (.bool (true==true)) from w_eq_bool (w_res rfl) w_lit) rfl
theorem qB{l:OpenLaw}{n:Nat}{q:Program}{loose:List Str}{XP:(Str->Option Value)->Heap->Prop}{YP:World->Heap->Prop}{d:DefRec}
  (hn:l.most=some n)(hdf:d.params.defaults=[])
  (call:∀ (w:World) (s₀ s₁:Shared) (mg mb:Str->Option Value) (fa:Addr) (o:Obj) (pm cd doc:Value) (a:Addr) (vs:List Value) (ns:List Int),
   Ground q loose [] XP w s₀ mg mb s₁.heap->YP w s₁.heap ->
   s₁.heap.get? fa=some o->o.data=.func (docDef d.name d.params d.body d.scope pm cd doc)->s₁.heap.CodeRec cd d.name->mg d.name=some (.ref fa) ->
   s₁.heap.get? a=some {cls:=.type "list",data:=.seq vs.toArray}->IntsAre vs ns->ns.length<=n->s₁.gens = #[] ->
   codeAny (model l.prog w) callerA (.call (.ref fa) ⟨[.ref a],[]⟩) (λ r s'=>r=.ok (.ret (.bool true))/\OldK s₁.heap s'.heap/\s'.os=s₁.os/\AllBare s'.gens) s₁) :
  WalkO q loose XP YP l.row.toRowW d [] (λ f vs=>PySem.call f vs):=by
 intro w s₀ s₁ mg mb G Y fa o pm cd doc dV kV ho hd hcd hD hmg hg args vals as hpre hlay hrd hwl hlo;obtain rfl:dV=.none:=Dflts.none hD hdf;obtain rfl:kV=.none:=Dflts.noKw hD;obtain⟨a,vs,ns,rfl,rfl,hobj,hints,hlen⟩:=yg hn hpre hwl;refine enter_call (codeAny_mono (call w s₀ s₁ mg mb fa o pm cd doc a vs ns G Y ho (fd_plain hd) hcd hmg hobj hints hlen hg) λ r s' hq=>?_);obtain⟨rfl,h2,h3,h4⟩:=hq;exact⟨.inl ⟨.bool true,.bool true,[],rfl,λ _=>rfl,.bool true,vM l _,λ _=>⟨List.Pairwise.nil,λ _ hm=>(nomatch hm)⟩⟩,h2,h3,h4⟩
section
variable {prog:Program}{w:World}{A:Around}{E:VP}{s:Shared}{K:Frag}
end
end Att
namespace L2
theorem fY:∀ {vs:List Value} {ns:List Int},IntsAre vs ns->Vals (ns.map V.int) vs
 | _,_,.nil=>.nil
 | _,_,.cons n t h=>.cons ⟨t,rfl⟩ (fY h)
def inClass(s:Stmt)(j:Nat):Stmt:=match s with
 | .ClassDef _ _ _ body _ _ _ _ _ _ _=>body.getD j (.Pass ⟨0,0,0,0⟩)
 | _=>.Pass ⟨0,0,0,0⟩
def aN(s:Stmt):Arguments:=match s with
 | .FunctionDef _ a _ _ _ _ _ _ _ _=>a
 | _=>{posonlyargs:=[],args:=[],vararg:=none,kwonlyargs:=[],kw_defaults:=[],kwarg:=none,defaults:=[]}
def aG(s:Stmt):List Stmt:=match s with
 | .FunctionDef _ _ b _ _ _ _ _ _ _=>b
 | _=>[]
def ai(s:Stmt):Scope:=match s with
 | .FunctionDef _ _ _ _ _ _ sc _ _ _=>sc
 | _=>{kind:=.function,names:=[],isGenerator:=false,isCoroutine:=false}
abbrev CX0:CXT:=λ _ _ _ _ _ _=>False
abbrev E0:XK:=λ _ _ _=>False
theorem aas:Passes CX0 X E0:=λ _ _ _ _ _ _ _ h=>h.elim
structure Fun(K:FG)(x qual:Str)(st:Stmt)(f:Addr)(fd:FuncData):Prop where
 ex:∃ (oc:Value) (od:Option Addr) (kV doc pm:Value) (an:Option Addr) (cdv ct:Value) (osl:Array (Option Value)),
  fd=W.fnOf x qual (aN st) (aG st) (ai st) .none kV doc pm an cdv ct/\K.lookup f=some ⟨oc,od,.func fd,osl⟩/\W.codeIn K cdv qual=true
 kp:W.keepIn K (.ref f)=true
section
variable {P:Program}{w:World}{K:FG}{mg:Str->Option Value}{base:Heap}
theorem Fun.ok{x qual:Str}{st:Stmt}{N ps:List Str}{k:Nat}{sp:Sp}(F:Fun K x qual st f fd)(S:aP N ps (ai st))(len:∀ vs H Q E,sp vs H Q E->vs.length=ps.length)
  (hbody:∀ (cdv:Value) (A:Around) (outer:List Env) (s:Shared) (H:Hp) (vs:List V) (Q:VK) (E:XK),cY k (A.deeper (envOfC qual (ai st) s.heap.objs.size f cdv))->sp vs H Q E ->
   ∃ t,PSs (qT CX0 P w K mg base N qual (ai st) f cdv A outer s H E).nox (aG st) t/\t {nx:=λ _ H'=>Q .non H',rt:=Q} (start N vs) H):bW P w K mg base CX0 (k+1) f fd ps sp:=by
 obtain⟨oc,od,kV,doc,pm,an,cdv,ct,osl,rfl,lk,hcd⟩:=F.ex;refine zZ lk hcd S len λ A outer s H vs Q E hr hsp=>?_;obtain⟨t,h,q⟩:=hbody cdv A outer s H vs Q E hr hsp;exact⟨t,h.nox,q⟩
theorem Fun.binds{x qual:Str}{st:Stmt}{ps:List Str}(F:Fun K x qual st f fd)
  (h:∀ (kV doc pm:Value) (an:Option Addr) (cdv ct:Value) (us:List Value),us.length=ps.length->bindArgs (W.fnOf x qual (aN st) (aG st) (ai st) .none kV doc pm an cdv ct) ⟨us,[]⟩=pure (ps.zip us)):Binds K fd ps []:=by
 obtain⟨oc,od,kV,doc,pm,an,cdv,ct,osl,rfl,lk,hcd⟩:=F.ex;exact .all (h kV doc pm an cdv ct)
theorem wZ{x qual:Str}{st:Stmt}{oc:Value}{od an:Option Addr}{osl:Array (Option Value)}{kV doc pm cdv ct:Value}(l:K.lookup f=some ⟨oc,od,.func (W.fnOf x qual (aN st) (aG st) (ai st) .none kV doc pm an cdv ct),osl⟩)
  (c:W.codeIn K cdv qual=true)(k:W.keepIn K (.ref f)=true):Fun K x qual st f (W.fnOf x qual (aN st) (aG st) (ai st) .none kV doc pm an cdv ct):=⟨⟨oc,od,kV,doc,pm,an,cdv,ct,osl,rfl,l,c⟩,k⟩
end
theorem lB(hr:cY k A):A.units+1<cLine:=Nat.lt_of_le_of_lt (Nat.add_le_add_left (by decide:1<=64) _) hr.units
theorem ik{A B:Prop}(h:B):if false=true then A else B:=by rw[if_neg Bool.false_ne_true];exact h
theorem fo{A B:Prop}(h:A):if true=true then A else B:=by rw[if_pos rfl];exact h
def ajx(H H':Hp):Prop:=∀ b o,H b=some o->H' b=some o
section
variable {κ:Type}[DecidableEq κ]
def qw(kvs:List (κ×V))(k:κ):Option V:=(kvs.find? λ kv=>decide (kv.1=k)).map (·.2)
def putK(kvs:List (κ×V))(k:κ)(v:V):List (κ×V):=
 if (kvs.any λ kv=>decide (kv.1=k))=true then kvs.map (λ kv=>if kv.1=k then (kv.1,v) else kv) else kvs++[(k,v)]
def ajr(kvs:List (κ×V))(k:κ):List (κ×V):=kvs.filter λ kv=>decide (kv.1≠k)
theorem js{r:List (κ×V)}{k:κ}(e:p.1=k):qw (p::r) k=some p.2:=by simp[qw,List.find?_cons,e]
theorem jD{r:List (κ×V)}{k:κ}(e:¬ p.1=k):qw (p::r) k=qw r k:=by simp[qw,List.find?_cons,e]
theorem tw(k:κ):∀ kvs:List (κ×V),(kvs.any λ kv=>decide (kv.1=k))=(qw kvs k).isSome
 | []=>rfl
 | p::r=>by
  rw[List.any_cons]
  by_cases e:p.1=k
  ·simp only[js e,decide_eq_true e,Bool.true_or,Option.isSome_some]
  ·rw[jD e,decide_eq_false e,Bool.false_or];exact tw k r
theorem gE(kvs:List (κ×V))(k:κ)(v:V):(putK kvs k v).length<=kvs.length+1:=by
 unfold putK
 split
 ·rw[List.length_map];omega
 ·rw[List.length_append,List.length_cons,List.length_nil];omega
theorem oh.j8(r:oh o u):o.isSome=u.isSome:=by
 cases o with
 | none=>cases u with
  | none=>rfl
  | some _=>exact(show False from r).elim
 | some _=>cases u with
  | none=>exact(show False from r).elim
  | some _=>rfl
theorem oh.getD(r:oh o u)(rd:RelV d d'):RelV (o.getD d) (u.getD d'):=by
 cases o with
 | none=>cases u with
  | none=>exact rd
  | some _=>exact(show False from r).elim
 | some _=>cases u with
  | none=>exact(show False from r).elim
  | some _=>exact r
theorem KV.val(r:KV kvs vs)(k:κ):oh (qw kvs k) (valueAt vs k):=by
 unfold KV at r
 induction r with
 | nil=>exact True.intro
 | @cons p q ps qs h t ih =>
  obtain⟨h1,h2⟩:=h
  by_cases e:p.1=k
  ·have e':q.1=k:=h1.symm.trans e;have b:valueAt (q::qs) k=some q.2:=by simp[valueAt,List.find?_cons,e']
   rw[js e,b];exact h2
  ·have e':¬ q.1=k:=λ z=>e (h1.trans z);have b:valueAt (q::qs) k=valueAt qs k:=by simp[valueAt,List.find?_cons,e']
   rw[jD e,b];exact ih
theorem KV.any(r:KV kvs vs)(k:κ):(kvs.any λ kv=>decide (kv.1=k))=vs.any λ kv=>decide (kv.1=k):=by
 unfold KV at r
 induction r with
 | nil=>rfl
 | cons h t ih=>rw[List.any_cons,List.any_cons,ih,h.1]
theorem KV.ahL(r:KV kvs vs)(k:κ)(ry:RelV y u) :
  KV (kvs.map λ kv=>if kv.1=k then (kv.1,y) else kv) (vs.map λ kv=>if kv.1=k then (kv.1,u) else kv):=by
 unfold KV at r ⊢
 induction r with
 | nil=>exact .nil
 | @cons p q ps qs h t ih =>
  rw[List.map_cons,List.map_cons];refine .cons ?_ ih;obtain⟨h1,h2⟩:=h
  by_cases e:p.1=k
  ·rw[if_pos e,if_pos (h1.symm.trans e)];exact⟨h1,ry⟩
  ·rw[if_neg e,if_neg (λ z=>e (h1.trans z))];exact⟨h1,h2⟩
theorem KV.put(r:KV kvs vs)(k:κ)(ry:RelV y u):KV (putK kvs k y) (stored vs k u):=by
 unfold putK stored;rw[r.any k]
 by_cases e:(vs.any λ kv=>decide (kv.1=k))=true
 ·rw[if_pos e,if_pos e];exact r.ahL k ry
 ·rw[if_neg e,if_neg e];exact Paired.snoc r ⟨rfl,ry⟩
theorem KV.length(r:KV kvs vs):kvs.length=vs.length:=Paired.length r
end
theorem uZ(r:RelV (kV k) u):(ba P w).is k u=true:=by
 cases k with
 | inl i=>obtain⟨t,e⟩:=(show ∃ t,u=Value.int i t from r);subst e;exact qC P w i t
 | inr x=>obtain⟨t,e⟩:=(show ∃ t,u=Value.str x t from r);subst e;exact qE P w x t
theorem jO:∀ {ks:List Key} {us:List Value},Vals (ks.map kV) us->ItemsAre (ba P w) ks us
 | [],_,r=>by rw[List.map_nil] at r;cases r;exact .nil
 | k::ks,_,r=>by
  rw[List.map_cons] at r;cases r with
  | cons h t=>exact .cons (uZ h) (jO t)
abbrev KT(H:Hp):List (List Key×V)->List (List Key×Addr×Value)->Prop:=Paired λ p q=>p.1=q.1/\H q.2.1=some (.tup (p.1.map kV))/\RelV p.2 q.2.2
theorem KT.val(r:KT H kvs xs)(k:List Key):oh (qw kvs k) ((atKey xs k).map (·.2)):=by
 induction r with
 | nil=>exact True.intro
 | @cons p q ps qs h t ih =>
  obtain⟨h1,_,h2⟩:=h
  by_cases e:p.1=k
  ·have e':q.1=k:=h1.symm.trans e;have b:atKey (q::qs) k=some q.2:=by simp[atKey,List.find?_cons,e']
   rw[js e,b];exact h2
  ·have e':¬ q.1=k:=λ z=>e (h1.trans z);have b:atKey (q::qs) k=atKey qs k:=by simp[atKey,List.find?_cons,e']
   rw[jD e,b];exact ih
theorem KT.ahL(r:KT H kvs xs)(k:List Key)(ry:RelV y u) :
  KT H (kvs.map λ kv=>if kv.1=k then (kv.1,y) else kv) (xs.map (putAt k u)):=by
 induction r with
 | nil=>exact .nil
 | @cons p q ps qs h t ih =>
  rw[List.map_cons,List.map_cons];refine .cons ?_ ih;obtain⟨h1,h2,h3⟩:=h;unfold putAt
  by_cases e:p.1=k
  ·rw[if_pos e,if_pos (h1.symm.trans e)];exact⟨h1,h2,ry⟩
  ·rw[if_neg e,if_neg (λ z=>e (h1.trans z))];exact⟨h1,h2,h3⟩
theorem KT.put(r:KT H kvs xs)(k:List Key)(hb:H b=some (.tup (k.map kV)))(ry:RelV y u) :
  KT H (putK kvs k y) (storedH xs k b u):=by
 have e:(kvs.any λ kv=>decide (kv.1=k))=(atKey xs k).isSome:=by rw[tw,(r.val k).j8,Option.isSome_map]
 unfold putK storedH;rw[e]
 by_cases q:(atKey xs k).isSome=true
 ·rw[if_pos q,if_pos q];exact r.ahL k ry
 ·rw[if_neg q,if_neg q];exact Paired.snoc r ⟨rfl,hb,ry⟩
theorem KT.keeps(r:KT H kvs xs)(ht:∀ b ys,H b=some (.tup ys)->H' b=some (.tup ys)):KT H' kvs xs:=
 Paired.gF r λ _ _ z=>⟨z.1,ht _ _ z.2.1,z.2.2⟩
theorem agl(ok:HOk P w H h)(e:Rd H a u):cF P w H h a u:=e.ok ok
theorem xO(ok:HOk P w H h)(e:Rd H a (.dK kvs)):kvs.length<=sizeLine/\(a==sysModules)=false/\∃ vs,KV kvs vs/\h.DictOf (ba P w) a vs:=
 show cF P w H h a (.dK kvs) from agl ok e
theorem agt(ok:HOk P w H h)(e:H a=some (.dK kvs)):kvs.length<=sizeLine/\(a==sysModules)=false/\∃ vs,KV kvs vs/\h.DictOf (ba P w) a vs:=xO ok (.inl e)
theorem aa7(ok:HOk P w H h)(e:H a=some (.tup (ks.map kV))):(tupleKind (ba P w)).is h ks a:=by obtain⟨_,its,r,o,h1,h2,_,n,h3⟩:=(show cF P w H h a (.tup (ks.map kV)) from ok a _ e);exact⟨o,its.toArray,n,h1,h2,h3,by simpa using jO r⟩
theorem yP(ok:HOk P w H h)(e:Rd H a (.dT kvs)):kvs.length<=sizeLine/\(a==sysModules)=false /\
  ∃ xs,KT H kvs xs/\h.DictOfH (tupleKind (ba P w)) a xs:=by
 obtain⟨z,y,xs,r,o,es,ep,h1,h2,h3,h4,h5⟩:=(show cF P w H h a (.dT kvs) from agl ok e);refine⟨z,y,xs,r,o,es,ep,h1,h2,h3,h4,λ x hx=>?_,h5⟩;have all:∀ {l:List (List Key×V)} {m:List (List Key×Addr×Value)},KT H l m->∀ x∈m,(tupleKind (ba P w)).is h x.1 x.2.1:=by
  intro l m q
  induction q with
  | nil=>intro x hx;exact nomatch hx
  | @cons p q ps qs hq t ih =>
   intro x hx;rcases List.mem_cons.mp hx with e | hx
   ·subst e;exact aa7 ok (by rw[<- hq.1];exact hq.2.1)
   ·exact ih x hx
 exact all r x hx
theorem ag2(ok:HOk P w H h)(e:H a=some (.dT kvs)):kvs.length<=sizeLine/\(a==sysModules)=false /\
  ∃ xs,KT H kvs xs/\h.DictOfH (tupleKind (ba P w)) a xs:=yP ok (.inl e)
def ajy(H:Hp)(a:Addr)(y:V)(r:Option V):Prop:=
 (∃ kvs k,Rd H a (.dK kvs)/\y=kV k/\r=qw kvs k)\/∃ kvs k b,Rd H a (.dT kvs)/\y=.ref b/\H b=some (.tup (k.map kV))/\r=qw kvs k
def aiq(H:Hp)(a:Addr)(y v:V)(H':Hp):Prop:=
 (∃ kvs k,H a=some (.dK kvs)/\y=kV k/\kvs.length<sizeLine/\H'=upd H a (.dK (putK kvs k v))) \/
 ∃ kvs k b,H a=some (.dT kvs)/\y=.ref b/\H b=some (.tup (k.map kV))/\kvs.length<sizeLine/\H'=upd H a (.dT (putK kvs k v))
section
variable {X:Cx}{pins:PN}{σ:St}{H:Hp}{s:Shared}{a:Addr}{y v:V}{u r:Value}{o:Option V}{A:Around}{E:VP}
theorem Inv.big(I:Inv X pins σ H s):sysModules<s.heap.objs.size:=by have h:mainGlobals<s.heap.objs.size:=(I.mod.glob.keeps I.bk).lt;exact Nat.lt_trans (by decide) h
theorem rK(I:Inv X pins σ H s)(mu:Mut (H a))(hs:Heap.SameBut a s.heap h')(he:∃ q,h'.get? a=some q)(new:cF X.prog X.w (upd H a ob) h' a ob) :
  Inv X pins σ (upd H a ob) {s with heap:=h',toks:=t'}:=
 I.write (x:=a) (e:=a) mu (.inl rfl) (λ b q hb z=>(hs.2 b hb).trans z) he new
theorem aaK(z:kvs.length<=sizeLine)(hd:(a==sysModules)=false)(rel:KV kvs vs)(dd:h'.DictOf (ba P w) a vs) :
  cF P w H' h' a (.dK kvs):=⟨z,hd,vs,rel,dd⟩
theorem vD(hu:A.units+1<cLine)(I:Inv X pins σ H s)(g:aiq H a y v H')(ry:RelV y u)(rv:RelV v r)(h:∀ s',Inv X pins σ H' s'->Q () s') :
  wpAny (model X.prog X.w) A (setItem (.ref a) u r) Q E s:=by
 rcases g with ⟨kvs,k,e,ey,l,eH⟩ | ⟨kvs,k,b,e,ey,eb,l,eH⟩
 ·subst ey eH;obtain⟨z,hd,vs,rel,dd⟩:=agt I.hok e;have hz:vs.length<=sizeLine:=by rw[<- rel.length];exact z
  have hl:(putK kvs k v).length<=sizeLine:=by have:=gE kvs k v;omega
  refine wpAny_setItem_pairs (hsz:=hz) (uZ ry) dd λ h' dd' hs=>h _ ?_;have he:∃ q,h'.get? a=some q:=let ⟨q,_,_,hq,_⟩:=dd'; ⟨q,hq⟩;exact rK I (by rw[e];exact True.intro) hs he (aaK hl hd (rel.put k rv) dd')
 ·subst ey eH;cases (show u=Value.ref b from ry);obtain⟨z,hd,xs,rel,dd⟩:=ag2 I.hok e;have hz:xs.length<=sizeLine:=by rw[<- Paired.length rel];exact z
  have hl:(putK kvs k v).length<=sizeLine:=by have:=gE kvs k v;omega
  refine wpAny_setItem_heap (hsz:=hz) (tupleKind_room_in1 hu) (aa7 I.hok eb) dd λ h' dd' hs=>h _ ?_;obtain⟨q,es,ep,hq,h2,h3,h4,_,h5⟩:=dd';refine rK I (by rw[e];exact True.intro) hs ⟨q,hq⟩ ⟨hl,hd,_,(rel.put k eb rv).keeps λ c ys ec=>?_,q,es,ep,hq,h2,h3,h4,h5⟩;rw[aq (uC ec e (λ z=>nomatch z))];exact ec
end
section
variable {X:Cx}{pins:PN}{σ:St}{H:Hp}{s:Shared}{a:Addr}{kvs:List (Key×V)}{k:Key}{u:Value}{A:Around}{E:VP}
end
def agT(i:Expr):Prop:=∀ ov iv,subscripted i false ov iv=operate [ov,iv] (getItem ov iv)
theorem abN{env:Env}{value slice:Expr}{T id:String}
  (hl:typeLookup (.type T) "__getitem__" = pure (some (.builtin id)))(hs:agT slice)
  (h:wpAny (model prog w) A (eval value env) (λ o s₁=>wpAny (model prog w) A (eval slice env) (λ i s₂=>s₂.TypeIs o T/\wpAny (model prog w) A (getItem o i) Q E s₂) E s₁) E s) :
  wpAny (model prog w) A (eval (.Subscript value slice pos) env) Q E s:=by
 refine Subscript_ (wpAny_mono h (λ o s₁ h₁=>wpAny_mono h₁ (λ i s₂ h₂=>?_) λ _ _ x=>x) λ _ _ x=>x);obtain⟨hT,h₂⟩:=h₂;unfold subscriptTail;refine wpAny_bind ?_;rw[getitemInPython_of_ne hT.not_modules];refine wpAny_bind (wpAny_specialOf hT hl ?_);have fin:wpAny (model prog w) A (subscripted slice false o i) (λ r s₃=>wpAny (model prog w) A (letTemporaryGo value o r >>= λ _=>pure r) Q E s₃) E s₂:=by rw[hs o i];exact wpAny_operating (wpAny_mono h₂ (λ r s₃ h₃=>wpAny_bind (wpAny_letTemporaryGo (wpAny_pure h₃))) λ _ _ x=>x)
 first
  | exact wpAny_pure (wpAny_bind fin)
  | exact wpAny_bind (wpAny_pure (wpAny_bind fin))
  | exact wpAny_bind fin
theorem nZ(h:Heap)(hb:sysModules<h.objs.size):cF P w H (h.push {cls:=.type "dict",data:=.dict #[]}) h.objs.size (.dK []):=
 ⟨Nat.zero_le _,beq_eq_false_iff_ne.mpr (Ne.symm (Nat.ne_of_lt hb)),[],.nil,Heap.DictOf.new h⟩
def aef:TE:=λ _ H Q=>∀ p,H p=none->Q (.ref p) (upd H p (.dK []))
theorem sS:PE X (.Dict [] [] pos) aef:=λ pins s σ H Q I h =>
 wpAny_Dict_empty ⟨.ref s.heap.objs.size,_,I.laid (a:=s.heap.objs.size) (o:=.dK []) (t':=s.toks) (λ _ _ q=>Heap.get?_push_of_some _ q) (Nat.le_refl _) (nZ s.heap I.big),rfl,h _ (I.hok.fresh (Nat.le_refl _))⟩
structure M1(X:Cx)(o:Expr)(m:Str)(apos:Pos)(e:Expr)(cpos:Pos):Prop where
 base:attributeBase o m X.env (eval o X.env)=eval o X.env
 few:((backTo cpos (starEach [e] X.env)).all (λ x=>!x.1)&&(backToKw cpos (keywordEach [] X.env)).all (λ x=>x.1.isSome)
  && decide (([e]:List Expr).length+([]:List Keyword).length+(if ([]:List Keyword).isEmpty then 0 else 1)<30))=true
 line:(apos.endLine==cpos.line)=true
 trees:backTo cpos (starEach [e] X.env)=[(false,eval e X.env)]
structure M2(X:Cx)(o:Expr)(m:Str)(apos:Pos)(e f:Expr)(cpos:Pos):Prop where
 base:attributeBase o m X.env (eval o X.env)=eval o X.env
 few:((backTo cpos (starEach [e,f] X.env)).all (λ x=>!x.1)&&(backToKw cpos (keywordEach [] X.env)).all (λ x=>x.1.isSome)
  && decide (([e,f]:List Expr).length+([]:List Keyword).length+(if ([]:List Keyword).isEmpty then 0 else 1)<30))=true
 line:(apos.endLine==cpos.line)=true
 trees:backTo cpos (starEach [e,f] X.env)=[(false,eval e X.env),(false,eval f X.env)]
def IsD(H:Hp)(a:Addr):Prop:=(∃ kvs,Rd H a (.dK kvs))\/∃ kvs,Rd H a (.dT kvs)
theorem agA(I:Inv X pins σ H s)(d:IsD H a) :
  s.TypeIs (.ref a) "dict" /\ (∀ b,Value.ref a=.ref b->∃ ob,s.heap.get? b=some ob/\ob.dict=none)/\(a==sysModules)=false:=by
 rcases d with ⟨kvs,e⟩ | ⟨kvs,e⟩
 ·obtain⟨_,hd,vs,_,dd⟩:=xO I.hok e;refine⟨dd.typeIs,λ b q=>?_,hd⟩;cases q;obtain⟨ob,_,_,h1,h2,_⟩:=dd;exact⟨ob,h1,h2.2.1⟩
 ·obtain⟨_,hd,xs,_,dd⟩:=yP I.hok e;refine⟨dd.typeIs,λ b q=>?_,hd⟩;cases q;obtain⟨ob,_,_,h1,h2,_⟩:=dd;exact⟨ob,h1,h2.2.1⟩
section
variable {X:Cx}{pins:PN}{σ:St}{H:Hp}{s:Shared}{a:Addr}{y d:V}{u r:Value}{o:Option V}{A:Around}{E:VP}
end
section
variable {X:Cx}{pins:PN}{σ:St}{H:Hp}{s:Shared}{a:Addr}{y:V}{u:Value}{A:Around}{E:VP}
end
end L2
set_option maxHeartbeats 0
namespace L2
def Fz:HO->Prop
 | .lst _=>True
 | .dK _=>True
 | _=>False
theorem afg(e:H p=some u)(f:Fz u):Un fs ex H (upd H p (.frz o u)) h h where
 keep:=λ b ob q _ _ _=>q
 slot:=λ b ob q _ _ _=>⟨ob.slots,q⟩
 free:=λ b ob _ n _=>by rw[aq (Ne.symm (aS e n))];exact n
 there:=λ b ob q _=>⟨ob,q⟩
 tups:=λ b xs q=>by
  have:b≠p:=λ z=>by subst z;rw[e] at q;cases q;exact f
  rw[aq this];exact q
 frzs:=λ b ob v q=>by
  have:b≠p:=λ z=>by subst z;rw[e] at q;cases q;exact f
  rw[aq this];exact q
 tbls:=λ b ps q=>by
  have:b≠p:=λ z=>by subst z;rw[e] at q;cases q;exact f
  exact⟨#[],by rw[aq this,q];simp⟩
theorem cF.aeC(f:Fz u)(x:cF P w H h a u):cF P w H' h a u:=by
 cases u with
 | lst xs=>exact x
 | dK kvs=>exact x
 | _=>exact f.elim
theorem cF.obj(f:Fz u)(x:cF P w H h a u):∃ o,h.get? a=some o:=by
 cases u with
 | lst xs=>obtain⟨_,_,_,_,e⟩:=x;exact⟨_,e⟩
 | dK kvs=>obtain⟨_,_,_,_,o,_,_,e,_⟩:=x;exact⟨o,e⟩
 | _=>exact f.elim
theorem Inv.freeze(I:Inv X pins σ H s)(e:H p=some u)(f:Fz u):∃ o,Inv X pins σ (upd H p (.frz o u)) s:=by
 obtain⟨o,ho⟩:=(I.hok p u e).obj f;refine⟨o,I.un (h':=s.heap) (t':=s.toks) (afg e f) λ b v q=>?_⟩
 by_cases hb:b=p
 ·subst hb;rw[au] at q;cases q;exact⟨ho,(I.hok b u e).aeC f⟩
 ·rw[aq hb] at q;refine(I.hok b v q).qx (λ _ _ _ q=>q) (λ c r=>?_) λ c xs r=>?_
  ·have:c≠p:=λ z=>by subst z;rw[e] at r;cases r;exact f
   rw[aq this];exact r
  ·have:c≠p:=λ z=>by subst z;rw[e] at r;cases r;exact f
   rw[aq this];exact r
def aiy(t:TE):TE:=λ σ H Q=>t σ H λ v H1=>∃ p u,v=.ref p/\H1 p=some u/\Fz u/\∀ o,Q v (upd H1 p (.frz o u))
theorem p5(h:PE X e t):PE X e (aiy t):=by intro pins s σ H Q I hq;refine thn (h pins s σ H _ I hq) λ v s1 hq28=>?_;obtain⟨x,H1,I1,r1,p,u,e1,e2,f,q⟩:=hq28;obtain⟨o,I2⟩:=I1.freeze e2 f;exact⟨x,_,I2,r1,q o⟩
theorem Inv.aeY(I:Inv X pins σ H s)(e:s.heap.get? D=some {cls:=.type "list",data:=.seq us.toArray n})(hn:H D=none)(hv:Vals ys us)(hz:ys.length<=sizeLine)
  (h0:X.s₀.heap.objs.size<=D)(hL:D≠X.env.locals)(hc:∀ x c,X.env.cells.lookup x=some c->c≠D)(hp:∀ p∈X.pn++pins,p.1≠D):Inv X pins σ (upd H D (.lst ys)) s:=by
 have ne:∀ b u,H b=some u->b≠D:=λ b u q=>aS q hn;refine I.step (h':=s.heap) (g':=s.gens) (d':=s.drawn) (t':=s.toks) (ch:=[D]) (λ b hb=>?_) (λ b o _ _ _ q _=>q) (λ b o _ _ _ q _=>⟨o.slots,q⟩) (λ b o hb q n=>?_) (λ b o _ q=>⟨o,q⟩)
  (λ b xs q=>by rw[aq (ne b _ q)];exact q) (λ b o u q=>by rw[aq (ne b _ q)];exact q) (λ b ps q=>⟨#[],by rw[aq (ne b _ q),q];simp⟩) (λ m hm=>hm) (λ b u q=>?_) I.bare
 ·have e:b=D:=by simpa using hb
  subst e;exact⟨.inr h0,hL,hc,hp⟩
 ·rw[aq (λ z=>hb (by simp[z]))];exact n
 ·by_cases hb:b=D
  ·subst hb;rw[au] at q;cases q;exact⟨hz,us,n,hv,e⟩
  ·rw[aq hb] at q;exact(I.hok b u q).qx (λ _ _ _ q=>q) (λ c r=>by rw[aq (ne c _ r)];exact r) λ c xs r=>by rw[aq (ne c _ r)];exact r
abbrev rW(ifs:List Expr)(env:Env):Sem Bool:=forIn ifs true λ c r=>if r=true then do let ok <- isTrue c env (eval c env);pure (ForInStep.yield ok) else pure (ForInStep.yield r)
theorem pZ(I:Nat->Shared->Prop)
  (turn:∀ n s,I n s->wpAny (model prog w) A (pyNext it) (λ r s₁=>match r with
   | none=>R (.ok .next) s₁
   | some v=>wpAny (model prog w) A (letOwnedTupleGo target it v) (λ _ s₁'=>wpAny (model prog w) A (assign target env v) (λ _ s₂ =>
     wpAny (model prog w) A (rW ifs env) (λ ok s₃ =>
      if ok=true then wpAny (model prog w) A (eval elt env) (λ x s₄ =>
       wpAny (model prog w) A (call (.builtin "list.append") [acc,x]) (λ _ s₅=>∃ m,m<n/\I m s₅) (λ _ _=>False) s₄) (λ _ _=>False) s₃
      else ∃ m,m<n/\I m s₃) (λ _ _=>False) s₂) (λ _ _=>False) s₁') (λ _ _=>False) s₁) (λ _ _=>False) s)
  (n:Nat)(h:I n s) :
  codeAny (model prog w) A (.compLoop (.ListComp elt [⟨target,iter,ifs,0⟩] scope pos) 0 it acc env) R s:=by
 refine codeAny_loop rfl I (λ n s hI=>?_) n h;show wpAny _ A ((compTurn (.ListComp elt [⟨target,iter,ifs,0⟩] scope pos) 0 it acc env).onRaise (λ x=>do noteFrame x env;theTreesLotGoes x)) _ _ s;refine wpAny_noted ?_;rw[compTurn_list];refine wpAny_bind (wpAny_standAt (wpAny_bind (wpAny_mono (turn n s hI) (λ r s₁ h₁=>?_) λ _ _ h'=>h'.elim)));cases r with
 | none=>exact wpAny_pure h₁
 | some v =>
  refine wpAny_bind (wpAny_mono h₁ (λ _ s₁' h₁'=>?_) λ _ _ h'=>h'.elim);refine wpAny_bind (wpAny_mono h₁' (λ _ s₂ h₂=>wpAny_bind (wpAny_mono h₂ (λ ok s₃ h₃=>?_) λ _ _ h'=>h'.elim)) λ _ _ h'=>h'.elim);cases ok with
  | false=>exact wpAny_pure ⟨rfl,h₃⟩
  | true =>
   exact wpAny_bind (wpAny_bind (wpAny_mono h₃ (λ x s₄ h₄=>wpAny_bind (wpAny_mono h₄ (λ _ s₅ h₅=>wpAny_pure (wpAny_pure ⟨rfl,h₅⟩)) λ _ _ h'=>h'.elim)) λ _ _ h'=>h'.elim))
theorem i7(h:∀ x∈scope.names,x.2=.free->∃ c,env.cells.lookup x.1=some c) :
  ∃ cl,closureFor scope env=pure cl/\(∀ n c,cl.lookup n=some c->env.cells.lookup n=some c)/\(∀ n,(n,NameKind.free)∈scope.names->∃ c,cl.lookup n=some c):=by
 have key:∀ (l:List (Str×NameKind)) (cs:List (Str×Addr)),(∀ x∈l,x.2=.free->∃ c,env.cells.lookup x.1=some c)->(∀ n c,cs.lookup n=some c->env.cells.lookup n=some c) ->
   ∃ cl:List (Str×Addr),(forIn l cs λ x r=>match x with
    | (name,kind)=>if (kind==NameKind.free)=true then do let a <- cellOf env name;pure (ForInStep.yield ((name,a)::r)) else pure (ForInStep.yield r):Sem (List (Str×Addr)))=pure cl /\
    (∀ n c,cl.lookup n=some c->env.cells.lookup n=some c)/\(∀ n c,cs.lookup n=some c->∃ c,cl.lookup n=some c)/\(∀ n,(n,NameKind.free)∈l->∃ c,cl.lookup n=some c):=by
  intro l
  induction l with
  | nil=>intro cs _ hc;exact⟨cs,rfl,hc,λ n c e=>⟨c,e⟩,λ n hn=>nomatch hn⟩
  | cons x l ih =>
   intro cs hl hc;obtain⟨name,kind⟩:=x
   by_cases hk:kind=.free
   ·subst hk;obtain⟨c,e⟩:=hl (name,.free) List.mem_cons_self rfl;obtain⟨cl,h1,h2,h3,h4⟩:=ih ((name,c)::cs) (λ y hy=>hl y (List.mem_cons_of_mem _ hy)) (λ n d q=>by
     rw[List.lookup_cons] at q;cases hb:n==name with
     | true =>
      rw[hb] at q;cases q;rw[eq_of_beq hb];exact e
     | false =>
      rw[hb] at q;exact hc n d q)
    refine⟨cl,?_,h2,λ n d q=>?_,λ n hn=>?_⟩
    ·rw[List.forIn_cons];simp only[beq_self_eq_true,if_true,cellOf,e,pure_bind];exact h1
    ·cases hb:n==name with
     | true=>exact h3 n c (by rw[List.lookup_cons,hb])
     | false=>exact h3 n d (by rw[List.lookup_cons,hb];exact q)
    ·rcases List.mem_cons.mp hn with z | z
     ·cases z;exact h3 name c (by rw[List.lookup_cons];simp)
     ·exact h4 n z
   ·obtain⟨cl,h1,h2,h3,h4⟩:=ih cs (λ y hy=>hl y (List.mem_cons_of_mem _ hy)) hc;refine⟨cl,?_,h2,h3,λ n hn=>?_⟩
    ·rw[List.forIn_cons];have:(kind==NameKind.free)=false:=by simpa using hk
     simp only[this,Bool.false_eq_true,if_false,pure_bind];exact h1
    ·rcases List.mem_cons.mp hn with z | z
     ·cases z;exact absurd rfl hk
     ·exact h4 n z
 obtain⟨cl,h1,h2,_,h4⟩:=key scope.names [] h (λ n c e=>by simp at e);refine⟨cl,?_,h2,h4⟩;unfold closureFor;simp only[bind_pure];exact h1
theorem jc{sc:Scope}{env:Env}{x:Str}:∀ {names:List (Str×NameKind)},(names.map λ(n,k)=>if (k==NameKind.free&&env.scope.kind==.function&&env.kindOf n==some .cell) then (n,NameKind.cell) else (n,k)).lookup x=some .cell \/
  (names.map λ(n,k)=>if (k==NameKind.free&&env.scope.kind==.function&&env.kindOf n==some .cell) then (n,NameKind.cell) else (n,k)).lookup x=some .free->(∀ y∈names,y.2 ≠ .cell)->(x,NameKind.free)∈names
 | [],h,_=>by simp at h
 | (n,k)::r,h,hc=>by
  have ih:=@jc sc env x r
  by_cases hk:(k==NameKind.free&&env.scope.kind==.function&&env.kindOf n==some .cell)=true
  ·simp only[List.map_cons,if_pos hk,List.lookup_cons] at h;cases hx:x==n with
   | true =>
    have e:=eq_of_beq hx;subst e;simp only[Bool.and_eq_true] at hk;have:=eq_of_beq hk.1.1;subst this;exact List.mem_cons_self
   | false =>
    rw[hx] at h;exact List.mem_cons_of_mem _ (ih h λ y hy=>hc y (List.mem_cons_of_mem _ hy))
  ·simp only[List.map_cons,if_neg hk,List.lookup_cons] at h;cases hx:x==n with
   | true =>
    rw[hx] at h;have e:=eq_of_beq hx;subst e;rcases h with h | h
    ·cases h;exact absurd rfl (hc (x,.cell) List.mem_cons_self)
    ·cases h;exact List.mem_cons_self
   | false =>
    rw[hx] at h;exact List.mem_cons_of_mem _ (ih h λ y hy=>hc y (List.mem_cons_of_mem _ hy))
theorem dW{env:Env}{x:Str}:∀ {names:List (Str×NameKind)},names.lookup x=some .free ->
  (names.map λ(n,k)=>if (k==NameKind.free&&env.scope.kind==.function&&env.kindOf n==some .cell) then (n,NameKind.cell) else (n,k)).lookup x=some .cell \/
  (names.map λ(n,k)=>if (k==NameKind.free&&env.scope.kind==.function&&env.kindOf n==some .cell) then (n,NameKind.cell) else (n,k)).lookup x=some .free
 | [],h=>by simp at h
 | (n,k)::r,h=>by
  have ih:=@dW env x r
  by_cases hk:(k==NameKind.free&&env.scope.kind==.function&&env.kindOf n==some .cell)=true
  ·simp only[List.map_cons,if_pos hk,List.lookup_cons];cases hx:x==n with
   | true=>exact .inl rfl
   | false=>rw[List.lookup_cons,hx] at h;exact ih h
  ·simp only[List.map_cons,if_neg hk,List.lookup_cons];cases hx:x==n with
   | true=>rw[List.lookup_cons,hx] at h;exact .inr h
   | false=>rw[List.lookup_cons,hx] at h;exact ih h
def blk(X:Cx)(sc:Scope)(N':List Str)(cl:List (Str×Addr))(C:Addr)(s:Shared)(H:Hp)(ex:List Addr)(pins:PN):Cx:=
 {X with N:=N',s₀:=s,H₀:=H,env:=compEnvC sc cl C X.env,outer:=X.stack,ex:=ex,fn:=λ _=>false,pn:=X.pn++pins,xe:=λ _ _=>False}
def lcN(X:Cx)(own:List Str)(fr:List Nat):List Str:=own++fr.map λ j=>X.N.getD j Str.empty
def lcS(k:Nat)(fr:List Nat)(σ:St):St:=List.replicate k none++fr.map λ j=>(σ[j]?).getD none
def agM(N:List Str)(sc:Scope)(fr:List Nat):Bool:=fr.all λ j=>match N[j]? with
 | some x=>sc.names.lookup x==some .free
 | none=>false
structure lY(X:Cx)(sc:Scope)(own:List Str)(fr:List Nat):Prop where
 kind:sc.kind=.function
 cell:∀ y∈sc.names,y.2 ≠ .cell
 free:∀ y∈sc.names,y.2=.free->(X.env.kindOf y.1=some .cell\/X.env.kindOf y.1=some .free)
 names:∀ y∈sc.names,y.2=.local->sc.names.lookup y.1=some .local
 fr:agM X.N sc fr=true
def PTs(X:Cx)(ifs:List Expr)(t:TT):Prop:=
 ∀ (pins:PN) (s:Shared) (σ:St) (H:Hp) (Q:Bool->Hp->Prop),Inv X pins σ H s->t σ H Q->wpAny (model X.prog X.w) X.A (rW ifs X.env) (TP X pins σ Q) X.xe s
def ai6:TT:=λ _ H Q=>Q true H
theorem ads:PTs X [] ai6:=λ _ _ _ H _ I h=>wpAny_tests_nil ⟨H,I,h⟩
theorem acS(h:PT X c t):PTs X [c] t:=λ pins s σ H Q I q=>wpAny_tests_one (h pins s σ H Q I q)
theorem tN(h:agM N sc fr=true)(hj:j∈fr):∃ x,N[j]? =some x/\sc.names.lookup x=some .free:=by
 have q:=List.all_eq_true.mp h j hj;cases e:N[j]? with
 | none=>simp[e] at q
 | some x =>
  simp only[e] at q;exact⟨x,rfl,eq_of_beq q⟩
theorem afM(L:lY X sc own fr)(I:Inv X pins σ H s)(hf:∀ b∈fp,jz X pins H b)(hb:∀ b∈fp,b<s.heap.objs.size)(hC:s.heap.objs.size<=C)
  (c1:∀ n c,cl.lookup n=some c->X.env.cells.lookup n=some c)(c2:∀ n,(n,NameKind.free)∈sc.names->∃ c,cl.lookup n=some c):(blk X sc (lcN X own fr) cl C s H fp pins).Ok where
 mod:=I.ok.mod
 kind:=L.kind
 glob:=I.ok.glob
 blt:=I.ok.blt
 above:=hC
 inj:=λ x y c a b=>I.ok.inj x y c (c1 _ _ a) (c1 _ _ b)
 has:=λ x hx=>c2 x (jc (sc:=sc) (env:=X.env) hx L.cell)
 cab:=λ x c z=>absurd (show false=true from z) Bool.false_ne_true
 hd:=I.ok.hd
 frames:=I.ok.frames
 stk:=.inl rfl
 exf:=λ b z=>⟨Nat.ne_of_lt (Nat.lt_of_lt_of_le (hb b z) hC),λ x c e=>(hf b z).2.2.2.2.1 x c (c1 _ _ e)⟩
 bs:=I.bs
 bsz:=Nat.le_trans I.ok.bsz I.sz
 noex:=λ b o e z=>by
  rcases(hf b z).2.2.2.1 with q | q
  ·exact I.ok.noex b o e q
  ·exact absurd (Nat.lt_of_lt_of_le (Heap.lt_size e) (Nat.le_trans I.ok.bsz q)) (Nat.lt_irrefl _)
 exfs:=λ b z q=>by
  rcases List.mem_cons.mp (I.i4 b q) with e | e
  ·exact(hf b z).2.1 e
  ·exact(hf b z).2.2.1 e
 nL:=I.stack
 frf:=I.nk
theorem xk(L:lY X sc own fr)(I:Inv X pins σ H s)(hf:∀ b∈fp,jz X pins H b)(hb:∀ b∈fp,b<s.heap.objs.size)(hC:s.heap.objs.size<=C)
  (c1:∀ n c,cl.lookup n=some c->X.env.cells.lookup n=some c)(c2:∀ n,(n,NameKind.free)∈sc.names->∃ c,cl.lookup n=some c)
(hn:h1.Ns C m) (k:∀ b o,s.heap.get? b=some o->h1.get? b=some o) :
  Inv (blk X sc (lcN X own fr) cl C s H fp pins) [] (lcS own.length fr σ) H {s with heap:=h1,toks:=tk}:=by
 have ok:=afM L I hf hb hC c1 c2;refine⟨ok,rfl,I.bare,Un.kept k,⟨m,hn,λ i x v e1 e2 e3=>?_⟩,λ x c e=>?_,I.hok.fresh hC,λ x c e=>I.freeC x c (c1 _ _ e),λ p hp=>?_,I.hok.kept k,?_⟩
 ·-- one of the names around
  have hi:¬ i<own.length:=λ hi=>by
   unfold lcS at e2;rw[List.getElem?_append_left (by simpa using hi),List.getElem?_replicate] at e2
   split at e2<;>cases e2
  have e1':(lcN X own fr)[i]? =some x:=e1;unfold lcN at e1';unfold lcS at e2;rw[List.getElem?_append_right (by omega),List.getElem?_map] at e1';rw[List.getElem?_append_right (by simpa using hi),List.getElem?_map,List.length_replicate] at e2;cases q:fr[i-own.length]? with
  | none=>rw[q] at e1';cases e1'
  | some j =>
   rw[q] at e1' e2;obtain⟨y,hy,hyf⟩:=tN L.fr (List.mem_of_getElem? q);have ex:y=x:=by have:=Option.some.inj e1';rw[<- this];simp[List.getD,hy]
   subst ex;have ev:σ[j]? =some (some v):=by
    have z:(σ[j]?).getD none=some v:=Option.some.inj e2;cases w:σ[j]? with
    | none=>rw[w] at z;cases z
    | some o=>rw[w] at z;exact congrArg some z
   have hm:(y,NameKind.free)∈sc.names:=PySem.mem_of_lookup hyf;have hk:=L.free _ hm rfl;have vis:Vis X.env.scope y:=by
    rcases hk with z | z
    ·exact .inr (.inl z)
    ·exact .inr (.inr z)
   obtain⟨m0,hn0,hl⟩:=I.loc;obtain⟨u,r,l⟩:=hl j y v hy ev vis;refine⟨u,r,.inr ⟨?_,?_⟩⟩
   ·exact dW (env:=X.env) hyf
   ·obtain⟨c,hc⟩:=c2 y hm;rcases l with ⟨z,_⟩ | ⟨_,c',hc',hcell⟩
    ·rcases hk with q | q
     ·exact absurd (show X.env.kindOf y=some .local from z) (by rw[q];decide)
     ·exact absurd (show X.env.kindOf y=some .local from z) (by rw[q];decide)
    ·have:c=c':=Option.some.inj ((c1 _ _ hc).symm.trans hc');subst this;obtain⟨o,ho,hd⟩:=hcell;exact⟨c,hc,o,k _ _ ho,hd⟩
 ·obtain⟨v,o,ho,hd⟩:=I.cell x c (c1 _ _ e);exact⟨v,o,k _ _ ho,hd⟩
 ·have hp':p∈X.pn++pins:=by simpa [blk] using hp
  obtain⟨a1,a2,a3,a4,a5⟩:=I.pin p hp';refine⟨k _ _ a1,a2,Nat.ne_of_lt (Nat.lt_of_lt_of_le (Heap.lt_size a1) hC),λ q=>?_,a5⟩;rcases List.mem_cons.mp (I.i4 _ q) with e | e
  ·exact a3 e
  ·exact a4 e
 ·show(lcS own.length fr σ).length=(lcN X own fr).length;simp[lcS,lcN]
abbrev LcW:=Nat->Nat->List V->St->Hp->Prop
def aaZ(J:It)(g:TG)(tt:TT)(te:TE)(W:LcW)(Fin:List V->Hp->Prop):Prop:=∀ i m ys τ H,W i m ys τ H ->
 (J.stop i H/\Fin ys H)\/(J.go i H/\ys.length<sizeLine/\∀ x H',J.yld i H x H'->g x τ H' λ τ2 H2=>tt τ2 H2 λ b H3 =>
  if b=true then te τ2 H3 λ y H4=>∃ m',m'<m/\W (i+1) m' (ys++[y]) τ2 H4 else ∃ m',m'<m/\W (i+1) m' ys τ2 H3)
section
variable {X:Cx}{pins:PN}{σ:St}{H:Hp}{s:Shared}{sc:Scope}{own:List Str}{fr:List Nat}{cl:List (Str×Addr)}{fp:List Addr}{it:Addr}{J:It}{tn:Nat->Heap->Prop}{g:TG}{tt:TT}{te:TE}{W:LcW}{Fin:List V->Hp->Prop}
 {elt tg iter:Expr}{ifs:List Expr}{pos:Pos}{E:VP}
theorem xQ{RR:Value->Addr->Result->Shared->Prop}(hc:X.calm=true)(L:lY X sc own fr)(hcl1:∀ n c,cl.lookup n=some c->X.env.cells.lookup n=some c)(hcl2:∀ n,(n,NameKind.free)∈sc.names->∃ c,cl.lookup n=some c)
  (hg:∀ C s H ex pl,PG (blk X sc (lcN X own fr) cl C s H ex pl) tg g)(ht:∀ C s H ex pl,PTs (blk X sc (lcN X own fr) cl C s H ex pl) ifs tt)(he:∀ C s H ex pl,PE (blk X sc (lcN X own fr) cl C s H ex pl) elt te)
  (I:Inv X pins σ H s)(T:Turn X.prog X.w X.K tg J fp it tn)(st:tn 0 s.heap)(hf:∀ b∈fp,jz X pins H b)(w0:∃ m,W 0 m [] (lcS own.length fr σ) H)(turn:aaZ J g tt te W Fin)
  (hRR:∀ (D C:Addr) (s':Shared) (H':Hp) (ys:List V) (us:List Value) (n:Nat) (m:Str->Option Value),Inv X pins σ H' s'->s'.heap.get? D=some {cls:=.type "list",data:=.seq us.toArray n}->Vals ys us->ys.length<=sizeLine->H' D=none->H' C=none ->
   s.heap.objs.size<=D->s.heap.objs.size<=C->D≠C->s'.heap.Ns C m->Fin ys H'->RR (.ref D) C (.ok .next) s') :
  wpAny (model X.prog X.w) X.A (newList []) (λ acc s₃=>wpAny (model X.prog X.w) X.A (newFunctionEnv sc X.env.globals cl [] X.env.qual none .none (some X.env)) (λ cenv s₄ =>
   codeAny (model X.prog X.w) X.A (.compStart (.ListComp elt [⟨tg,iter,ifs,0⟩] sc pos) 0 (.ref it) acc {cenv with scope:=relabel sc X.env}) (RR acc cenv.locals) s₄) E s₃) E s:=by
 refine wpAny_newObj_type (wpAny_newFunctionEnv L.cell (by intro y hy;simp at hy) (λ h₁ hns₁ hsb₁=>?_) L.kind);dsimp only at hns₁ hsb₁ ⊢;generalize hH2:s.heap.push {cls:=.type "list",dict:=none,data:=.seq ([]:List Value).toArray}=H2 at hns₁ hsb₁ ⊢;have hCs:H2.objs.size=s.heap.objs.size+1:=by rw[<- hH2,Heap.size_push]
 have hD0:s.heap.objs.size≠H2.objs.size:=by rw[hCs];exact Nat.ne_of_lt (Nat.lt_succ_self _)
 have hCle:s.heap.objs.size<=H2.objs.size:=by rw[hCs];exact Nat.le_succ _
 have below:∀ b,b<s.heap.objs.size->b≠H2.objs.size/\b≠s.heap.objs.size:=λ b hb=>⟨by rw[hCs];exact Nat.ne_of_lt (Nat.lt_succ_of_lt hb),Nat.ne_of_lt hb⟩;have old:∀ b o,s.heap.get? b=some o->h₁.get? b=some o:=λ b o e=>hsb₁.extBut b o (below b (Heap.lt_size e)).1 (Heap.get?_push_of_some _ (hH2 ▸ Heap.get?_push_of_some _ e));have hacc:h₁.get? s.heap.objs.size=some {cls:=.type "list",data:=.seq ([]:List Value).toArray 0}:=hsb₁.extBut _ _ hD0 (Heap.get?_push_of_some _ (hH2 ▸ Heap.get?_push_size _ rfl));have hfb:∀ b∈fp,b<s.heap.objs.size:=λ b hb=>by obtain⟨o,e,_⟩:=T.obj 0 _ st b hb;exact Heap.lt_size e
 have I1:Inv (blk X sc (lcN X own fr) cl H2.objs.size s H fp pins) [] (lcS own.length fr σ) H {s with heap:=h₁,toks:=s.toks+([]:List (Str×Value)).length}:=xk L I hf hfb hCle hcl1 hcl2 hns₁ old;have st1:tn 0 h₁:=T.keep 0 _ _ st λ b _ o e=>old b o e;generalize hY:blk X sc (lcN X own fr) cl H2.objs.size s H fp pins=Y at I1;have hYp:Y.prog=X.prog:=by rw[<- hY];rfl
 have hYw:Y.w=X.w:=by rw[<- hY];rfl
 have hYK:Y.K=X.K:=by rw[<- hY];rfl
 have hYA:Y.A=X.A:=by rw[<- hY];rfl
 have hYc:Y.calm=true:=by rw[<- hY];exact hc
 have hYe:Y.env=compEnvC sc cl H2.objs.size X.env:=by rw[<- hY];rfl
 have hYx:Y.xe=λ _ _=>False:=by rw[<- hY];rfl
 have hYpn:Y.pn=X.pn++pins:=by rw[<- hY];rfl
 have hYs:Y.s₀=s:=by rw[<- hY];rfl
 have hYH:Y.H₀=H:=by rw[<- hY];rfl
 have hYex:Y.ex=fp:=by rw[<- hY];rfl
 have hYfs:Y.fs=frs X.stack:=by rw[<- hY];rfl
 have gY:=hg H2.objs.size s H fp pins;have tY:=ht H2.objs.size s H fp pins;have eY:=he H2.objs.size s H fp pins;rw[hY] at gY tY eY;have D_pin:∀ p∈Y.pn++([]:PN),p.1≠s.heap.objs.size:=λ p hp=>by rw[hYpn,List.append_nil] at hp;exact(below _ (Heap.lt_size (I.pin p hp).1)).2
 have D_cell:∀ x c,Y.env.cells.lookup x=some c->c≠s.heap.objs.size:=λ x c e=>by rw[hYe] at e;obtain⟨v,z⟩:=I.cell x c (hcl1 _ _ e);exact(below _ z.lt).2
 have D_loc:s.heap.objs.size≠Y.env.locals:=by rw[hYe];exact hD0
 have D_fs:s.heap.objs.size ∉ Y.fs:=by
  rw[hYfs];intro z;rcases List.mem_cons.mp (I.i4 _ z) with e | e
  ·exact absurd I.lt (by rw[<- e];exact Nat.lt_irrefl _)
  ·exact I.aiB (Nat.le_refl _) e
 have fpY:∀ {H':Hp} (pl:PN),(∀ b∈fp,H' b=none)->(∀ p∈pl,p.1=s.heap.objs.size)->∀ b∈fp,jz Y pl H' b:=λ {H'} pl hn hp b hb=>by
  obtain⟨_,f1,f2,f3,f4,f5⟩:=hf b hb;refine⟨hn b hb,by rw[hYe];exact(below b (hfb b hb)).1,?_,.inl (by rw[hYex];exact hb),λ x c e=>?_,λ p q=>?_⟩
  ·rw[hYfs];intro z;rcases List.mem_cons.mp (I.i4 _ z) with e | e
   ·exact f1 e
   ·exact f2 e
  ·rw[hYe] at e;exact f4 x c (hcl1 _ _ e)
  ·rcases List.mem_append.mp q with z | z
   ·rw[hYpn] at z;exact f5 p z
   ·rw[hp p z];exact Ne.symm (below b (hfb b hb)).2
 have loop:∀ s₃:Shared,s₃={s with heap:=h₁,toks:=s.toks+([]:List (Str×Value)).length} ->
   codeAny (model X.prog X.w) X.A (.compLoop (.ListComp elt [⟨tg,iter,ifs,0⟩] sc pos) 0 (.ref it) (.ref s.heap.objs.size) (compEnvC sc cl H2.objs.size X.env)) (RR (.ref s.heap.objs.size) H2.objs.size) s₃:=by
  rintro s₃ rfl;obtain⟨m0,w0⟩:=w0;refine pZ (λ n s'=>∃ i ys τ H' us k,Inv Y [] τ H' s'/\tn i s'.heap/\(∀ b∈fp,H' b=none)/\H' s.heap.objs.size=none/\s'.heap.get? s.heap.objs.size=some {cls:=.type "list",data:=.seq us.toArray k}/\Vals ys us/\ys.length<=sizeLine/\W i n ys τ H') ?_ m0
   ⟨0,[],_,H,[],0,I1,st1,λ b hb=>(hf b hb).1,I.hok.fresh (Nat.le_refl _),hacc,.nil,Nat.zero_le _,w0⟩
  rintro n s' ⟨i,ys,τ,H',us,k,I',st',hn',hD',ha',hv',hz',w'⟩;have Ip:Inv Y [(s.heap.objs.size,{cls:=.type "list",data:=.seq us.toArray k})] τ H' s':=I'.d5 λ p hp=>by
   have e:p=(s.heap.objs.size,{cls:=.type "list",data:=.seq us.toArray k}):=by simpa using hp
   subst e;exact⟨ha',hD',D_loc,D_fs,λ v z=>nomatch (show Data.seq _ _=Data.cell v from z)⟩
  have onlyD:∀ p∈[((s.heap.objs.size,{cls:=.type "list",data:=.seq us.toArray k}):Addr×Obj)],p.1=s.heap.objs.size:=λ p hp=>by
   have e:p=(s.heap.objs.size,{cls:=.type "list",data:=.seq us.toArray k}):=by simpa using hp
   subst e;rfl
  rcases turn i n ys τ H' w' with ⟨stop,fin⟩ | ⟨go,hlen,step⟩
  ·have q:=T.done Y hYp hYw hYK hYc i _ s' τ H' (λ _ _=>False) Ip (fpY _ hn' onlyD) st' stop;rw[hYA] at q;refine thn q λ r s4 hq29=>?_;obtain⟨hr,I4⟩:=hq29;subst hr;have un:Un (frs X.stack) fp H H' s.heap s4.heap:=by have z:=I4.base;rw[hYfs,hYex,hYH,hYs] at z;exact z
   have os4:s4.os=s.os:=by have z:=I4.os;rw[hYs] at z;exact z
   have hok4:HOk X.prog X.w H' s4.heap:=by have z:=I4.hok;rw[hYp,hYw] at z;exact z
   have hch:∀ b∈fp,(b∈X.ex\/X.s₀.heap.objs.size<=b)/\b≠X.env.locals/\(∀ x c,X.env.cells.lookup x=some c->c≠b)/\∀ p∈X.pn++pins,p.1≠b:=λ b hb=>by obtain⟨_,f1,f2,f3,f4,f5⟩:=hf b hb;exact⟨f3,f1,f4,f5⟩
   have IX:Inv X pins σ H' s4:=I.zB os4 un hok4 I4.bare hch;obtain⟨mC,hmC,_⟩:=I4.loc;have hCf:=I4.free;rw[hYe] at hmC hCf;have pD:=I4.pin (s.heap.objs.size,{cls:=.type "list",data:=.seq us.toArray k}) (List.mem_append_right _ (List.mem_singleton.mpr rfl));exact hRR _ _ s4 H' ys us k mC IX pD.1 hv' hz' pD.2.1 hCf (Nat.le_refl _) hCle hD0 hmC fin
  ·have q:=T.item Y hYp hYw hYK hYc i _ s' τ H' (λ _ _=>False) Ip (fpY _ hn' onlyD) st' go;rw[hYA] at q;refine thn q λ r s4 hq30=>?_;obtain⟨u,hr,h4⟩:=hq30;subst hr;refine thn h4 λ _ s5 hq31=>?_;obtain⟨x,H5,I5,r5,y5,st5,fr5⟩:=hq31;have I5':=I5.pinned (fpY _ fr5 onlyD) (T.obj _ _ st5);have g5:=gY _ s5 τ H5 x u _ I5' r5 (step x H5 y5);rw[hYp,hYw,hYA,hYe,hYx] at g5;refine thn g5 λ _ s6 hq32=>?_;obtain⟨σ6,H6,I6,q6⟩:=hq32;have t6:=tY _ s6 σ6 H6 _ I6 q6;rw[hYp,hYw,hYA,hYe,hYx] at t6;refine thn t6 λ ok s7 hq33=>?_;obtain⟨H7,I7,q7⟩:=hq33;have keepD:∀ {σ8:St} {H8:Hp} {s8:Shared},Inv Y ([(s.heap.objs.size,{cls:=.type "list",data:=.seq us.toArray k})]++kU fp s5.heap) σ8 H8 s8->s8.heap.get? s.heap.objs.size=some {cls:=.type "list",data:=.seq us.toArray k}/\H8 s.heap.objs.size=none:=
    λ {σ8 H8 s8} I8=>by have pD:=I8.pin (s.heap.objs.size,{cls:=.type "list",data:=.seq us.toArray k}) (List.mem_append_right _ (List.mem_append_left _ (List.mem_singleton.mpr rfl)));exact⟨pD.1,pD.2.1⟩
   have keepI:∀ {σ8:St} {H8:Hp} {s8:Shared},Inv Y ([(s.heap.objs.size,{cls:=.type "list",data:=.seq us.toArray k})]++kU fp s5.heap) σ8 H8 s8->tn (i+1) s8.heap/\∀ b∈fp,H8 b=none:=
    λ {σ8 H8 s8} I8=>by refine⟨T.keep _ _ _ st5 λ b hb o e=>(I8.pin (b,o) (List.mem_append_right _ (List.mem_append_right _ (dO hb e)))).1,λ b hb=>?_⟩;obtain⟨o,e,d⟩:=T.obj _ _ st5 b hb;exact(I8.pin (b,o) (List.mem_append_right _ (List.mem_append_right _ (dO hb e)))).2.1
   cases ok with
   | false =>
    rw[if_neg Bool.false_ne_true] at q7 ⊢;obtain⟨m',hm',w7⟩:=q7;obtain⟨a7,b7⟩:=keepD I7;obtain⟨c7,d7⟩:=keepI I7;exact⟨m',hm',i+1,ys,σ6,H7,us,k,I7.d5 (λ p hp=>(nomatch hp)),c7,d7,b7,a7,hv',hz',w7⟩
   | true =>
    rw[if_pos rfl] at q7 ⊢;have e7:=eY _ s7 σ6 H7 _ I7 q7;rw[hYp,hYw,hYA,hYe,hYx] at e7;refine thn e7 λ v s8 hq34=>?_;obtain⟨y,H8,I8,r8,m',hm',w8⟩:=hq34;obtain⟨a8,b8⟩:=keepD I8;obtain⟨c8,d8⟩:=keepI I8;have hl:=hv'.length;refine call_meets F.slot_list_append ⟨_,a8,rfl⟩ F.entry_list_append (F.args_list_append_2 _ _) (PySem.list_append s.heap.objs.size us.toArray k v (by rw[List.size_toArray];omega)) ⟨a8,?_⟩;have qu:=PySem.IsL.update a8 (λ xs=>xs.push v);have I9:=(I8.d5 (pins':=[]) λ p hp=>nomatch hp).turned (it:=s.heap.objs.size) (t':=s8.toks) (h':=s8.heap.update s.heap.objs.size (Obj.mapSeq λ xs=>xs.push v)) (λ b o hb e=>(Heap.get?_update_other s8.heap _ (Ne.symm hb)).trans e) b8 D_loc (.inr (by rw[hYs];exact Nat.le_refl _)) D_cell D_pin;have ep:us.toArray.push v=(us++[v]).toArray:=by simp
    rw[ep] at qu;refine⟨m',hm',i+1,ys++[y],σ6,H8,us++[v],(if (us++[v]).toArray.size==us.toArray.size then k else k+1),I9,T.keep _ _ _ c8 λ b hb o e=>(Heap.get?_update_other s8.heap _ (Ne.symm (below b (hfb b hb)).2)).trans e,d8,b8,?_,hv'.append (.cons r8 .nil),?_,w8⟩
    ·exact qu
    ·rw[List.length_append,List.length_singleton];omega
 exact codeAny_compStart_list (loop _ rfl) (T.self _ 0 _ _ _ st1 (loop _ rfl))
def tLC(wi:TI)(g:TG)(tt:TT)(te:TE)(k:Nat)(fr:List Nat):TE:=λ σ H Q=>wi σ H λ J H1=>∃ W:LcW,(∃ m,W 0 m [] (lcS k fr σ) H1)/\aaZ J g tt te W λ ys H2=>∀ p,H2 p=none->Q (.ref p) (upd H2 p (.lst ys))
theorem gk(L:lY X sc own fr)(ok:X.Ok):∃ cl,closureFor sc X.env=pure cl/\(∀ n c,cl.lookup n=some c->X.env.cells.lookup n=some c)/\(∀ n,(n,NameKind.free)∈sc.names->∃ c,cl.lookup n=some c):=
 i7 λ x hx hf=>ok.has x.1 (L.free x hx hf)
theorem ahv(hc:X.calm=true)(L:lY X sc own fr)(hi:PI X tg iter wi)
  (hg:∀ cl C s H ex pl,PG (blk X sc (lcN X own fr) cl C s H ex pl) tg g)(ht:∀ cl C s H ex pl,PTs (blk X sc (lcN X own fr) cl C s H ex pl) ifs tt)(he:∀ cl C s H ex pl,PE (blk X sc (lcN X own fr) cl C s H ex pl) elt te)
  (hs:∀ x,foldedSetIterable iter X.env x=pure x:=by intro _;rfl):PE X (.ListComp elt [⟨tg,iter,ifs,0⟩] sc pos) (tLC wi g tt te own.length fr):=by
 intro pins s σ H Q I h;obtain⟨cl,hcl,c1,c2⟩:=gk L I.ok;rw[eval_ListComp];refine wpAny_comprehension_free (use:=none) (g:=⟨tg,iter,ifs,0⟩) (gs:=[]) rfl hs hcl L.kind L.names ?_;refine thn (hi pins s σ H _ I h) λ v s1 h1=>thn h1 λ itv s2 h2=>?_;obtain⟨it,fp,tn,J,H2,e,I2,T,st2,f2,W,w0,turn⟩:=h2;subst e;refine xQ (cl:=cl) hc L c1 c2 (hg cl) (ht cl) (he cl) I2 T st2 f2 w0 turn λ D C s' H' ys us n m I' a' hv hz hD hC dD dC hDC hns fin=>?_;refine⟨m,hns,λ h' sb=>?_⟩;have far:∀ b,s2.heap.objs.size<=b->(X.s₀.heap.objs.size<=b)/\b≠X.env.locals/\(∀ x c,X.env.cells.lookup x=some c->c≠b)/\∀ p∈X.pn++pins,p.1≠b:=λ b hb=>by obtain⟨_,f1,_,f3,f4,f5⟩:=I2.mB (H':=λ _=>none) hb rfl;refine⟨Nat.le_trans I2.sz hb,f1,f4,f5⟩
 obtain⟨z1,z2,z3,z4⟩:=far C dC;obtain⟨y1,y2,y3,y4⟩:=far D dD;have I3:Inv X pins σ H' {s' with heap:=h'}:=I'.turned (t':=s'.toks) (λ b o hb e=>sb.extBut b o hb e) hC z2 (.inr z1) z3 z4;exact⟨.ref D,_,I3.aeY (sb.extBut _ _ hDC a') hD hv hz y1 y2 y3 y4,rfl,fin D hD⟩
theorem tV(hN:X.N.Nodup)(hi':X.N[i]? =some x)(hx:Loc X.env.scope x)(hc:X.calm=true)(L:lY X sc own fr)(hi:PI X tg iter wi)
  (hg:∀ cl C s H ex pl,PG (blk X sc (lcN X own fr) cl C s H ex pl) tg g)(ht:∀ cl C s H ex pl,PTs (blk X sc (lcN X own fr) cl C s H ex pl) ifs tt)(he:∀ cl C s H ex pl,PE (blk X sc (lcN X own fr) cl C s H ex pl) elt te)
  (hsw:swapsWith (.ListComp elt [⟨tg,iter,ifs,0⟩] sc pos) (some (.Name x pos')) spos.line X.env=pure true:=by rfl)
  (hs:∀ x,foldedSetIterable iter X.env x=pure x:=by intro _;rfl)(hf:X.fn x=true\/X.env.scope.names.lookup x=some .local:=by first | exact .inl rfl | exact .inr rfl | assumption) :
  PS X (.Assign [.Name x pos'] (.ListComp elt [⟨tg,iter,ifs,0⟩] sc pos) spos) (aep (tLC wi g tt te own.length fr) (zm i)):=by
 intro pins s σ H D' I h;obtain⟨cl,hcl,c1,c2⟩:=gk L I.ok;rw[exec_Assign_Name_used _ _ _ _ hsw];refine wpAny_bind (wpAny_standAt (wpAny_bind ?_));show wpAny _ _ (evalThenUse (.ListComp elt [⟨tg,iter,ifs,0⟩] sc pos) X.env (assign (.Name x pos') X.env)) _ _ _;unfold evalThenUse;refine wpAny_bind ?_;refine wpAny_comprehension_free (use:=some (assign (.Name x pos') X.env)) (g:=⟨tg,iter,ifs,0⟩) (gs:=[]) rfl hs hcl L.kind L.names ?_;refine thn (hi pins s σ H _ I h) λ v s1 h1=>thn h1 λ itv s2 h2=>?_;obtain⟨it,fp,tn,J,H2,e,I2,T,st2,f2,W,w0,turn⟩:=h2;subst e;refine xQ (cl:=cl) hc L c1 c2 (hg cl) (ht cl) (he cl) I2 T st2 f2 w0 turn λ D C s' H' ys us n m I' a' hv hz hD hC dD dC hDC hns fin=>?_;have far:∀ b,s2.heap.objs.size<=b->(X.s₀.heap.objs.size<=b)/\b≠X.env.locals/\(∀ x c,X.env.cells.lookup x=some c->c≠b)/\(b ∉ X.fs)/\∀ p∈X.pn++pins,p.1≠b:=λ b hb=>by obtain⟨_,f1,f2,f3,f4,f5⟩:=I2.mB (H':=λ _=>none) hb rfl;refine⟨Nat.le_trans I2.sz hb,f1,f4,f2,f5⟩
 obtain⟨z1,z2,z3,z0,z4⟩:=far C dC;obtain⟨y1,y2,y3,_,y4⟩:=far D dD;have I3:=I'.aeY a' hD hv hz y1 y2 y3 y4;obtain⟨oC,hoC,nsC⟩:∃ o,s'.heap.get? C=some o/\∃ es ep,o.data=.dict es ep:=by obtain⟨o,es,ep,e1,e2,_⟩:=hns;exact⟨o,e1,es,ep,e2⟩
 have hCt:(upd H' D (.lst ys)) C=none:=by rw[aq (Ne.symm hDC)];exact hC
 have I4:Inv X (pins++[(C,oC)]) σ (upd H' D (.lst ys)) s':=I3.d5 λ p hp=>by
  rcases List.mem_append.mp hp with z | z
  ·exact I3.pin p (List.mem_append_right _ z)
  ·have e:p=(C,oC):=by simpa using z
   subst e;obtain⟨es,ep,hd⟩:=nsC;exact⟨hoC,hCt,z2,z0,λ v z=>by have z':oC.data=.cell v:=z;rw[hd] at z';cases z'⟩
 refine thn (qI (pos:=pos') hN hi' hx hf _ s' σ _ (.ref D) (.ref D) _ I4 rfl (fin D hD)) λ _ s5 hq35=>?_;obtain⟨σ5,H5,I5,q5⟩:=hq35;have pC:=I5.pin (C,oC) (List.mem_append_right _ (List.mem_append_right _ (List.mem_singleton.mpr rfl)));obtain⟨o,es,ep,e1,e2,e3⟩:=hns;rw[hoC] at e1;cases e1;refine⟨m,⟨oC,es,ep,pC.1,e2,e3⟩,λ h' sb=>?_⟩;have I6:Inv X pins σ5 H5 {s5 with heap:=h'}:=(I5.hU).turned (t':=s5.toks) (λ b o hb e=>sb.extBut b o hb e) pC.2.1 z2 (.inr z1) z3 z4;exact wpAny_pure (wpAny_pure ⟨σ5,H5,I6,q5⟩)
end
end L2
namespace D
open L2
abbrev St:=L2.St
structure Kp(H H':Hp):Prop where
 tup:∀ b xs,H b=some (.tup xs)->H' b=some (.tup xs)
 frz:∀ b o u,H b=some (.frz o u)->H' b=some (.frz o u)
theorem Kp.refl(H:Hp):Kp H H:=⟨λ _ _ e=>e,λ _ _ _ e=>e⟩
theorem Kp.trans(a:Kp H H1)(b:Kp H1 H2):Kp H H2:=⟨λ c xs e=>b.tup c xs (a.tup c xs e),λ c o u e=>b.frz c o u (a.frz c o u e)⟩
theorem Kp.new(h:H p=none):Kp H (upd H p o):=⟨λ b xs e=>by rw[aq (aS e h)];exact e,λ b ob u e=>by rw[aq (aS e h)];exact e⟩
theorem Kp.set(h:H p=some u)(ht:∀ xs,u ≠ .tup xs)(hf:∀ ob v,u ≠ .frz ob v):Kp H (upd H p o):=
 ⟨λ b xs e=>by rw[aq (uC e h λ z=>ht _ z.symm)];exact e,λ b ob v e=>by rw[aq (uC e h λ z=>hf _ _ z.symm)];exact e⟩
theorem Kp.un(u:Un fs ex H H' h h'):Kp H H':=⟨u.tups,u.frzs⟩
def SqF(K:FG)(H:Hp)(a:Addr)(xs:List V):Prop:=
 (∃ o,H a=some (.frz o (.lst xs)))\/∃ (o:Obj) (its:Array Value) (n:Nat),K.lookup a=some o/\o.cls=.type "list" /\ o.dict=none/\o.data=.seq its n/\its.size<=sizeLine/\Vals xs its.toList
theorem SqF.sq{K:FG}{H:Hp}{a:Addr}{xs:List V}(h:SqF K H a xs):SqL K H a xs:=by
 rcases h with h | h
 ·exact .inl (.inr h)
 ·exact .inr h
theorem SqF.keep{K:FG}{H H':Hp}{a:Addr}{xs:List V}(k:Kp H H')(h:SqF K H a xs):SqF K H' a xs:=by
 rcases h with ⟨o,h⟩ | h
 ·exact .inl ⟨o,k.frz _ _ _ h⟩
 ·exact .inr h
theorem SqT.keep{K:FG}{H H':Hp}{a:Addr}{xs:List V}(k:Kp H H')(h:SqT K H a xs):SqT K H' a xs:=by
 rcases h with (h | ⟨o,h⟩) | h
 ·exact .inl (.inl (k.tup _ _ h))
 ·exact .inl (.inr ⟨o,k.frz _ _ _ h⟩)
 ·exact .inr h
def tU:Key->PyData
 | .inl i=>.int i
 | .inr x=>.str x
mutual
def aA(K:FG)(H:Hp):PyData->V->Prop
 | .none,v=>v=.non
 | .bool b,v=>v=.bl b
 | .int i,v=>v=.int i
 | .str x,v=>v=.str x
 | .list ds,v=>∃ a vs,v=.ref a/\SqF K H a vs/\a9 K H ds vs
 | .tuple ds,v=>∃ a vs,v=.ref a/\SqT K H a vs/\a9 K H ds vs
 | .dict kvs,v=>∃ a o l,v=.ref a/\H a=some (.frz o (.dK l))/\gW K H kvs l
def a9(K:FG)(H:Hp):List PyData->List V->Prop
 | [],vs=>vs=[]
 | d::ds,vs=>∃ v r,vs=v::r/\aA K H d v/\a9 K H ds r
def gW(K:FG)(H:Hp):List (PyData×PyData)->List (Key×V)->Prop
 | [],l=>l=[]
 | (k,d)::ds,l=>∃ key v r,l=(key,v)::r/\k=tU key/\aA K H d v/\gW K H ds r
end
mutual
theorem aA.keep{K:FG}{H H':Hp}(k:Kp H H'):∀ {d:PyData} {v:V},aA K H d v->aA K H' d v
 | .none,v,h=>by simp only[aA] at h ⊢;exact h
 | .bool b,v,h=>by simp only[aA] at h ⊢;exact h
 | .int i,v,h=>by simp only[aA] at h ⊢;exact h
 | .str x,v,h=>by simp only[aA] at h ⊢;exact h
 | .list ds,v,h=>by simp only[aA] at h ⊢;obtain⟨a,vs,e,s,r⟩:=h;exact⟨a,vs,e,s.keep k,a9.keep k r⟩
 | .tuple ds,v,h=>by simp only[aA] at h ⊢;obtain⟨a,vs,e,s,r⟩:=h;exact⟨a,vs,e,SqT.keep k s,a9.keep k r⟩
 | .dict kvs,v,h=>by simp only[aA] at h ⊢;obtain⟨a,o,l,e,s,r⟩:=h;exact⟨a,o,l,e,k.frz _ _ _ s,gW.keep k r⟩
theorem a9.keep{K:FG}{H H':Hp}(k:Kp H H'):∀ {ds:List PyData} {vs:List V},a9 K H ds vs->a9 K H' ds vs
 | [],vs,h=>by simp only[a9] at h ⊢;exact h
 | d::ds,vs,h=>by simp only[a9] at h ⊢;obtain⟨v,r,e,h1,h2⟩:=h;exact⟨v,r,e,aA.keep k h1,a9.keep k h2⟩
theorem gW.keep{K:FG}{H H':Hp}(k:Kp H H'):∀ {ds:List (PyData×PyData)} {l:List (Key×V)},gW K H ds l->gW K H' ds l
 | [],l,h=>by simp only[gW] at h ⊢;exact h
 | (key,d)::ds,l,h=>by simp only[gW] at h ⊢;obtain⟨k',v,r,e,ek,h1,h2⟩:=h;exact⟨k',v,r,e,ek,aA.keep k h1,gW.keep k h2⟩
end
theorem a9.length{K:FG}{H:Hp}:∀ {ds:List PyData} {vs:List V},a9 K H ds vs->vs.length=ds.length
 | [],vs,h=>by simp only[a9] at h;rw[h];rfl
 | d::ds,vs,h=>by simp only[a9] at h;obtain⟨v,r,e,_,h2⟩:=h;rw[e,List.length_cons,List.length_cons,a9.length h2]
theorem a9.get{K:FG}{H:Hp}:∀ {ds:List PyData} {vs:List V} {i:Nat} {d:PyData},a9 K H ds vs->ds[i]? =some d->∃ v,vs[i]? =some v/\aA K H d v
 | [],_,_,_,_,e=>by simp at e
 | d::ds,vs,0,d',h,e=>by simp only[a9] at h;obtain⟨v,r,ev,h1,_⟩:=h;simp at e;subst e;exact⟨v,by rw[ev];rfl,h1⟩
 | d::ds,vs,i+1,d',h,e=>by simp only[a9] at h;obtain⟨v,r,ev,_,h2⟩:=h;obtain⟨v',e1,e2⟩:=a9.get (i:=i) h2 (by simpa using e);exact⟨v',by rw[ev];simpa using e1,e2⟩
theorem a9.get'{K:FG}{H:Hp}{ds:List PyData}{vs:List V}{i:Nat}{v:V}(h:a9 K H ds vs)(e:vs[i]? =some v):∃ d,ds[i]? =some d/\aA K H d v:=by
 have hi:i<ds.length:=by have:=(List.getElem?_eq_some_iff.mp e).1;rw[h.length] at this;exact this
 obtain⟨v',e1,r⟩:=h.get (i:=i) (d:=ds[i]) (by simp[hi]);rw[e] at e1;cases e1;exact⟨ds[i],by simp[hi],r⟩
theorem a9.ints{K:FG}{H:Hp}:∀ (ns:List Int),a9 K H (ns.map PyData.int) (ns.map V.int)
 | []=>by simp[a9]
 | n::ns=>by simp only[List.map_cons,a9];exact⟨_,_,rfl,by simp[aA],a9.ints ns⟩
theorem a9.append{K:FG}{H:Hp}:∀ {ds es:List PyData} {vs us:List V},a9 K H ds vs->a9 K H es us->a9 K H (ds++es) (vs++us)
 | [],es,vs,us,h,q=>by simp only[a9] at h;subst h;exact q
 | d::ds,es,vs,us,h,q=>by simp only[a9] at h;obtain⟨v,r,e,h1,h2⟩:=h;subst e;simp only[List.cons_append,a9];exact⟨v,r++us,rfl,h1,a9.append h2 q⟩
theorem a9.drop{K:FG}{H:Hp}:∀ {ds:List PyData} {vs:List V} (n:Nat),a9 K H ds vs->a9 K H (ds.drop n) (vs.drop n)
 | ds,vs,0,h=>by simpa using h
 | [],vs,n+1,h=>by simp only[a9] at h;subst h;simp[a9]
 | d::ds,vs,n+1,h=>by
  simp only[a9] at h;obtain⟨v,r,e,_,h2⟩:=h;subst e
  simpa using a9.drop n h2
theorem a9.take{K:FG}{H:Hp}:∀ {ds:List PyData} {vs:List V} (n:Nat),a9 K H ds vs->a9 K H (ds.take n) (vs.take n)
 | ds,vs,0,h=>by simp[a9]
 | [],vs,n+1,h=>by simp only[a9] at h;subst h;simp[a9]
 | d::ds,vs,n+1,h=>by simp only[a9] at h;obtain⟨v,r,e,h1,h2⟩:=h;subst e;simp only[List.take_succ_cons,a9];exact⟨v,_,rfl,h1,a9.take n h2⟩
inductive W where
 | d (x:PyData)
 | m (a:Addr)
 | t (n:String)
inductive MO where
 | lst (ws:List W)
 | dic (kvs:List (Key×W))
 | dct (kvs:List (List Key×W))
 | fdic (kvs:List (Key×W))
 | ins (C:Addr) (fs:List (Str×W))
 | tup (ws:List W)
 | flst (ws:List W)
 | exc (C:Addr) (fs:List (Str×W))
 | code (q:Str) (pos:Pos)
abbrev MH:=Addr->Option MO
def bf(M:MH)(a:Addr)(o:MO):MH:=λ b=>if b=a then some o else M b
theorem ag:bf M a o a=some o:=if_pos rfl
theorem aj(h:b≠a):bf M a o b=M b:=if_neg h
theorem hZ:bf (bf M a o) a u=bf M a u:=by funext b;unfold bf;split<;>rfl
abbrev DS:=List (Option W)
def aE(K:FG)(H:Hp):W->V->Prop
 | .d x,v=>aA K H x v
 | .m a,v=>v=.ref a
 | .t n,v=>v=.ty n
theorem aE.keep{K:FG}{H H':Hp}(k:Kp H H'):∀ {w:W} {v:V},aE K H w v->aE K H' w v
 | .d _,_,h=>aA.keep k h
 | .m _,_,h=>h
 | .t _,_,h=>h
def aQ(K:FG)(H:Hp):List W->List V->Prop:=Paired (aE K H)
theorem aQ.keep{K:FG}{H H':Hp}(k:Kp H H'){ws:List W}{vs:List V}(h:aQ K H ws vs):aQ K H' ws vs:=Paired.gF h λ _ _ r=>r.keep k
theorem aQ.length{K:FG}{H:Hp}{ws:List W}{vs:List V}(h:aQ K H ws vs):ws.length=vs.length:=Paired.length h
theorem aQ.get{K:FG}{H:Hp}:∀ {ws:List W} {vs:List V} {i:Nat} {w:W},aQ K H ws vs->ws[i]? =some w->∃ v,vs[i]? =some v/\aE K H w v
 | _,_,_,_,.nil,e=>by simp at e
 | _,_,0,_,.cons r _,e=>by simp at e;subst e;exact⟨_,rfl,r⟩
 | _,_,i+1,_,.cons _ t,e=>by obtain⟨u,h1,h2⟩:=aQ.get (i:=i) t (by simpa using e);exact⟨u,by simpa using h1,h2⟩
theorem aQ.set{K:FG}{H:Hp}{w:W}{v:V}(r:aE K H w v):∀ {ws:List W} {vs:List V} (i:Nat),aQ K H ws vs->aQ K H (ws.set i w) (vs.set i v)
 | _,_,_,.nil=>.nil
 | _,_,0,.cons _ t=>.cons r t
 | _,_,i+1,.cons q t=>.cons q (aQ.set r i t)
theorem aQ.append{K:FG}{H:Hp}:∀ {ws ws':List W} {vs vs':List V},aQ K H ws vs->aQ K H ws' vs'->aQ K H (ws++ws') (vs++vs')
 | _,_,_,_,.nil,s=>s
 | _,_,_,_,.cons r t,s=>.cons r (aQ.append t s)
theorem aQ.data{K:FG}{H:Hp}:∀ {ds:List PyData} {vs:List V},aQ K H (ds.map W.d) vs->a9 K H ds vs
 | [],_,h=>by cases h;simp[a9]
 | d::ds,_,h=>by
  cases h with
  | cons r t=>simp only[a9];exact⟨_,_,rfl,r,aQ.data t⟩
theorem a9.ws{K:FG}{H:Hp}:∀ {ds:List PyData} {vs:List V},a9 K H ds vs->aQ K H (ds.map W.d) vs
 | [],vs,h=>by simp only[a9] at h;subst h;exact .nil
 | d::ds,vs,h=>by simp only[a9] at h;obtain⟨v,r,e,h1,h2⟩:=h;subst e;exact .cons h1 (a9.ws h2)
def abQ(K:FG)(H:Hp)(a:Addr):MO->Prop
 | .lst ws=>∃ vs,H a=some (.lst vs)/\aQ K H ws vs
 | .dic kvs=>∃ l,H a=some (.dK l)/\Paired (λ(p:Key×W) (q:Key×V)=>p.1=q.1/\aE K H p.2 q.2) kvs l
 | .fdic kvs=>∃ o l,H a=some (.frz o (.frz o (.dK l)))/\Paired (λ(p:Key×W) (q:Key×V)=>p.1=q.1/\aE K H p.2 q.2) kvs l
 | .dct kvs=>∃ l,H a=some (.dT l)/\Paired (λ(p:List Key×W) (q:List Key×V)=>p.1=q.1/\aE K H p.2 q.2) kvs l
 | .ins C fs=>∃ dx l,H a=some (.ins C dx l)/\Paired (λ(p:Str×W) (q:Str×V)=>p.1=q.1/\aE K H p.2 q.2) fs l
 | .tup ws=>∃ vs,H a=some (.tup vs)/\aQ K H ws vs
 | .flst ws=>∃ o vs,H a=some (.frz o (.frz o (.lst vs)))/\aQ K H ws vs
 | .exc C fs=>∃ φ dct,H a=some (.ext φ)/\(∀ h,φ h->∃ vs,h.get? a=some {cls:=.ref C,dict:=dct,data:=.fields vs}/\(fs=[]->vs[2]? =some .none)) /\
   ((dct=none/\fs=[])\/∃ dx o l,dct=some dx/\H dx=some (.frz o (.xd l))/\Paired (λ(p:Str×W) (q:Str×V)=>p.1=q.1/\aE K H p.2 q.2) fs l)
 | .code q pos=>∃ ps,H a=some (.tbl ps)/\TriplesOk ps.toList/\(codeAmong pos ps.toList=none\/∃ c o vs t,codeAmong pos ps.toList=some (.ref c)/\H c=some (.frz o (.own 0))/\o.data=.fields vs/\vs[1]? =some (.str q t))
def cq(K:FG)(H:Hp)(M:MH):Prop:=∀ a o,M a=some o->abQ K H a o
theorem abQ.is{K:FG}{H:Hp}{a:Addr}{o:MO}(h:abQ K H a o):∃ u,H a=some u:=by
 cases o with
 | lst ws=>obtain⟨vs,e,_⟩:=h;exact⟨_,e⟩
 | dic kvs=>obtain⟨l,e,_⟩:=h;exact⟨_,e⟩
 | dct kvs=>obtain⟨l,e,_⟩:=h;exact⟨_,e⟩
 | fdic kvs=>obtain⟨o,l,e,_⟩:=h;exact⟨_,e⟩
 | ins C fs=>obtain⟨dx,l,e,_⟩:=h;exact⟨_,e⟩
 | tup ws=>obtain⟨vs,e,_⟩:=h;exact⟨_,e⟩
 | flst ws=>obtain⟨o,vs,e,_⟩:=h;exact⟨_,e⟩
 | exc C fs=>obtain⟨φ,dct,e,_⟩:=h;exact⟨_,e⟩
 | code q pos=>obtain⟨ps,e,_⟩:=h;exact⟨_,e⟩
theorem cq.free{K:FG}{H:Hp}{M:MH}(h:cq K H M){p:Addr}(e:H p=none):M p=none:=by
 cases q:M p with
 | none=>rfl
 | some o =>
  obtain⟨u,z⟩:=(h p o q).is;rw[e] at z;cases z
theorem abQ.keep{K:FG}{H H':Hp}{a:Addr}{o:MO}(k:Kp H H')(s:∀ u,H a=some u->H' a=some u)(h:abQ K H a o):abQ K H' a o:=by
 cases o with
 | lst ws=>obtain⟨vs,e,r⟩:=h;exact⟨vs,s _ e,r.keep k⟩
 | dic kvs=>obtain⟨l,e,r⟩:=h;exact⟨l,s _ e,Paired.gF r λ p q z=>⟨z.1,z.2.keep k⟩⟩
 | dct kvs=>obtain⟨l,e,r⟩:=h;exact⟨l,s _ e,Paired.gF r λ p q z=>⟨z.1,z.2.keep k⟩⟩
 | fdic kvs=>obtain⟨o,l,e,r⟩:=h;exact⟨o,l,s _ e,Paired.gF r λ p q z=>⟨z.1,z.2.keep k⟩⟩
 | ins C fs=>obtain⟨dx,l,e,r⟩:=h;exact⟨dx,l,s _ e,Paired.gF r λ p q z=>⟨z.1,z.2.keep k⟩⟩
 | tup ws=>obtain⟨vs,e,r⟩:=h;exact⟨vs,s _ e,r.keep k⟩
 | flst ws=>obtain⟨o,vs,e,r⟩:=h;exact⟨o,vs,s _ e,r.keep k⟩
 | exc C fs =>
  obtain⟨φ,dct,e,p,r⟩:=h;refine⟨φ,dct,s _ e,p,?_⟩;rcases r with r | ⟨dx,o,l,e1,e2,r⟩
  ·exact .inl r
  ·exact .inr ⟨dx,o,l,e1,k.frz _ _ _ e2,Paired.gF r λ p q z=>⟨z.1,z.2.keep k⟩⟩
 | code q pos =>
  obtain⟨ps,e,ht,hc⟩:=h;refine⟨ps,s _ e,ht,?_⟩;rcases hc with hc | ⟨c,o,vs,t,e1,e2,e3⟩
  ·exact .inl hc
  ·exact .inr ⟨c,o,vs,t,e1,k.frz _ _ _ e2,e3⟩
theorem cq.new{K:FG}{H:Hp}{M:MH}{p:Addr}{o:HO}(h:cq K H M)(e:H p=none):cq K (upd H p o) M:=λ a mo q =>
 (h a mo q).keep (Kp.new e) λ u z=>by rw[aq (aS z e)];exact z
theorem cq.put{K:FG}{H:Hp}{M:MH}{p:Addr}{o:HO}{mo:MO}(h:cq K H M)(k:Kp H (upd H p o))(r:abQ K (upd H p o) p mo):cq K (upd H p o) (bf M p mo):=λ a mo' q=>by
 by_cases e:a=p
 ·subst e;rw[ag] at q;cases q;exact r
 ·rw[aj e] at q;exact(h a mo' q).keep k λ u z=>by rw[aq e];exact z
structure Abs(K:FG)(H:Hp)(σ:St)(τ:DS)(M:MH):Prop where
 len:σ.length=τ.length
 val:∀ (i:Nat) w,τ[i]? =some (some w)->∃ v,σ[i]? =some (some v)/\aE K H w v
 mem:cq K H M
theorem Abs.go{K:FG}{H H':Hp}{σ:St}{τ:DS}{M M':MH}(h:Abs K H σ τ M)(k:Kp H H')(m:cq K H' M'):Abs K H' σ τ M':=
 ⟨h.len,λ i w e=>let ⟨v,q,r⟩:=h.val i w e; ⟨v,q,r.keep k⟩,m⟩
theorem Abs.set{K:FG}{H:Hp}{σ:St}{τ:DS}{M:MH}{w:W}{v:V}(h:Abs K H σ τ M)(i:Nat)(r:aE K H w v):Abs K H (σ.set i (some v)) (τ.set i (some w)) M:=by
 refine⟨by rw[List.length_set,List.length_set];exact h.len,λ j w' e=>?_,h.mem⟩
 by_cases hj:i=j
 ·subst hj;have hl:i<τ.length:=by
   have:=(List.getElem?_eq_some_iff.mp e).1
   rwa[List.length_set] at this
  rw[List.getElem?_set_self hl] at e;cases e;exact⟨v,List.getElem?_set_self (by rw[h.len];exact hl),r⟩
 ·rw[List.getElem?_set_ne hj] at e;obtain⟨v',q,r'⟩:=h.val j w' e;exact⟨v',by rw[List.getElem?_set_ne hj];exact q,r'⟩
abbrev QD:=W->MH->Prop
abbrev TD:=DS->MH->QD->Prop
abbrev TTd:=DS->MH->(Bool->MH->Prop)->Prop
abbrev TAd:=DS->MH->(List W->MH->Prop)->Prop
structure Ed where
 nx:DS->MH->Prop
 rt:QD
 bk:DS->MH->Prop:=λ _ _=>False
 ct:DS->MH->Prop:=λ _ _=>False
abbrev TSd:=Ed->DS->MH->Prop
def up(K:FG)(t:TD):TE:=λ σ H Q=>∃ τ M Qd,Abs K H σ τ M/\t τ M Qd/\∀ v H' w M',Kp H H'->aE K H' w v->cq K H' M'->Qd w M'->Q v H'
def upT(K:FG)(t:TTd):TT:=λ σ H Q=>∃ τ M Qd,Abs K H σ τ M/\t τ M Qd/\∀ b H' M',Kp H H'->cq K H' M'->Qd b M'->Q b H'
def upA(K:FG)(t:TAd):TA:=λ σ H Q=>∃ τ M Qd,Abs K H σ τ M/\t τ M Qd/\∀ vs H' ws M',Kp H H'->aQ K H' ws vs->cq K H' M'->Qd ws M'->Q vs H'
def upS(K:FG)(t:TSd):TS:=λ D σ H=>∃ τ M Dd,Abs K H σ τ M/\t Dd τ M /\
 (∀ σ' H' τ' M',Kp H H'->Abs K H' σ' τ' M'->Dd.nx τ' M'->D.nx σ' H')/\(∀ v H' w M',Kp H H'->aE K H' w v->cq K H' M'->Dd.rt w M'->D.rt v H') /\
 (∀ σ' H' τ' M',Kp H H'->Abs K H' σ' τ' M'->Dd.bk τ' M'->D.bk σ' H')/\(∀ σ' H' τ' M',Kp H H'->Abs K H' σ' τ' M'->Dd.ct τ' M'->D.ct σ' H')
abbrev PD(X:Cx)(e:Expr)(t:TD):Prop:=PE X e (up X.K t)
abbrev PTd(X:Cx)(e:Expr)(t:TTd):Prop:=PT X e (upT X.K t)
abbrev PAd(X:Cx)(es:List Expr)(t:TAd):Prop:=PA X es (upA X.K t)
abbrev PSd(X:Cx)(st:Stmt)(t:TSd):Prop:=PS X st (upS X.K t)
abbrev lp(X:Cx)(st:List Stmt)(t:TSd):Prop:=PSs X st (upS X.K t)
theorem ft(h:PE X e t)(k:∀ σ H Q,t' σ H Q->t σ H Q):PE X e t':=λ pins s σ H Q I q=>h pins s σ H Q I (k σ H Q q)
theorem ad7(h:PT X e t)(k:∀ σ H Q,t' σ H Q->t σ H Q):PT X e t':=λ pins s σ H Q I q=>h pins s σ H Q I (k σ H Q q)
theorem aiD(h:PA X es t)(k:∀ σ H Q,t' σ H Q->t σ H Q):PA X es t':=λ pos pins s σ H Q I q=>h pos pins s σ H Q I (k σ H Q q)
theorem qH{st:Stmt}{t t':TS}(h:PS X st t)(k:∀ D σ H,t' D σ H->t D σ H):PS X st t':=λ pins s σ H D I q=>h pins s σ H D I (k D σ H q)
theorem afJ{st:List Stmt}{t t':TS}(h:PSs X st t)(k:∀ D σ H,t' D σ H->t D σ H):PSs X st t':=λ pins s σ H D I q=>h pins s σ H D I (k D σ H q)
end D
namespace D
open L2
section
variable {X:Cx}{pos:Pos}{a b c e:Expr}{ta tb tc te:TD}{K:FG}
abbrev Kont(K:FG)(H:Hp)(Qd:QD)(Q:VK):Prop:=∀ v H' w M',Kp H H'->aE K H' w v->cq K H' M'->Qd w M'->Q v H'
theorem kgo(k:Kont K H Qd Q)(kp:Kp H H1):Kont K H1 Qd Q:=λ v H' w M' k2 r m q=>k v H' w M' (kp.trans k2) r m q
inductive aiF(i:Nat) (τ:DS) (M:MH) (Q:QD):Prop
 | mk (w:W) (z:τ[i]? =some (some w)) (q:Q w M):aiF i τ M Q
def ar(i:Nat)(τ:DS)(M:MH)(Q:QD):Prop:=aiF i τ M Q
theorem agb(h:PE X e (aiI i)):PD X e (ar i):=ft h λ σ H Q hq36=>by obtain⟨τ,M,Qd,A,⟨w,e,q⟩,k⟩:=hq36;obtain⟨v,e',r⟩:=A.val i w e;exact⟨v,e',k v H w M (Kp.refl H) r A.mem q⟩
def dC(w:W)(_:DS)(M:MH)(Q:QD):Prop:=Q w M
theorem aea(h:PE X e (tC v))(r:∀ H,aE X.K H w v):PD X e (dC w):=ft h λ σ H Q ⟨τ,M,Qd,A,q,k⟩=>k v H w M (Kp.refl H) (r H) A.mem q
def OpD(K:FG)(r:R2)(rd:W->W->MH->QD->Prop):Prop:=∀ x y H w w' M Qd Q,aE K H w x->aE K H w' y->cq K H M->rd w w' M Qd->Kont K H Qd Q->r x y H Q
def dOp(rd:W->W->MH->QD->Prop)(ta tb:TD)(τ:DS)(M:MH)(Q:QD):Prop:=ta τ M λ w M1=>tb τ M1 λ w' M2=>rd w w' M2 Q
theorem ua(hd:OpD K r rd)(h:up K (dOp rd ta tb) σ H Q):tOp r (up K ta) (up K tb) σ H Q:=by obtain⟨τ,M,Qd,A,h,k⟩:=h;refine⟨τ,M,_,A,h,λ x H1 w M1 kp r1 m1 q1=>⟨τ,M1,_,A.go kp m1,q1,λ y H2 w' M2 kp2 r2 m2 q2=>?_⟩⟩;exact hd x y H2 w w' M2 Qd Q (r1.keep kp2) r2 m2 q2 (kgo k (kp.trans kp2))
theorem aha(ho:OpR X (binaryOp op) r)(hd:OpD X.K r rd)(ha:PD X a ta)(hb:PD X b tb):PD X (.BinOp a op b pos) (dOp rd ta tb):=ft (aet ho ha hb) λ σ H Q h=>ua hd h
theorem af9(ho:OpR X (compareOp op) r)(hd:OpD X.K r rd)(ha:PD X a ta)(hb:PD X b tb)(hm:behindInMarks op b=false:=by first | exact iD _ (by decide) (by decide) | rfl) :
  PD X (.Compare a [op] [b] pos) (dOp rd ta tb):=ft (ado ho ha hb hm) λ σ H Q h=>ua hd h
theorem ahZ(hr:IxR X r)(hd:OpD X.K r rd)(ha:PD X a ta)(hb:PD X b tb)(hs:sf b:=by intro _ _;rfl):PD X (.Subscript a b pos) (dOp rd ta tb):=ft (aij hr ha hb hs) λ σ H Q h=>ua hd h
def aW(t:TD)(τ:DS)(M:MH)(Q:Bool->MH->Prop):Prop:=t τ M λ w M1=>∃ k,w=.d (.bool k)/\Q k M1
theorem jw(hi:∀ σ H Q,up K ta σ H Q->t' σ H Q)(h:upT K (aW ta) σ H Q):ada t' σ H Q:=by obtain⟨τ,M,Qd,A,h,k⟩:=h;refine hi σ H _ ⟨τ,M,_,A,h,λ v H' w M' kp r m hq37=>?_⟩;obtain⟨b,e,q⟩:=hq37;subst e;simp only[aE,aA] at r;exact⟨b,r,k b H' M' kp m q⟩
theorem ab9(ho:OpR X (compareOp op) r)(hd:OpD X.K r rd)(ha:PD X a ta)(hb:PD X b tb)(hm:behindInMarks op b=false:=by first | exact iD _ (by decide) (by decide) | rfl) :
  PTd X (.Compare a [op] [b] pos) (aW (dOp rd ta tb)):=ad7 (adw ho ha hb hm) λ σ H Q h=>jw (λ _ _ _ q=>ua hd q) h
theorem adk(h:PD X e te)(he:∀ whole,isTrue e X.env whole=(do let v <- whole;standAt e.pos;holding [v] (truthy v)):=by intro _;rfl):PTd X e (aW te):=ad7 (agF h he) λ σ H Q q=>jw (λ _ _ _ z=>z) q
def fH(r r':W->W->MH->QD->Prop)(ta tb tc:TD)(τ:DS)(M:MH)(Q:QD):Prop:=ta τ M λ x M1=>tb τ M1 λ y M2=>r x y M2 λ z M3=>∃ k,z=.d (.bool k)/\(if k=true then tc τ M3 λ w' M4=>r' y w' M4 Q else Q (.d (.bool false)) M3)
theorem oS(hd:OpD K r rd)(hd':OpD K r' rd')(h:up K (fH rd rd' ta tb tc) σ H Q):wV r r' (up K ta) (up K tb) (up K tc) σ H Q:=by
 obtain⟨τ,M,Qd,A,h,k⟩:=h;refine⟨τ,M,_,A,h,λ x H1 w M1 kp r1 m1 q1=>⟨τ,M1,_,A.go kp m1,q1,λ y H2 w' M2 kp2 r2 m2 q2=>?_⟩⟩;have kq:=kp.trans kp2;refine hd x y H2 w w' M2 _ _ (r1.keep kp2) r2 m2 q2 λ v H3 w'' M3 kp3 r3 m3 hq38=>?_;obtain⟨b,e,q3⟩:=hq38;subst e;simp only[aE,aA] at r3;refine⟨b,r3,?_⟩;have kr:=kq.trans kp3;cases b with
 | false =>
  rw[if_neg Bool.false_ne_true] at q3 ⊢;exact k _ H3 _ M3 kr (by simp[aE,aA]) m3 q3
 | true =>
  rw[if_pos rfl] at q3 ⊢;exact⟨τ,M3,_,A.go kr m3,q3,λ u H4 w4 M4 kp4 r4 m4 q4=>hd' y u H4 w' w4 M4 Qd Q (r2.keep (kp3.trans kp4)) r4 m4 q4 (kgo k (kr.trans kp4))⟩
theorem zW(ho:OpR X (compareOp op) r)(hd:OpD X.K r rd)(ho':OpR X (compareOp op') r')(hd':OpD X.K r' rd')(ha:PD X a ta)(hb:PD X b tb)(hc:PD X c tc)
  (hm:lastMarks [op,op'] [b,c]=false:=by with_unfolding_all rfl):PD X (.Compare a [op,op'] [b,c] pos) (fH rd rd' ta tb tc):=ft (aau ho ho' ha hb hc hm) λ σ H Q h=>oS hd hd' h
theorem xp(ho:OpR X (compareOp op) r)(hd:OpD X.K r rd)(ho':OpR X (compareOp op') r')(hd':OpD X.K r' rd')(ha:PD X a ta)(hb:PD X b tb)(hc:PD X c tc)
  (hm:lastMarks [op,op'] [b,c]=false:=by with_unfolding_all rfl):PTd X (.Compare a [op,op'] [b,c] pos) (aW (fH rd rd' ta tb tc)):=ad7 (zj ho ho' ha hb hc hm) λ σ H Q h=>jw (λ _ _ _ q=>oS hd hd' q) h
def UnD(K:FG)(r:V->Hp->VK->Prop)(rd:W->MH->QD->Prop):Prop:=∀ x H w M Qd Q,aE K H w x->cq K H M->rd w M Qd->Kont K H Qd Q->r x H Q
def dUn(rd:W->MH->QD->Prop)(ta:TD)(τ:DS)(M:MH)(Q:QD):Prop:=ta τ M λ w M1=>rd w M1 Q
theorem ahF(ho:UnR X (unaryOp op) r)(hd:UnD X.K r rd)(ha:PD X a ta):PD X (.UnaryOp op a pos) (dUn rd ta):=ft (ag6 ho ha) λ σ H Q h=>by obtain⟨τ,M,Qd,A,h,k⟩:=h;exact⟨τ,M,_,A,h,λ x H1 w M1 kp r1 m1 q1=>hd x H1 w M1 Qd Q r1 m1 q1 (kgo k kp)⟩
variable {tA tB:TTd}{rest:List Expr}
def ad6(t u:TTd)(τ:DS)(M:MH)(Q:Bool->MH->Prop):Prop:=t τ M λ k M1=>if k=true then u τ M1 Q else Q false M1
def dOr(t u:TTd)(τ:DS)(M:MH)(Q:Bool->MH->Prop):Prop:=t τ M λ k M1=>if k=true then Q true M1 else u τ M1 Q
def sk(t:TTd)(τ:DS)(M:MH)(Q:Bool->MH->Prop):Prop:=t τ M λ k M1=>Q (!k) M1
abbrev PWd(X:Cx)(e:Expr)(t:TTd):Prop:=PW X e (upT X.K t)
theorem pw_w(h:PW X e t)(k:∀ σ H Q,t' σ H Q->t σ H Q):PW X e t':=λ w pins s σ H Q I q=>h w pins s σ H Q I (k σ H Q q)
theorem aat(ha:PTd X a tA):PWd X (.BoolOp .And [a] pos) tA:=pw_and1 ha
theorem acv(ha:PTd X a tA):PWd X (.BoolOp .Or [a] pos) tA:=pw_or1 ha
theorem adf(ha:PTd X a tA)(hb:PWd X (.BoolOp .And (b::rest) pos) tB):PWd X (.BoolOp .And (a::b::rest) pos) (ad6 tA tB):=pw_w (pw_and ha hb) λ σ H Q h=>by
 obtain⟨τ,M,Qd,A,h,k⟩:=h;refine⟨τ,M,_,A,h,λ b H1 M1 kp m1 q1=>?_⟩;cases b with
 | true=>rw[if_pos rfl] at q1 ⊢;exact⟨τ,M1,Qd,A.go kp m1,q1,λ b H2 M2 kp2 m2 q2=>k b H2 M2 (kp.trans kp2) m2 q2⟩
 | false=>rw[if_neg Bool.false_ne_true] at q1 ⊢;exact k _ H1 M1 kp m1 q1
theorem afo(ha:PTd X a tA)(hb:PWd X (.BoolOp .Or (b::rest) pos) tB):PWd X (.BoolOp .Or (a::b::rest) pos) (dOr tA tB):=pw_w (pw_or ha hb) λ σ H Q h=>by
 obtain⟨τ,M,Qd,A,h,k⟩:=h;refine⟨τ,M,_,A,h,λ b H1 M1 kp m1 q1=>?_⟩;cases b with
 | false=>rw[if_neg Bool.false_ne_true] at q1 ⊢;exact⟨τ,M1,Qd,A.go kp m1,q1,λ b H2 M2 kp2 m2 q2=>k b H2 M2 (kp.trans kp2) m2 q2⟩
 | true=>rw[if_pos rfl] at q1 ⊢;exact k _ H1 M1 kp m1 q1
theorem ahw(h:PWd X e tA):PTd X e tA:=h.pt
theorem ac6(ha:PTd X a tA):PTd X (.UnaryOp .Not a pos) (sk tA):=ad7 (af0 ha) λ σ H Q h=>by obtain⟨τ,M,Qd,A,h,k⟩:=h;exact⟨τ,M,_,A,h,λ b H1 M1 kp m1 q1=>k (!b) H1 M1 kp m1 q1⟩
def mZ(ta tb:TD)(τ:DS)(M:MH)(Q:QD):Prop:=ta τ M λ x M1=>∃ k,x=.d (.bool k)/\if k=true then tb τ M1 Q else Q (.d (.bool false)) M1
def zc(ta:TD)(τ:DS)(M:MH)(Q:QD):Prop:=ta τ M λ x M1=>∃ k,x=.d (.bool k)/\Q (.d (.bool (!k))) M1
theorem agr{op}(h:PD X a ta):PD X (.BoolOp op [a] pos) ta:=aeO h
theorem aeV(ha:PD X a ta)(hb:PD X (.BoolOp .And (b::rest) pos) tb):PD X (.BoolOp .And (a::b::rest) pos) (mZ ta tb):=ft (aes ha hb) λ σ H Q h=>by
 obtain⟨τ,M,Qd,A,h,k⟩:=h;refine⟨τ,M,_,A,h,λ x H1 w M1 kp r1 m1 hq39=>?_⟩;obtain⟨b,e,q1⟩:=hq39;subst e;simp only[aE,aA] at r1;refine⟨b,r1,?_⟩;cases b with
 | true=>rw[if_pos rfl] at q1 ⊢;exact⟨τ,M1,Qd,A.go kp m1,q1,kgo k kp⟩
 | false=>rw[if_neg Bool.false_ne_true] at q1 ⊢;exact k _ H1 _ M1 kp (by simp[aE,aA]) m1 q1
theorem aev(ha:PD X a ta):PD X (.UnaryOp .Not a pos) (zc ta):=ft (afH ha) λ σ H Q h=>by obtain⟨τ,M,Qd,A,h,k⟩:=h;refine⟨τ,M,_,A,h,λ x H1 w M1 kp r1 m1 hq40=>?_⟩;obtain⟨b,e,q1⟩:=hq40;subst e;simp only[aE,aA] at r1;exact⟨b,r1,k _ H1 _ M1 kp (by simp[aE,aA]) m1 q1⟩
variable {es:List Expr}{t:TAd}
def aI(_:DS)(M:MH)(Q:List W->MH->Prop):Prop:=Q [] M
def ah(ta:TD)(tr:TAd)(τ:DS)(M:MH)(Q:List W->MH->Prop):Prop:=ta τ M λ w M1=>tr τ M1 λ ws M2=>Q (w::ws) M2
theorem jU:PAd X [] aI:=aiD mx λ σ H Q ⟨τ,M,Qd,A,h,k⟩=>k [] H [] M (Kp.refl H) .nil A.mem h
theorem sH(ha:PD X e te)(hr:PAd X es t)(hs:starEach (e::es) X.env=(false,eval e X.env)::starEach es X.env:=by rfl):PAd X (e::es) (ah te t):=aiD (gP ha hr hs) λ σ H Q h=>by obtain⟨τ,M,Qd,A,h,k⟩:=h;exact⟨τ,M,_,A,h,λ x H1 w M1 kp r1 m1 q1=>⟨τ,M1,_,A.go kp m1,q1,λ xs H2 ws M2 kp2 r2 m2 q2=>k _ H2 _ M2 (kp.trans kp2) (.cons (r1.keep kp2) r2) m2 q2⟩⟩
def nC:List W->Option (List PyData)
 | []=>some []
 | .d x::r=>(nC r).map (x::·)
 | _::_=>none
theorem mT:∀ {ws:List W} {ds:List PyData},nC ws=some ds->ws=ds.map W.d
 | [],ds,h=>by simp only[nC] at h;cases h;rfl
 | .d x::r,ds,h=>by
  simp only[nC] at h;cases q:nC r with
  | none=>rw[q] at h;cases h
  | some l=>rw[q] at h;cases h;rw[mT q];rfl
 | .m _::_,ds,h=>by simp[nC] at h
 | .t _::_,ds,h=>by simp[nC] at h
def pw(t:TAd)(τ:DS)(M:MH)(Q:QD):Prop:=t τ M λ ws M1=>∃ ds,nC ws=some ds/\ds.length<=sizeLine/\Q (.d (.list ds)) M1
theorem acG(hp:H p=none)(r:a9 K H ds vs):aA K (upd H p (.frz o (.lst vs))) (.list ds) (.ref p):=by simp only[aA];exact⟨p,vs,rfl,.inl ⟨o,au⟩,r.keep (Kp.new hp)⟩
theorem jX(hp:H p=none)(r:a9 K H ds vs)(m:cq K H M)(q:Qd (.d (.list ds)) M)(k:Kont K H Qd Q) :
  ∃ p' u,V.ref p=.ref p'/\(upd H p (.lst vs)) p'=some u/\Fz u/\∀ o,Q (.ref p) (upd (upd H p (.lst vs)) p' (.frz o u)):=by
 refine⟨p,_,rfl,au,trivial,λ o=>?_⟩;rw[xU];exact k _ _ (.d (.list ds)) M (Kp.new hp) (acG hp r) (m.new hp) q
theorem afY(h:PAd X es t):PD X (.List es pos) (pw t):=ft (p5 (abf h)) λ σ H Q h=>by obtain⟨τ,M,Qd,A,h,k⟩:=h;refine⟨τ,M,_,A,h,λ vs H1 ws M1 kp r1 m1 hq41=>?_⟩;obtain⟨ds,e,hz,q1⟩:=hq41;have e':=mT e;subst e';have rA:=r1.data;exact⟨by rw[rA.length];exact hz,λ p hp=>jX hp rA m1 q1 (kgo k kp)⟩
def oz(t:TAd)(τ:DS)(M:MH)(Q:QD):Prop:=t τ M λ ws M1=>ws.length<=sizeLine/\∀ p,M1 p=none->Q (.m p) (bf M1 p (.lst ws))
theorem adM(h:PAd X es t):PD X (.List es pos) (oz t):=ft (abf h) λ σ H Q h=>by obtain⟨τ,M,Qd,A,h,k⟩:=h;refine⟨τ,M,_,A,h,λ vs H1 ws M1 kp r1 m1 ⟨hz,q1⟩=>⟨by rw[<- r1.length];exact hz,λ p hp=>?_⟩⟩;exact k _ _ (.m p) (bf M1 p (.lst ws)) (kp.trans (Kp.new hp)) rfl (m1.put (mo:=.lst ws) (Kp.new hp) ⟨vs,au,r1.keep (Kp.new hp)⟩) (q1 p (m1.free hp))
def gu(t:TAd)(τ:DS)(M:MH)(Q:QD):Prop:=t τ M λ ws M1=>∃ ds,nC ws=some ds/\ds.length<=sizeLine/\Q (.d (.tuple ds)) M1
theorem aeN{x1}(h:PAd X es t):PD X (.Tuple es x1 pos) (gu t):=ft (abB h) λ σ H Q h=>by obtain⟨τ,M,Qd,A,h,k⟩:=h;refine⟨τ,M,_,A,h,λ vs H1 ws M1 kp r1 m1 hq42=>?_⟩;obtain⟨ds,e,hz,q1⟩:=hq42;have e':=mT e;subst e';have rA:=r1.data;refine⟨by rw[rA.length];exact hz,λ p hp=>k _ _ (.d (.tuple ds)) M1 (kp.trans (Kp.new hp)) ?_ (m1.new hp) q1⟩;simp only[aE,aA];exact⟨p,vs,rfl,.inl (.inl au),rA.keep (Kp.new hp)⟩
variable {x:Str}{p:Pos}{id T:String}{r:List V->Hp->VK->Prop}{rd:List W->MH->QD->Prop}
def fT(K:FG)(r:List V->Hp->VK->Prop)(rd:List W->MH->QD->Prop):Prop:=∀ vs H ws M Qd Q,aQ K H ws vs->cq K H M->rd ws M Qd->Kont K H Qd Q->r vs H Q
def dCB(rd:List W->MH->QD->Prop)(t:TAd)(τ:DS)(M:MH)(Q:QD):Prop:=t τ M λ ws M1=>rd ws M1 Q
theorem abE(hd:fT K r rd)(h:up K (dCB rd t) σ H Q):tCB r (upA K t) σ H Q:=by obtain⟨τ,M,Qd,A,h,k⟩:=h;exact⟨τ,M,_,A,h,λ vs H1 ws M1 kp r1 m1 q1=>hd vs H1 ws M1 Qd Q r1 m1 q1 (kgo k kp)⟩
theorem zE(hc:eP X (.builtin id) r)(hd:fT X.K r rd)(hg:Gl X x)(hm:X.mg x=none)(hv:bootBuiltins x=some (.builtin id))(ha:PAd X (e::es) t)(hn:x ≠ "__name__":= by decide)(hdb:ND x:=by decide)
  (he:starEach (e::es) X.env=(false,eval e X.env)::starEach es X.env:=by rfl)(hpl:(backTo pos (starEach es X.env)).any (·.1)=false:=by rfl):PD X (.Call (.Name x p) (e::es) [] pos) (dCB rd t):=
 ft (oe hc hg hm hv ha hn hdb he hpl) λ σ H Q h=>abE hd h
theorem xv(hc:eP X (.type T) r)(hd:fT X.K r rd)(hg:Gl X x)(hm:X.mg x=none)(hv:bootBuiltins x=some (.type T))(ha:PAd X (e::es) t)(hn:x ≠ "__name__":= by decide)(hdb:ND x:=by decide)
  (he:starEach (e::es) X.env=(false,eval e X.env)::starEach es X.env:=by rfl)(hpl:(backTo pos (starEach es X.env)).any (·.1)=false:=by rfl):PD X (.Call (.Name x p) (e::es) [] pos) (dCB rd t):=
 ft (wK hc hg hm hv ha hn hdb he hpl) λ σ H Q h=>abE hd h
end
section
variable {X:Cx}{pos:Pos}{st:Stmt}{sts:List Stmt}{t u:TSd}{e:Expr}{te:TD}{K:FG}
def dn(D:Ed)(τ:DS)(M:MH):Prop:=D.nx τ M
def bz(t u:TSd)(D:Ed)(τ:DS)(M:MH):Prop:=t {D with nx:=u D} τ M
theorem ye(h1:PSd X st t)(h2:lp X sts u):lp X (st::sts) (bz t u):=afJ (yV h1 h2) λ D σ H ⟨τ,M,Dd,A,h,k1,k2,k3,k4⟩ =>
 ⟨τ,M,{Dd with nx:=u Dd},A,h,λ σ' H' τ' M' kp A' q=>⟨τ',M',Dd,A',q,λ σ2 H2 τ2 M2 kp2=>k1 σ2 H2 τ2 M2 (kp.trans kp2),λ v H2 w M2 kp2=>k2 v H2 w M2 (kp.trans kp2),λ σ2 H2 τ2 M2 kp2=>k3 σ2 H2 τ2 M2 (kp.trans kp2),λ σ2 H2 τ2 M2 kp2=>k4 σ2 H2 τ2 M2 (kp.trans kp2)⟩,k2,k3,k4⟩
theorem yL(h1:PSd X st t):lp X [st] t:=vz h1
def gq(te:TD)(D:Ed)(τ:DS)(M:MH):Prop:=te τ M λ _ M1=>D.nx τ M1
theorem yY(he:PD X e te)(hs:swapsWith e none pos.line X.env=pure false:=by rfl):PSd X (.Expr e pos) (gq te):=qH (abL he hs) λ D σ H ⟨τ,M,Dd,A,h,k1,_⟩ =>
 ⟨τ,M,_,A,h,λ v H1 w M1 kp r m q=>k1 σ H1 τ M1 kp (A.go kp m) q⟩
def eA(te:TD)(D:Ed)(τ:DS)(M:MH):Prop:=te τ M D.rt
theorem ab1(he:PD X e te):PSd X (.Return (some e) pos) (eA te):=qH (af5 he) λ D σ H ⟨τ,M,Dd,A,h,k1,k2,_⟩=>⟨τ,M,_,A,h,λ v H1 w M1 kp r m q=>k2 v H1 w M1 kp r m q⟩
def dIf(c:TTd)(t u:TSd)(D:Ed)(τ:DS)(M:MH):Prop:=c τ M λ b M1=>if b=true then t D τ M1 else u D τ M1
theorem agO(hc:PTd X c tc)(ha:lp X a t)(hb:lp X b u):PSd X (.If c a b pos) (dIf tc t u):=qH (ag7 hc ha hb) λ D σ H hq43=>by
 obtain⟨τ,M,Dd,A,h,k1,k2,k3,k4⟩:=hq43;refine⟨τ,M,_,A,h,λ b H1 M1 kp m q=>?_⟩;have go:∀ {t':TSd},t' Dd τ M1->upS X.K t' D σ H1:=λ {t'} q=>⟨τ,M1,Dd,A.go kp m,q,λ σ2 H2 τ2 M2 kp2=>k1 σ2 H2 τ2 M2 (kp.trans kp2),λ v H2 w M2 kp2=>k2 v H2 w M2 (kp.trans kp2),λ σ2 H2 τ2 M2 kp2=>k3 σ2 H2 τ2 M2 (kp.trans kp2),λ σ2 H2 τ2 M2 kp2=>k4 σ2 H2 τ2 M2 (kp.trans kp2)⟩;cases b with
 | true=>rw[if_pos rfl] at q;show(if true=true then upS X.K t D σ H1 else upS X.K u D σ H1);rw[if_pos rfl];exact go q
 | false=>rw[if_neg Bool.false_ne_true] at q;show(if false=true then upS X.K t D σ H1 else upS X.K u D σ H1);rw[if_neg Bool.false_ne_true];exact go q
abbrev TGd:=W->DS->MH->(DS->MH->Prop)->Prop
def upG(K:FG)(g:TGd):TG:=λ v σ H Q=>∃ w τ M Qd,aE K H w v/\Abs K H σ τ M/\g w τ M Qd/\∀ σ' H' τ' M',Kp H H'->Abs K H' σ' τ' M'->Qd τ' M'->Q σ' H'
abbrev PGd(X:Cx)(e:Expr)(g:TGd):Prop:=PG X e (upG X.K g)
theorem ahi(h:PG X e g)(k:∀ v σ H Q,g' v σ H Q->g v σ H Q):PG X e g':=λ pins s σ H v u Q I r q=>h pins s σ H v u Q I r (k v σ H Q q)
def gN(i:Nat)(w:W)(τ:DS)(M:MH)(Q:DS->MH->Prop):Prop:=Q (τ.set i (some w)) M
def cf(te:TD)(g:TGd)(D:Ed)(τ:DS)(M:MH):Prop:=te τ M λ w M1=>g w τ M1 D.nx
theorem ade(h:upS K (cf te g) D σ H):aep (up K te) (upG K g) D σ H:=by obtain⟨τ,M,Dd,A,h,k1,_⟩:=h;exact⟨τ,M,_,A,h,λ v H1 w M1 kp r m q=>⟨w,τ,M1,_,r,A.go kp m,q,λ σ2 H2 τ2 M2 kp2 A2 q2=>k1 σ2 H2 τ2 M2 (kp.trans kp2) A2 q2⟩⟩
theorem acr(he:PD X e te)(hg:PGd X tg g)(hs:swapsWithSole [tg] e pos.line X.env=pure false:=by rfl)(hw:swappedStores [tg] e X.env=pure none:=by rfl)
  (h1:(assignEach [tg] X.env).map (·.2)=[assign tg X.env]:=by rfl):PSd X (.Assign [tg] e pos) (cf te g):=qH (afw he hg hs hw h1) λ D σ H h=>ade h
theorem ab7(hN:X.N.Nodup)(hi:X.N[i]? =some x)(hx:Loc X.env.scope x)(he:PD X e te)(hs:swapsWith e (some (.Name x pos')) pos.line X.env=pure false:=by rfl)(hf:X.fn x=true\/X.env.scope.names.lookup x=some .local:=by first | exact .inl rfl | exact .inr rfl | assumption) :
  PSd X (.Assign [.Name x pos'] e pos) (cf te (gN i)):=qH (afq hN hi hx he hs hf) λ D σ H ⟨τ,M,Dd,A,h,k1,_⟩ =>
 ⟨τ,M,_,A,h,λ v H1 w M1 kp r m q=>k1 _ H1 _ M1 kp ((A.go kp m).set i r) q⟩
end
abbrev SpD:=List W->MH->QD->Prop
def ef(K:FG)(sp:SpD):Sp:=λ vs H Q _=>∃ ws M Qd,aQ K H ws vs/\cq K H M/\sp ws M Qd/\Kont K H Qd Q
def bO(sp:SpD)(t:TAd)(τ:DS)(M:MH)(Q:QD):Prop:=t τ M λ ws M1=>sp ws M1 Q
theorem ac4(F:bW X.prog X.w X.K X.mg X.base CX0 k f fd ps (ef X.K sp))(hr:cY k X.A)(hg:Gl X x)(hm:X.mg x=some (.ref f))(hk:W.keepIn X.K (.ref f)=true)(hb:Binds X.K fd ps [])
  (ha:PAd X (e::es) t)(hdb:ND x:=by decide)(he:starEach (e::es) X.env=(false,eval e X.env)::starEach es X.env:=by rfl)(hpl:(backTo pos (starEach es X.env)).any (·.1)=false:=by rfl) :
  PD X (.Call (.Name x p) (e::es) [] pos) (bO sp t):=ft (adn (E:=E0) (dvs:=[]) F hr hg hm hk hb .nil aas ha hdb he hpl) λ σ H Q h=>by
 obtain⟨τ,M,Qd,A,h,k⟩:=h;exact⟨τ,M,_,A,h,λ vs H1 ws M1 kp r1 m1 q1=>⟨ws,M1,Qd,by rw[List.append_nil];exact r1,m1,q1,kgo k kp⟩⟩
def bc(N:List Str)(ws:List W):DS:=ws.map some++List.replicate (N.length-ws.length) none
section
variable {P:Program}{w:World}{K:FG}{mg:Str->Option Value}{base:Heap}
theorem iA(r:aQ K H ws vs)(m:cq K H M):Abs K H (start N vs) (bc N ws) M:=by
 have hl:=r.length;refine⟨?_,λ i w e=>?_,m⟩
 ·simp[L2.start,bc,hl]
 ·unfold bc at e
  by_cases hi:i<ws.length
  ·rw[List.getElem?_append_left (by simpa using hi),List.getElem?_map] at e;cases q:ws[i]? with
   | none=>rw[q] at e;cases e
   | some w' =>
    rw[q] at e;cases e;obtain⟨v,e1,r1⟩:=r.get q;refine⟨v,?_,r1⟩;unfold L2.start;rw[List.getElem?_append_left (by rw[List.length_map,<- hl];exact hi),List.getElem?_map,e1];rfl
  ·rw[List.getElem?_append_right (by simpa using hi),List.getElem?_replicate] at e
   split at e<;>cases e
theorem cW{x qual:Str}{st:Stmt}{N ps:List Str}{k:Nat}{sp:SpD}{t:TSd}(F:Fun K x qual st f fd)(S:aP N ps (ai st))(len:∀ ws M Q,sp ws M Q->ws.length=ps.length)
  (hbody:∀ (cdv:Value) (A:Around) (outer:List Env) (s:Shared) (H:Hp) (E:XK),cY k (A.deeper (envOfC qual (ai st) s.heap.objs.size f cdv)) ->
   lp (qT CX0 P w K mg base N qual (ai st) f cdv A outer s H E).nox (aG st) t)
  (read:∀ ws M Q,sp ws M Q->t {nx:=λ _ M'=>Q (.d .none) M',rt:=Q} (bc N ws) M):bW P w K mg base CX0 (k+1) f fd ps (ef K sp):=by
 refine F.ok S (λ vs H Q E h=>?_) (λ cdv A outer s H vs Q E hr h=>?_)
 ·obtain⟨ws,M,Qd,r,_,q,_⟩:=h;rw[<- r.length];exact len _ _ _ q
 ·obtain⟨ws,M,Qd,r,m,q,kk⟩:=h;refine⟨_,hbody cdv A outer s H E hr,bc N ws,M,_,iA r m,read ws M Qd q,λ σ' H' τ' M' kp A' q'=>?_,λ v H' w' M' kp r' m' q'=>?_,λ σ' H' τ' M' kp A' q'=>q'.elim,λ σ' H' τ' M' kp A' q'=>q'.elim⟩
  ·exact kk _ H' _ M' kp (by simp[aE,aA]) A'.mem q'
  ·exact kk v H' w' M' kp r' m' q'
end
end D
namespace L2
structure lO(k:Nat)(A:Around):Prop where
 gd:A.guards=some []
 dp:A.depth+3 * k+5<recursionLimit
 un:A.units+16 * k+200<cLine
theorem lO.units(r:lO k A):A.units+64<cLine:=by have:=r.un;omega
theorem cY.h(r:cY k A):lO k A:=⟨r.gd,r.dp,r.un⟩
end L2
namespace D
open L2
mutual
theorem gg(I:Inv X pins σ H s):∀ (d:PyData) {x:V} {u:Value},aA X.K H d x->RelV x u->d.hasDict=false->∃ as,Reads s.heap u d as
 | .none,x,u,h,r,_=>by simp only[aA] at h;subst h;cases (show u=Value.none from r);exact⟨_,.none⟩
 | .bool b,x,u,h,r,_=>by simp only[aA] at h;subst h;cases (show u=Value.bool b from r);exact⟨_,.bool b⟩
 | .int i,x,u,h,r,_=>by simp only[aA] at h;subst h;obtain⟨t,e⟩:=(show ∃ t,u=Value.int i t from r);subst e;exact⟨_,.int i t⟩
 | .str z,x,u,h,r,_=>by simp only[aA] at h;subst h;obtain⟨t,e⟩:=(show ∃ t,u=Value.str z t from r);subst e;exact⟨_,.str z t⟩
 | .list ds,x,u,h,r,hd=>by simp only[aA] at h;obtain⟨a,vs,e,hs,ra⟩:=h;subst e;cases (show u=Value.ref a from r);obtain⟨its,rv,⟨o,n,e1,e2,e3,e4⟩,hz⟩:=I.list hs.sq;obtain⟨as,q⟩:=kj I ds ra rv (by simpa [PyData.hasDict] using hd);exact⟨_,.list e1 e2 e4 (by simpa using q)⟩
 | .tuple ds,x,u,h,r,hd=>by simp only[aA] at h;obtain⟨a,vs,e,hs,ra⟩:=h;subst e;cases (show u=Value.ref a from r);obtain⟨its,rv,⟨o,e1,e2,n,e4⟩,hz⟩:=I.tuple hs;obtain⟨as,q⟩:=kj I ds ra rv (by simpa [PyData.hasDict] using hd);exact⟨_,.tuple e1 e2 e4 (by simpa using q)⟩
 | .dict kvs,x,u,h,r,hd=>by simp[PyData.hasDict] at hd
theorem kj(I:Inv X pins σ H s):∀ (ds:List PyData) {xs:List V} {us:List Value},a9 X.K H ds xs->Vals xs us->PyData.hasDictAll ds=false->∃ as,ReadsAll s.heap us ds as
 | [],xs,us,h,r,_=>by simp only[a9] at h;subst h;cases r;exact⟨_,.nil⟩
 | d::ds,xs,us,h,r,hd=>by
  simp only[a9] at h;obtain⟨v,vr,e,h1,h2⟩:=h;subst e;simp only[PyData.hasDictAll,Bool.or_eq_false_iff] at hd;cases r with
  | cons r1 r2 =>
   obtain⟨as,q1⟩:=gg I d h1 r1 hd.1;obtain⟨bs,q2⟩:=kj I ds h2 r2 hd.2;exact⟨_,.cons q1 q2⟩
end
def ac7:PyData->Bool
 | .none | .bool _ | .int _ | .str _=>true
 | _=>false
theorem eZ:∀ {d:PyData} {x:V} {u:Value} {h:Heap} {K:FG} {H:Hp},ac7 d=true->aA K H d x->RelV x u->Reads h u d []
 | .none,x,u,h,K,H,_,e,r=>by simp only[aA] at e;subst e;cases (show u=Value.none from r);exact .none
 | .bool b,x,u,h,K,H,_,e,r=>by simp only[aA] at e;subst e;cases (show u=Value.bool b from r);exact .bool b
 | .int i,x,u,h,K,H,_,e,r=>by simp only[aA] at e;subst e;obtain⟨t,z⟩:=(show ∃ t,u=Value.int i t from r);subst z;exact .int i t
 | .str i,x,u,h,K,H,_,e,r=>by simp only[aA] at e;subst e;obtain⟨t,z⟩:=(show ∃ t,u=Value.str i t from r);subst z;exact .str i t
 | .list _,_,_,_,_,_,f,_,_=>nomatch f
 | .tuple _,_,_,_,_,_,f,_,_=>nomatch f
 | .dict _,_,_,_,_,_,f,_,_=>nomatch f
theorem k8{P:Program}{w:World}{h:Heap}{K:FG}{H:Hp}:∀ {kvs:List (PyData×PyData)} {l:List (Key×V)} {vs:List (Key×Value)} {es:List DictEntry},(kvs.all λ p=>ac7 p.2)=true->gW K H kvs l->KV l vs->Pairs (ba P w) es vs ->
  ReadsAll h (es.map (·.key)) (kvs.map (·.1)) []/\ReadsAll h (es.map (·.val)) (kvs.map (·.2)) []
 | [],l,vs,es,_,r,kv,p=>by simp only[gW] at r;subst r;cases kv;cases p;exact⟨.nil,.nil⟩
 | (k,d)::kvs,l,vs,es,f,r,kv,p=>by
  simp only[gW] at r;obtain⟨key,v,lr,e,ek,r1,r2⟩:=r;subst e;rw[List.all_cons,Bool.and_eq_true] at f;cases kv with
  | cons q1 q2 =>
   rename_i kv0 vs0
   obtain⟨k0,u0⟩:=kv0;obtain⟨q1,q3⟩:=q1;cases p with
   | cons p1 p2 p3 =>
    rename_i en es0
    obtain⟨i1,i2⟩:=k8 f.2 r2 q2 p3;have rk:Reads h en.key k []:=by
     have hk:p7 k0 en.key=true:=p1;have hk0:key=k0:=q1;subst hk0;rw[ek];rcases bI hk with ⟨i,t,z1,z2⟩ | ⟨i,t,z1,z2⟩
     ·subst z1;rw[z2];exact .int i t
     ·subst z1;rw[z2];exact .str i t
    have rv:Reads h en.val d []:=by rw[p2];exact eZ f.1 r1 q3
    exact⟨.cons rk i1,.cons rv i2⟩
def lA(d:PyData):Bool:=SeqAt.shaped d&&!d.hasDict
def d6:PyData->PyData->Bool
 | .str _,.str _=>true
 | d,d'=>lA d&&lA d'
theorem fE(h:d6 d d'=true):(∃ x y,d=.str x/\d'=.str y)\/(lA d=true/\lA d'=true):=by
 cases d with
 | str x =>
  cases d' with
  | str y=>exact .inl ⟨x,y,rfl,rfl⟩
  | _=>exact .inr (by simpa [d6] using h)
 | _=>exact .inr (by simpa [d6] using h)
theorem sd(x y:Str):decide (V.str x=V.str y)=PyData.eqv (.str x) (.str y):=by
 rw[PyData.eqv]
 by_cases e:x=y
 ·subst e;simp
 ·rw[decide_eq_false (λ z=>e (V.str.inj z))];exact(beq_eq_false_iff_ne.mpr e).symm
theorem abF(hr:lO k X.A):OpR X (compareOp .Eq) (λ x y H Q=>∃ d d',aA X.K H d x/\aA X.K H d' y/\d6 d d'=true/\Q (.bl (PyData.eqv d d')) H):=by
 intro pins s σ H x y v u Q I rx ry h;obtain⟨d,d',h1,h2,o,q⟩:=h;rcases fE o with ⟨a,b,e1,e2⟩ | ⟨o1,o2⟩
 ·subst e1;subst e2;simp only[aA] at h1 h2;subst h1;subst h2;exact aia pins s σ H _ _ v u Q I rx ry ⟨rfl,by rw[sd];exact q⟩
 simp only[lA,Bool.and_eq_true,Bool.not_eq_true'] at o1 o2;obtain⟨as,r1⟩:=gg I d h1 rx o1.2;obtain⟨bs,r2⟩:=gg I d' h2 ry o2.2;exact eq_dataH r1 r2 o1.1 o2.1 hr.units ⟨.bl _,H,I,rfl,q⟩
theorem aeB(hr:lO k X.A):OpR X (compareOp .NotEq) (λ x y H Q=>∃ d d',aA X.K H d x/\aA X.K H d' y/\d6 d d'=true/\Q (.bl (!PyData.eqv d d')) H):=by
 intro pins s σ H x y v u Q I rx ry h;obtain⟨d,d',h1,h2,o,q⟩:=h;rcases fE o with ⟨a,b,e1,e2⟩ | ⟨o1,o2⟩
 ·subst e1;subst e2;simp only[aA] at h1 h2;subst h1;subst h2;exact aie pins s σ H _ _ v u Q I rx ry ⟨rfl,by rw[sd];exact q⟩
 simp only[lA,Bool.and_eq_true,Bool.not_eq_true'] at o1 o2;obtain⟨as,r1⟩:=gg I d h1 rx o1.2;obtain⟨bs,r2⟩:=gg I d' h2 ry o2.2;exact ne_dataH r1 r2 o1.1 o2.1 hr.units ⟨.bl _,H,I,rfl,q⟩
def tyD:PyData->String
 | .none => "NoneType"
 | .bool _ => "bool"
 | .int _ => "int"
 | .str _ => "str"
 | .list _ => "list"
 | .tuple _ => "tuple"
 | .dict _ => "dict"
inductive Ty6:String->Prop where
 | int:Ty6 "int" | bool:Ty6 "bool" | str:Ty6 "str" | list:Ty6 "list" | tuple:Ty6 "tuple" | dict:Ty6 "dict"
def lq(d:PyData)(T:String):Bool:=tyD d==T || (T == "int" && tyD d == "bool")
theorem xG{K:FG}(d:PyData){T:String}(h:Ty6 T):W.kitOne K (.type (tyD d)) (.type T)=some (lq d T):=by
 cases h<;>cases d<;>rfl
theorem wG:eP X (.builtin "isinstance") (λ xs H Q=>∃ x d T,xs=[x,.ty T]/\aA X.K H d x/\Ty6 T/\Q (.bl (lq d T)) H):=by
 intro pins s σ H xs us Q I r h;obtain⟨x,d,T,rfl,rd,h6,q⟩:=h;obtain⟨u,w',rfl,rx,ry⟩:=vals2 r;cases (show w'=Value.type T from ry);have e:=xG (K:=X.K) d h6;have fin:∀ tk,EP X pins σ Q (.bool (lq d T)) {s with toks:=tk}:=λ tk=>⟨.bl _,H,I.tok _,rfl,q⟩;generalize lq d T=b at e fin;cases d with
 | none=>simp only[aA] at rd;subst rd;cases (show u=Value.none from rx);exact W.kia_one W.kitx_none I.kIn True.intro e (λ z=>nomatch z) fin
 | bool y=>simp only[aA] at rd;subst rd;cases (show u=Value.bool y from rx);exact W.kia_one W.kitx_bool I.kIn True.intro e (λ z=>nomatch z) fin
 | int i=>simp only[aA] at rd;subst rd;obtain⟨t,z⟩:=(show ∃ t,u=Value.int i t from rx);subst z;exact W.kia_one W.kitx_int I.kIn True.intro e (λ z=>nomatch z) fin
 | str y=>simp only[aA] at rd;subst rd;obtain⟨t,z⟩:=(show ∃ t,u=Value.str y t from rx);subst z;exact W.kia_one W.kitx_str I.kIn True.intro e (λ z=>nomatch z) fin
 | list ds =>
  simp only[aA] at rd;obtain⟨a,vs,z,hs,_⟩:=rd;subst z;cases (show u=Value.ref a from rx);obtain⟨its,rv,⟨o,n,e1,e2,e3,e4⟩,hz⟩:=I.list hs.sq;exact W.kia_one W.kitx_list I.kIn ⟨_,e1,e2⟩ e (λ z=>nomatch z) fin
 | tuple ds =>
  simp only[aA] at rd;obtain⟨a,vs,z,hs,_⟩:=rd;subst z;cases (show u=Value.ref a from rx);obtain⟨its,rv,⟨o,e1,e2,e3⟩,hz⟩:=I.tuple hs;exact W.kia_one W.kitx_tuple I.kIn ⟨_,e1,e2⟩ e (λ z=>nomatch z) fin
 | dict kvs =>
  simp only[aA] at rd;obtain⟨a,o,l,z,ha,_⟩:=rd;subst z;cases (show u=Value.ref a from rx);obtain⟨_,hs,vs,kv,o',es,ep,e1,e2,_⟩:=xO I.hok (.inr ⟨o,ha⟩);exact W.kia_one W.kitx_dict I.kIn ⟨_,e1,e2.1⟩ e (λ z=>nomatch z) fin
theorem pM{K:FG}{H:Hp}:∀ {bs:List Bool} {vs:List V} {us:List Value},a9 K H (bs.map PyData.bool) vs->Vals vs us->LSm.BoolsAre us bs
 | [],vs,us,h,r=>by simp only[List.map_nil,a9] at h;subst h;cases r;exact .nil
 | b::bs,vs,us,h,r=>by
  simp only[List.map_cons,a9] at h;obtain⟨v,vr,e,h1,h2⟩:=h;subst e;simp only[aA] at h1;subst h1;cases r with
  | cons r1 r2=>cases (show _=Value.bool b from r1);exact .cons b (pM h2 r2)
theorem wD(hc:X.calm=true):eP X (.builtin "all") (λ xs H Q=>∃ (x:V) (bs:List Bool),xs=[x]/\aA X.K H (.list (bs.map PyData.bool)) x/\Q (.bl (bs.all id)) H):=by
 intro pins s σ H xs us Q I r h;obtain⟨x,bs,rfl,rd,q⟩:=h;obtain⟨u,rfl,rx⟩:=vals1 r;simp only[aA] at rd;obtain⟨a,vs,z,hs,ra⟩:=rd;subst z;cases (show u=Value.ref a from rx);obtain⟨its,rv,pl,hz⟩:=I.list hs.sq;obtain⟨m,F⟩:=I.fr;have N:News X.base X.env.locals s.heap []:=λ p hp=>nomatch hp;have hb:=pM ra rv;have hl:s.heap.IsList a its.toArray:=pl.isList;have hlt:a<s.heap.objs.size:=by obtain⟨_,e,_⟩:=hl;exact Heap.lt_size e
 refine call_all_walk (wpAny_pyIter_list hl ?_);refine⟨s.heap.objs.size,[s.heap.objs.size,a],[s.heap.objs.size],its.toArray.size,_,_,λ i=>(bs[i]?).getD true,rfl,Walks.list (A:=X.A.in1) (I.ok.hd hc) _ a (Nat.ne_of_lt hlt) its.toArray,
  ⟨⟨_,Heap.get?_push_size _ rfl,rfl,rfl⟩,hl.push _⟩,λ i v s' Q' E' hP hQ=>?_,λ h' tk hk=>?_⟩
 ·obtain⟨b,e,rfl⟩:=hb.get i v (by simpa using hP);simp only[e,Option.getD_some] at hQ;exact wpAny_truthy_bool hQ
 ·have e:((List.range its.toArray.size).all λ i=>(bs[i]?).getD true)=bs.all id:=by rw[List.size_toArray,hb.length];exact LSm.range_all bs
  rw[e];exact⟨.bl _,H,I.kept (LSm.kept_iter hk),rfl,q⟩
end D
namespace D
open L2
section
variable {X:Cx}{K:FG}
theorem OpR.or(h:OpR X f r)(h':OpR X f r'):OpR X f (λ x y H Q=>r x y H Q\/r' x y H Q):=by
 intro pins s σ H x y v u Q I rx ry q;rcases q with q | q
 ·exact h pins s σ H x y v u Q I rx ry q
 ·exact h' pins s σ H x y v u Q I rx ry q
theorem OpD.or(h:OpD K r rd)(h':OpD K r' rd'):OpD K (λ x y H Q=>r x y H Q\/r' x y H Q) (λ w w' M Q=>rd w w' M Q\/rd' w w' M Q):=by
 intro x y H w w' M Qd Q r1 r2 m q k;rcases q with q | q
 ·exact .inl (h x y H w w' M Qd Q r1 r2 m q k)
 ·exact .inr (h' x y H w w' M Qd Q r1 r2 m q k)
def adX(g:Int->Int->PyData)(w:W)(w':W)(M:MH)(Q:QD):Prop:=∃ i j,w=.d (.int i)/\w'=.d (.int j)/\Q (.d (g i j)) M
def rdI(C:Int->Int->Prop)(g:Int->Int->PyData)(w:W)(w':W)(M:MH)(Q:QD):Prop:=∃ i j,w=.d (.int i)/\w'=.d (.int j)/\C i j/\Q (.d (g i j)) M
theorem l6(hg:∀ i j H,aA K H (gd i j) (g i j)):OpD K (rI0 g) (adX gd):=by intro x y H w w' M Qd Q r1 r2 m ⟨i,j,e1,e2,q⟩ k;subst e1;subst e2;simp only[aE,aA] at r1 r2;exact⟨i,j,r1,r2,k _ H (.d (gd i j)) M (Kp.refl H) (hg i j H) m q⟩
theorem acP(hg:∀ i j H,aA K H (gd i j) (g i j)):OpD K (rI C g) (rdI C gd):=by intro x y H w w' M Qd Q r1 r2 m ⟨i,j,e1,e2,c,q⟩ k;subst e1;subst e2;simp only[aE,aA] at r1 r2;exact⟨i,j,r1,r2,c,k _ H (.d (gd i j)) M (Kp.refl H) (hg i j H) m q⟩
def ae1(w w':W)(M:MH)(Q:QD):Prop:=adX (λ i j=>.int (i-j)) w w' M Q
def fJ(w w':W)(M:MH)(Q:QD):Prop:=rdI aeW (λ i j=>.int (i * j)) w w' M Q
def eB(w w':W)(M:MH)(Q:QD):Prop:=rdI (λ _ j=>0<j) (λ i j=>.int (i % j)) w w' M Q
def sj(w w':W)(M:MH)(Q:QD):Prop:=rdI ah2 (λ i j=>.int (i / j)) w w' M Q
def d0(w:W)(w':W)(M:MH)(Q:QD):Prop:=adX (λ i j=>.int (i+j)) w w' M Q\/∃ x y,w=.d (.str x)/\w'=.d (.str y)/\x.length+y.length<=sizeLine/\Q (.d (.str (x++y))) M
theorem adJ:OpD K (rI0 λ i j=>.int (i-j)) ae1:=l6 λ _ _ _=>by simp[aA]
theorem fu:OpD K (rI aeW λ i j=>.int (i * j)) fJ:=acP λ _ _ _=>by simp[aA]
theorem dY:OpD K (rI (λ _ j=>0<j) λ i j=>.int (i % j)) eB:=acP λ _ _ _=>by simp[aA]
theorem ny:OpD K (rI ah2 λ i j=>.int (i / j)) sj:=acP λ _ _ _=>by simp[aA]
def adI:R2:=λ x y H Q=>∃ i j,x=.str i/\y=.str j/\i.length+j.length<=sizeLine/\Q (.str (i++j)) H
theorem aaB:OpD K adI (λ w w' M Q=>∃ x y,w=.d (.str x)/\w'=.d (.str y)/\x.length+y.length<=sizeLine/\Q (.d (.str (x++y))) M):=by intro x y H w w' M Qd Q r1 r2 m ⟨i,j,e1,e2,c,q⟩ k;subst e1;subst e2;simp only[aE,aA] at r1 r2;exact⟨i,j,r1,r2,c,k _ H (.d (.str (i++j))) M (Kp.refl H) (by simp[aE,aA]) m q⟩
theorem cK:OpR X (binaryOp .Add) (λ x y H Q=>rI0 (λ i j=>.int (i+j)) x y H Q\/adI x y H Q):=OpR.or aeq uo
theorem bU:OpD K (λ x y H Q=>rI0 (λ i j=>.int (i+j)) x y H Q\/adI x y H Q) d0:=OpD.or (l6 λ _ _ _=>by simp[aA]) aaB
def rS(g:Str->Str->Bool):R2:=λ x y H Q=>∃ i j,x=.str i/\y=.str j/\Q (.bl (g i j)) H
def rdS(g:Str->Str->Bool)(w:W)(w':W)(M:MH)(Q:QD):Prop:=∃ i j,w=.d (.str i)/\w'=.d (.str j)/\Q (.d (.bool (g i j))) M
theorem ahd:OpD K (rS g) (rdS g):=by intro x y H w w' M Qd Q r1 r2 m ⟨i,j,e1,e2,q⟩ k;subst e1;subst e2;simp only[aE,aA] at r1 r2;exact⟨i,j,r1,r2,k _ H (.d (.bool (g i j))) M (Kp.refl H) (by simp[aE,aA]) m q⟩
theorem yb:OpR X (compareOp .LtE) (rS λ x y=>!decide (y.cps.toList<x.cps.toList)):=by intro pins s σ H x y v u Q I rx ry h;obtain⟨i,j,rfl,rfl,q⟩:=h;obtain⟨t,rfl⟩:=rx;obtain⟨t',rfl⟩:=ry;exact PySem.P.le_str ⟨.bl _,H,I,rfl,q⟩
def qA(w:W)(w':W)(M:MH)(Q:QD):Prop:=adX (λ i j=>.bool (decide (i<=j))) w w' M Q\/rdS (λ x y=>!decide (y.cps.toList<x.cps.toList)) w w' M Q
theorem kC:OpR X (compareOp .LtE) (λ x y H Q=>rI0 (λ i j=>.bl (decide (i<=j))) x y H Q\/rS (λ x y=>!decide (y.cps.toList<x.cps.toList)) x y H Q):=OpR.or ahE yb
theorem gM:OpD K (λ x y H Q=>rI0 (λ i j=>.bl (decide (i<=j))) x y H Q\/rS (λ x y=>!decide (y.cps.toList<x.cps.toList)) x y H Q) qA:=OpD.or (l6 λ _ _ _=>by simp[aA]) ahd
def aiQ(w w':W)(M:MH)(Q:QD):Prop:=adX (λ i j=>.bool (decide (i<j))) w w' M Q
def yF(w w':W)(M:MH)(Q:QD):Prop:=adX (λ i j=>.bool (decide (j<i))) w w' M Q
def aga(w w':W)(M:MH)(Q:QD):Prop:=adX (λ i j=>.bool (decide (j<=i))) w w' M Q
theorem ael:OpD K (rI0 λ i j=>.bl (decide (i<j))) aiQ:=l6 λ _ _ _=>by simp[aA]
theorem jV:OpD K (rI0 λ i j=>.bl (decide (j<i))) yF:=l6 λ _ _ _=>by simp[aA]
theorem abh:OpD K (rI0 λ i j=>.bl (decide (j<=i))) aga:=l6 λ _ _ _=>by simp[aA]
def aix(w:W)(w':W)(M:MH)(Q:QD):Prop:=∃ d d',w=.d d/\w'=.d d'/\d6 d d'=true/\Q (.d (.bool (PyData.eqv d d'))) M
theorem afx:OpD K (λ x y H Q=>∃ d d',aA K H d x/\aA K H d' y/\d6 d d'=true/\Q (.bl (PyData.eqv d d')) H) aix:=by intro x y H w w' M Qd Q r1 r2 m ⟨d,d',e1,e2,o1,q⟩ k;subst e1;subst e2;exact⟨d,d',r1,r2,o1,k _ H (.d (.bool _)) M (Kp.refl H) (by simp[aE,aA]) m q⟩
def aav(w:W)(M:MH)(Q:QD):Prop:=∃ i,w=.d (.int i)/\Q (.d (.int (-i))) M
theorem qG:UnD K (rU λ i=>.int (-i)) aav:=by intro x H w M Qd Q r m ⟨i,e,q⟩ k;subst e;simp only[aE,aA] at r;exact⟨i,r,k _ H (.d (.int (-i))) M (Kp.refl H) (by simp[aE,aA]) m q⟩
def yG:W->Bool
 | .d (.str z)=>decide (z.length<=sizeLine)
 | _=>true
def ixW(M:MH):W->Int->Option W
 | .d (.list ds),i=>(atI ds i).map W.d
 | .d (.tuple ds),i=>(atI ds i).map W.d
 | .d (.str z),i=>(atI z.cps.toList i).map λ c=>W.d (.str ⟨#[c]⟩)
 | .m a,i=>match M a with
  | some (.lst ws)=>atI ws i
  | some (.tup ws)=>atI ws i
  | _=>none
 | _,_=>none
inductive RIx(w:W) (w':W) (M:MH) (Q:QD):Prop
 | mk (i:Int) (x:W) (z0:w'=.d (.int i)) (z1:ixW M w i=some x) (z2:yG w=true) (q:Q x M):RIx w w' M Q
def dS(w:W)(w':W)(M:MH)(Q:QD):Prop:=RIx w w' M Q
theorem tj(r:a9 K H ds vs)(e:atI ds i=some d):∃ v,atI vs i=some v/\aA K H d v:=by
 unfold atI at e ⊢;rw[r.length];cases q:ixN ds.length i with
 | none=>rw[q] at e;cases e
 | some j =>
  rw[q] at e;exact r.get e
theorem oN(r:aQ K H ds vs)(e:atI ds i=some d):∃ v,atI vs i=some v/\aE K H d v:=by
 unfold atI at e ⊢;rw[<- r.length];cases q:ixN ds.length i with
 | none=>rw[q] at e;cases e
 | some j =>
  rw[q] at e;exact r.get e
theorem bt:OpD K (rIx K) dS:=by
 intro x y H w w' M Qd Q r1 r2 m ⟨i,z,e2,ei,hf,q⟩ k;subst e2;simp only[aE,aA] at r2;cases w with
 | t n=>simp[ixW] at ei
 | m a =>
  simp only[aE] at r1;simp only[ixW] at ei;cases hm:M a with
  | none=>rw[hm] at ei;cases ei
  | some mo =>
   rw[hm] at ei;cases mo with
   | lst ws =>
    obtain⟨vs,e1,rw1⟩:=m a _ hm;obtain⟨v,e3,rv⟩:=oN rw1 ei;exact .inl ⟨a,vs,i,v,r1,r2,SqL.of e1,e3,k v H z M (Kp.refl H) rv m q⟩
   | dic _=>cases ei
   | dct _=>cases ei
   | fdic _=>cases ei
   | ins _ _=>cases ei
   | tup ws =>
    obtain⟨vs,e1,rw1⟩:=m a _ hm;obtain⟨v,e3,rv⟩:=oN rw1 ei;exact .inr (.inl ⟨a,vs,i,v,r1,r2,.inl (.inl e1),e3,k v H z M (Kp.refl H) rv m q⟩)
   | flst _=>cases ei
   | exc _ _=>cases ei
   | code _ _=>cases ei
 | d d =>
  cases d with
  | list ds =>
   simp only[aE,aA] at r1;obtain⟨a,vs,e1,hs,ra⟩:=r1;simp only[ixW] at ei;cases h:atI ds i with
   | none=>rw[h] at ei;cases ei
   | some d =>
    rw[h] at ei;cases ei;obtain⟨v,e3,rv⟩:=tj ra h;exact .inl ⟨a,vs,i,v,e1,r2,hs.sq,e3,k v H (.d d) M (Kp.refl H) rv m q⟩
  | tuple ds =>
   simp only[aE,aA] at r1;obtain⟨a,vs,e1,hs,ra⟩:=r1;simp only[ixW] at ei;cases h:atI ds i with
   | none=>rw[h] at ei;cases ei
   | some d =>
    rw[h] at ei;cases ei;obtain⟨v,e3,rv⟩:=tj ra h;exact .inr (.inl ⟨a,vs,i,v,e1,r2,hs,e3,k v H (.d d) M (Kp.refl H) rv m q⟩)
  | str s =>
   simp only[aE,aA] at r1;simp only[ixW] at ei;cases h:atI s.cps.toList i with
   | none=>rw[h] at ei;cases ei
   | some c =>
    rw[h] at ei;cases ei;exact .inr (.inr ⟨s,i,c,r1,r2,of_decide_eq_true hf,h,k _ H (.d (.str ⟨#[c]⟩)) M (Kp.refl H) (by simp[aE,aA]) m q⟩)
  | _=>simp[ixW] at ei
theorem vV(h:PE X e t):PE X e (λ σ H Q=>t σ H λ v H1=>Q v H1\/∃ p u,v=.ref p/\H1 p=some u/\Fz u/\∀ o,Q v (upd H1 p (.frz o u))):=by
 intro pins s σ H Q I hq;refine thn (h pins s σ H _ I hq) λ v s1 hq44=>?_;obtain⟨x,H1,I1,r1,q⟩:=hq44;rcases q with q | ⟨p,u,e1,e2,f,q⟩
 ·exact⟨x,_,I1,r1,q⟩
 ·obtain⟨o,I2⟩:=I1.freeze e2 f;exact⟨x,_,I2,r1,q o⟩
def ait:V->Option Int->Option Int->Hp->VK->Prop:=λ x lo hi H Q=>∃ z,x=.str z/\z.length<=sizeLine/\Q (.str (Txt.slice z lo hi)) H
theorem agC:SlR X ait:=by
 intro pins s σ H x v vl vu lo hi sl Q I rx hs pl pu h;obtain⟨z,rfl,hz,q⟩:=h;obtain⟨t,rfl⟩:=rx;have fin:∀ t' k,EP X pins σ Q (.str (Txt.slice z lo hi) t') {s with toks:=k}:=λ t' k=>⟨.str _,H,I.tok _,⟨_,rfl⟩,q⟩;refine⟨"str",_,F.slot_str_getitem.lookup,typeIs_str _ _ _,?_⟩;cases pl with
 | none =>
  cases pu with
  | none=>exact wpAny_getItem_str_slice (l:=none) (u:=none) (st:=none) hs rfl (post_val_or_str ⟨Nat.le_trans (Txt.slice_le z _ _) hz,fin⟩)
  | int j uj=>exact wpAny_getItem_str_slice (l:=none) (u:=some (j,uj)) (st:=none) hs rfl (post_val_or_str ⟨Nat.le_trans (Txt.slice_le z _ _) hz,fin⟩)
 | int i ui =>
  cases pu with
  | none=>exact wpAny_getItem_str_slice (l:=some (i,ui)) (u:=none) (st:=none) hs rfl (post_val_or_str ⟨Nat.le_trans (Txt.slice_le z _ _) hz,fin⟩)
  | int j uj=>exact wpAny_getItem_str_slice (l:=some (i,ui)) (u:=some (j,uj)) (st:=none) hs rfl (post_val_or_str ⟨Nat.le_trans (Txt.slice_le z _ _) hz,fin⟩)
abbrev TOd:=DS->MH->(Option Int->MH->Prop)->Prop
def upO(K:FG)(t:TOd):TO:=λ σ H Q=>∃ τ M Qd,Abs K H σ τ M/\t τ M Qd/\∀ b H' M',Kp H H'->cq K H' M'->Qd b M'->Q b H'
abbrev POd(X:Cx)(e:Option Expr)(t:TOd):Prop:=PO X e (upO X.K t)
theorem aiP(h:PO X e t)(k:∀ σ H Q,t' σ H Q->t σ H Q):PO X e t':=λ pins s σ H Q I q=>h pins s σ H Q I (k σ H Q q)
def dv(_:DS)(M:MH)(Q:Option Int->MH->Prop):Prop:=Q none M
def hV(t:TD)(τ:DS)(M:MH)(Q:Option Int->MH->Prop):Prop:=t τ M λ w M1=>∃ i,w=.d (.int i)/\Q (some i) M1
theorem yJ(h:PD X e te):POd X (some e) (hV te):=aiP (abX h) λ σ H Q ⟨τ,M,Qd,A,q,k⟩=>⟨τ,M,_,A,q,λ v H1 w M1 kp r m hq45=>by obtain⟨i,e,q1⟩:=hq45;subst e;simp only[aE,aA] at r;exact⟨i,r,k _ H1 M1 kp m q1⟩⟩
def cutD(xs:List α)(lo hi:Option Int):List α:=(xs.drop (HT.sIx xs.length 0 lo)).take (HT.sIx xs.length xs.length hi-HT.sIx xs.length 0 lo)
def aaX(n:Nat)(lo hi:Option Int):Bool:=decide (HT.sIx n 0 lo=0/\HT.sIx n n hi=n)
def slW:W->Option Int->Option Int->Option W
 | .d (.list ds),lo,hi=>some (.d (.list (cutD ds lo hi)))
 | .d (.tuple ds),lo,hi=>if aaX ds.length lo hi then none else some (.d (.tuple (cutD ds lo hi)))
 | .d (.str z),lo,hi=>some (.d (.str (Txt.slice z lo hi)))
 | _,_,_=>none
def dSl(te:TD)(tl th:TOd)(τ:DS)(M:MH)(Q:QD):Prop:=te τ M λ w M1=>tl τ M1 λ lo M2=>th τ M2 λ hi M3=>∃ z,slW w lo hi=some z/\yG w=true/\Q z M3
theorem aei:SlR X (λ x lo hi H Q=>ais X.K x lo hi H Q\/aiG X.K x lo hi H Q\/ait x lo hi H Q):=qF.or (ae8.or agC)
theorem a9.cut(r:a9 K H ds vs)(lo hi:Option Int):a9 K H (cutD ds lo hi) (xB vs lo hi):=by
 unfold cutD xB;rw[r.length];exact(r.drop _).take _
theorem aaD{te:TD}{lo hi:Option Expr}{tl th:TOd}{pos p2:Pos}(he:PD X e te)(hl:POd X lo tl)(hu:POd X hi th):PD X (.Subscript e (.Slice lo hi none p2) pos) (dSl te tl th):=
 ft (vV (nU aei he hl hu)) λ σ H Q h=>by
  obtain⟨τ,M,Qd,A,h,k⟩:=h;refine⟨τ,M,_,A,h,λ v H1 w M1 kp1 r1 m1 q1=>⟨τ,M1,_,A.go kp1 m1,q1,λ lo H2 M2 kp2 m2 q2=>⟨τ,M2,_,A.go (kp1.trans kp2) m2,q2,λ hi H3 M3 kp3 m3 q3=>?_⟩⟩⟩;obtain⟨z,ez,hf,q⟩:=q3;have kp:=(kp1.trans kp2).trans kp3;have r:=r1.keep (kp2.trans kp3);cases w with
  | t n=>simp[slW] at ez
  | m a=>simp[slW] at ez
  | d d =>
   cases d with
   | list ds =>
    simp only[slW] at ez;cases ez;simp only[aE,aA] at r;obtain⟨a,vs,e1,hs,ra⟩:=r;exact .inl ⟨a,vs,e1,hs.sq,λ p hp=>.inr (jX hp (a9.cut ra lo hi) m3 q (kgo k kp))⟩
   | tuple ds =>
    simp only[slW] at ez
    split at ez
    ·cases ez
    ·rename_i hw
     cases ez;simp only[aE,aA] at r;obtain⟨a,vs,e1,hs,ra⟩:=r;refine .inr (.inl ⟨a,vs,e1,hs,?_,λ p hp=>.inl ?_⟩)
     ·rw[ra.length]
      simpa [aaX] using hw
     ·refine k _ _ (.d (.tuple _)) M3 (kp.trans (Kp.new hp)) ?_ (m3.new hp) q;simp only[aE,aA];exact⟨p,_,rfl,.inl (.inl au),(a9.cut ra lo hi).keep (Kp.new hp)⟩
   | str s =>
    simp only[slW] at ez;cases ez;simp only[aE,aA] at r;exact .inr (.inr ⟨s,r,of_decide_eq_true hf,.inl (k _ H3 (.d (.str _)) M3 kp (by simp[aE,aA]) m3 q)⟩)
   | _=>simp[slW] at ez
def zg(to ti:TD)(v:W)(τ:DS)(M:MH)(Q:DS->MH->Prop):Prop:=to τ M λ w M1=>ti τ M1 λ w' M2=>∃ a ws i j,w=.m a/\w'=.d (.int i)/\M2 a=some (.lst ws)/\ixN ws.length i=some j/\Q τ (bf M2 a (.lst (ws.set j v)))
theorem vF(m:cq K H M)(e:H a=some (.lst vs))(rw1:aQ K H ws vs)(rv:aE K H w v) :
  Kp H (upd H a (.lst (vs.set j v)))/\cq K (upd H a (.lst (vs.set j v))) (bf M a (.lst (ws.set j w))):=by
 have kp:Kp H (upd H a (.lst (vs.set j v))):=Kp.set e (λ xs z=>nomatch z) λ _ _ z=>nomatch z;exact⟨kp,m.put kp ⟨_,au,(aQ.set rv j rw1).keep kp⟩⟩
theorem acC(ho:PD X o to)(hi:PD X i ti)
  (ha:∀ v,assign (.Subscript o i pos) X.env v=(do
   let ov <- holding [v] (eval o X.env)
   let iv <- holding [v,ov] (eval i X.env)
   standAt pos
   holding [v,ov,iv] (setItem ov iv v)
   release [v,ov,iv] []):=by intro _;rfl):PGd X (.Subscript o i pos) (zg to ti):=ahi (afI ho hi set_list ha) λ v σ H Q h=>by
 obtain⟨w,τ,M,Qd,rv,A,h,k⟩:=h;refine⟨τ,M,_,A,h,λ x H1 wo M1 kp1 r1 m1 q1=>⟨τ,M1,_,A.go kp1 m1,q1,λ y H2 wi M2 kp2 r2 m2 q2=>?_⟩⟩;obtain⟨a,ws,i,j,e1,e2,hm,hj,q⟩:=q2;subst e1;subst e2;simp only[aE,aA] at r1 r2;obtain⟨vs,e3,rw1⟩:=m2 a _ hm;have kp:=kp1.trans kp2;obtain⟨kp3,m3⟩:=vF (j:=j) m2 e3 rw1 (rv.keep kp);exact⟨a,vs,i,j,r1,r2,e3,by rw[<- rw1.length];exact hj,k σ _ τ _ (kp.trans kp3) (A.go (kp.trans kp3) m3) q⟩
theorem zQ:ahz X (ahX X.K):=by
 intro pins s σ H o i ov iv Q I ro ri h;obtain⟨p,xs,k,z,rfl,rfl,hq,he,q⟩:=h;cases ro;obtain⟨t,rfl⟩:=ri;obtain⟨its,r,pl,hz⟩:=I.list hq;obtain⟨j,h1,h2,h3,h4,h5⟩:=nM he;obtain⟨w,ew,rw'⟩:=r.get h2;have hl:=r.length;have hn:=jL;have fin:EP X pins σ Q w s:=⟨z,H,I,rw',q⟩
 by_cases h0:0<=k
 ·have hj:k.toNat=j:=by rw[seqIndex_of h0 h5] at h1;exact Option.some.inj h1
  exact wpAny_getItem_list pl.isList h0 (by omega) (by rw[hj];simpa using ew) fin
 ·have hj:(k+(its.toArray.size:Int)).toNat=j:=by rw[seqIndex_neg (by omega) h4] at h1;rw[List.size_toArray,<- hl];exact Option.some.inj h1
  exact wpAny_getItem_list_neg pl.isList (by omega) (by rw[List.size_toArray]<;>omega) (by omega) (by rw[hj];simpa using ew) fin
def zR(to ti te:TD)(f:Int->Int->Int)(D:Ed)(τ:DS)(M:MH):Prop:=to τ M λ w M1=>ti τ M1 λ w' M2=>∃ a ws i j n,w=.m a/\w'=.d (.int i)/\M2 a=some (.lst ws)/\ixN ws.length i=some j/\ws[j]? =some (.d (.int n)) /\
 te τ M2 λ y M3=>∃ n',y=.d (.int n')/\M3=M2/\D.nx τ (bf M3 a (.lst (ws.set j (.d (.int (f n n'))))))
theorem yR(ho:PD X o to)(hi:PD X i ti)(he:PD X e te)(hp:PIp X op (ipI f))
  (ha:∀ ov iv new,augStore i ov iv new=(do holding [new,ov,iv] (setItem ov iv new);release [new,ov,iv] [];pure .next):=by intros;rfl):PSd X (.AugAssign (.Subscript o i tpos) op e pos) (zR to ti te f):=
 qH (ya ho hi zQ he hp set_list ha) λ D σ H h=>by
  obtain⟨τ,M,Dd,A,h,k1,_⟩:=h;refine⟨τ,M,_,A,h,λ x H1 wo M1 kp1 r1 m1 q1=>⟨τ,M1,_,A.go kp1 m1,q1,λ y H2 wi M2 kp2 r2 m2 q2=>?_⟩⟩;obtain⟨a,ws,i,j,n,e1,e2,hm,hj,hn,q⟩:=q2;subst e1;subst e2;simp only[aE,aA] at r1 r2;obtain⟨vs,e3,rw1⟩:=m2 a _ hm;obtain⟨v,e4,rv⟩:=rw1.get hn;simp only[aE,aA] at rv;have hj':ixN vs.length i=some j:=by rw[<- rw1.length];exact hj
  refine⟨a,vs,i,v,r1,r2,SqL.of e3,by unfold atI;rw[hj'];exact e4,?_⟩;refine⟨τ,M2,_,A.go (kp1.trans kp2) m2,q,λ z H3 wz M3 kp3 r3 m3 q3=>?_⟩;obtain⟨n',e5,e6,qn⟩:=q3;subst e5;subst e6;simp only[aE,aA] at r3;refine⟨n,n',rv,r3,?_⟩;obtain⟨vs',e3',rw2⟩:=m3 a _ hm;have kp:=(kp1.trans kp2).trans kp3;obtain⟨kp4,m4⟩:=vF (j:=j) (v:=.int (f n n')) (w:=.d (.int (f n n'))) m3 e3' rw2 (by simp[aE,aA]);exact⟨a,vs',i,j,r1,r2,e3',by rw[<- rw2.length];exact hj,k1 σ _ τ _ (kp.trans kp4) (A.go (kp.trans kp4) m4) qn⟩
end
section
variable {X:Cx}{K:FG}{tg:Expr}
def Its(z:Str):It:=⟨λ i _=>i<z.cps.size,λ i H x H'=>H'=H/\∃ c,z.cps[i]? =some c/\x=.str ⟨#[c]⟩,λ i _=>z.cps.size<=i⟩
theorem tD(it:Addr)(T:String)(z:Str)(t:Tok)
  (hT:["enumerate", "zip", "dict_itemiterator", "dict_reverseitemiterator", "odict_iterator", "itertools.zip_longest", "itertools.pairwise"].contains T=false)
  (W:∀ A:Around,A.handled=none->Walks P w A it [it] [it] z.cps.size (SignAt z) (λ i h=>h.IsStrIter it T z t i))(hself:∀ (A:Around) (i:Nat) (s:Shared) (Q:VP) (E:VP),s.heap.IsStrIter it T z t i->Q (.ref it) s->wpAny (model P w) A (pyIter (.ref it)) Q E s)
  (hend:∀ (A:Around) (i:Nat) (s:Shared) (Q:Option Value->Shared->Prop) (E:VP),A.handled=none->s.heap.IsStrIter it T z t i->z.cps[i]? =none->(∀ h',Heap.ExtBut it s.heap h'->Q none {s with heap:=h'})->wpAny (model P w) A (pyNext (.ref it)) Q E s) :
  Turn P w K tg (Its z) [it] it (λ i h=>h.IsStrIter it T z t i) where
 mem:=by simp
 obj:=λ i h st b hb=>by
  have e:b=it:=by simpa using hb
  subst e;obtain⟨o,e,c,d⟩:=st;exact⟨o,e,λ v q=>by rw[d] at q;cases q⟩
 keep:=λ i h h' st k=>by obtain⟨o,e,r⟩:=st;exact⟨o,k it (by simp) o e,r⟩
 item:=by intro X hP hw hK hc i pins s σ H E I hf st hg;subst hP hw hK;obtain⟨f0,f1,f2,f3,f4,f5⟩:=hf it (by simp);refine(W X.A (I.ok.hd hc)).item i s _ _ hg st λ v h' tk hv st' kk=>?_;obtain⟨c,u,hc',rfl⟩:=hv;have I1:Inv X pins σ H {s with heap:=h',toks:=tk}:=I.turned (λ b o hb e=>kk b o (by simpa using hb) e) f0 f1 f3 f4 f5;obtain⟨o,e,cl,d⟩:=id st';exact⟨_,rfl,wt (s:={s with heap:=h',toks:=tk}) e cl d hT ⟨.str ⟨#[c]⟩,H,I1,⟨u,rfl⟩,⟨rfl,c,hc',rfl⟩,st',λ b hb=>(hf b hb).1⟩⟩
 done:=by intro X hP hw hK hc i pins s σ H E I hf st hg;subst hP hw hK;obtain⟨f0,f1,f2,f3,f4,f5⟩:=hf it (by simp);have hn:z.cps.size<=i:=hg;exact hend X.A i s _ E (I.ok.hd hc) st (by simp[hn]) λ h' eb=>⟨rfl,I.turned (t':=s.toks) (λ b o hb e=>eb b o hb e) f0 f1 f3 f4 f5⟩
 self:=hself
section
variable {pins:PN}{σ:St}{H:Hp}{s:Shared}{R:It->Hp->Prop}{E:VP}
theorem afD(I:Inv X pins σ H s)(q:R (Its z) H):wpAny (model X.prog X.w) X.A (pyIter (.str z t)) (PIE X pins σ tg R) E s:=by
 cases ha:z.cps.all (·<128)
 ·refine wpAny_pyIter_wide ha ?_;refine⟨s.heap.objs.size,[s.heap.objs.size],_,_,H,rfl,I.kept (t':=s.toks) λ b o e=>Heap.get?_push_of_some _ e,
   tD _ "str_iterator" z t (by decide) (λ A hA=>Walks.strWide hA _ z t) (λ A i s Q E st h=>wpAny_pyIter_striter_wide st h) (λ A i s Q E hh st hx hQ=>wpAny_pyNext_wide_end hh st hx hQ),⟨_,Heap.get?_push_size _ rfl,rfl,rfl⟩,λ b hb=>?_,q⟩
  have e:b=s.heap.objs.size:=by simpa using hb
  subst e;exact I.mB (Nat.le_refl _) (I.hok.fresh (Nat.le_refl _))
 ·refine wpAny_pyIter_ascii ha ?_;refine⟨s.heap.objs.size,[s.heap.objs.size],_,_,H,rfl,I.kept (t':=s.toks) λ b o e=>Heap.get?_push_of_some _ e,
   tD _ "str_ascii_iterator" z t (by decide) (λ A hA=>Walks.strAscii hA _ z t) (λ A i s Q E st h=>wpAny_pyIter_striter_ascii st h) (λ A i s Q E hh st hx hQ=>wpAny_pyNext_ascii_end hh st hx hQ),⟨_,Heap.get?_push_size _ rfl,rfl,rfl⟩,λ b hb=>?_,q⟩
  have e:b=s.heap.objs.size:=by simpa using hb
  subst e;exact I.mB (Nat.le_refl _) (I.hok.fresh (Nat.le_refl _))
theorem adF(I:Inv X pins σ H s)(hq:SqL X.K H a xs)(q:R (Itl X.K a) H):wpAny (model X.prog X.w) X.A (pyIter (.ref a)) (PIE X pins σ tg R) E s:=by
 obtain⟨its,rv,p,hz⟩:=I.list hq;refine wpAny_pyIter_list p.isList ?_;refine⟨s.heap.objs.size,[s.heap.objs.size],_,_,H,rfl,I.kept (t':=s.toks) λ b o e=>Heap.get?_push_of_some _ e,we a _,⟨_,Heap.get?_push_size _ rfl,rfl,rfl⟩,λ b hb=>?_,q⟩;have e:b=s.heap.objs.size:=by simpa using hb
 subst e;exact I.mB (Nat.le_refl _) (I.hok.fresh (Nat.le_refl _))
theorem afE(I:Inv X pins σ H s)(hq:SqT X.K H a xs)(q:R (Itt X.K a) H):wpAny (model X.prog X.w) X.A (pyIter (.ref a)) (PIE X pins σ tg R) E s:=by
 obtain⟨its,rv,p,hz⟩:=I.tuple hq;refine wpAny_pyIter_tuple (show s.heap.IsTuple a its.toArray from p) ?_;refine⟨s.heap.objs.size,[s.heap.objs.size],_,_,H,rfl,I.kept (t':=s.toks) λ b o e=>Heap.get?_push_of_some _ e,u4 a _,⟨_,Heap.get?_push_size _ rfl,rfl,rfl⟩,λ b hb=>?_,q⟩;have e:b=s.heap.objs.size:=by simpa using hb
 subst e;exact I.mB (Nat.le_refl _) (I.hok.fresh (Nat.le_refl _))
end
def ajl(K:FG)(tl:TE):TI:=λ σ H R=>tl σ H λ x H1=>(∃ a xs,x=.ref a/\SqL K H1 a xs/\R (Itl K a) H1)\/(∃ a xs,x=.ref a/\SqT K H1 a xs/\R (Itt K a) H1)\/∃ z,x=.str z/\R (Its z) H1
theorem aee(hl:PE X l tl):PI X tg l (ajl X.K tl):=by
 intro pins s σ H R I h;refine thn (hl pins s σ H _ I h) λ v s1 hq46=>?_;obtain⟨x,H1,I1,r1,q1⟩:=hq46;rcases q1 with ⟨a,xs,e,hq,q⟩ | ⟨a,xs,e,hq,q⟩ | ⟨z,e,q⟩
 ·subst e;cases r1;exact adF I1 hq q
 ·subst e;cases r1;exact afE I1 hq q
 ·subst e;obtain⟨t,rfl⟩:=r1;exact afD I1 q
def ItD(K:FG)(J:It)(H0:Hp)(ws:List W):Prop:=∀ H,Kp H0 H->∀ i:Nat,(i<ws.length->J.go i H)/\(ws.length<=i->J.stop i H) /\
 ∀ x H',i<ws.length->J.yld i H x H'->Kp H H'/\(∀ M,cq K H M->cq K H' M)/\∃ w,ws[i]? =some w/\aE K H' w x
abbrev TId:=DS->MH->(List W->MH->Prop)->Prop
def upI(K:FG)(t:TId):TI:=λ σ H R=>∃ τ M Rd,Abs K H σ τ M/\t τ M Rd/\∀ J H' ws M',Kp H H'->cq K H' M'->ItD K J H' ws->Rd ws M'->R J H'
abbrev PId(X:Cx)(tg iter:Expr)(t:TId):Prop:=PI X tg iter (upI X.K t)
theorem adt(h:PI X tg iter t)(k:∀ σ H R,t' σ H R->t σ H R):PI X tg iter t':=λ pins s σ H R I q=>h pins s σ H R I (k σ H R q)
def kK:W->Option (List W)
 | .d (.list ds)=>some (ds.map W.d)
 | .d (.tuple ds)=>some (ds.map W.d)
 | .d (.str z)=>some (z.cps.toList.map λ c=>W.d (.str ⟨#[c]⟩))
 | _=>none
def dh(te:TD)(τ:DS)(M:MH)(R:List W->MH->Prop):Prop:=te τ M λ w M1=>∃ ws,kK w=some ws/\R ws M1
theorem acq(hs:SqT K H a vs)(ra:a9 K H ds vs):ItD K (Itt K a) H (ds.map W.d):=λ H1 kp i=>by
 have hl:=ra.length;refine⟨λ hi=>?_,λ hi=>⟨vs,SqT.keep kp hs,by rw[List.length_map] at hi;omega⟩,λ x H' hi y=>?_⟩
 ·rw[List.length_map] at hi;exact⟨vs,vs[i]'(by omega),SqT.keep kp hs,by simp⟩
 ·obtain⟨e,y⟩:=y;subst e;have ev:=y vs (SqT.keep kp hs);obtain⟨d,e1,rd⟩:=(ra.keep kp).get' ev;exact⟨Kp.refl _,λ M m=>m,.d d,by simp[e1],rd⟩
theorem adT(z:Str):ItD K (Its z) H (z.cps.toList.map λ c=>W.d (.str ⟨#[c]⟩)):=λ H1 kp i=>by refine⟨λ hi=>(show i<z.cps.size by simpa using hi),λ hi=>(show z.cps.size<=i by simpa using hi),λ x H' hi y=>?_⟩;obtain⟨e,c,hc,ex⟩:=y;subst e;subst ex;exact⟨Kp.refl _,λ M m=>m,.d (.str ⟨#[c]⟩),by simp[hc],by simp[aE,aA]⟩
theorem adS(lo:Int)(n:Nat):ItD K (Itr lo n) H ((List.range n).map λ i:Nat=>W.d (.int (lo+(i:Int)))):=λ H1 kp i=>by refine⟨λ hi=>(show i<n by simpa using hi),λ hi=>(show n<=i by simpa using hi),λ x H' hi y=>?_⟩;obtain⟨e,ex⟩:=y;subst e;subst ex;simp at hi;exact⟨Kp.refl _,λ M m=>m,.d (.int (lo+i)),by simp[hi],by simp[aE,aA]⟩
theorem yd(h:PD X l te):PId X tg l (dh te):=adt (aee h) λ σ H R hq47=>by
 obtain⟨τ,M,Rd,A,h,k⟩:=hq47;refine⟨τ,M,_,A,h,λ v H1 w M1 kp r m hq48=>?_⟩;obtain⟨ws,e,q⟩:=hq48;cases w with
 | t n=>simp[kK] at e
 | m a=>simp[kK] at e
 | d d =>
  cases d with
  | list ds =>
   simp only[kK] at e;cases e;simp only[aE,aA] at r;obtain⟨a,vs,e1,hs,ra⟩:=r;refine .inl ⟨a,vs,e1,hs.sq,k _ H1 _ M1 kp m ?_ q⟩;intro H2 kp2 i;have hl:=ra.length;have hs2:=(hs.keep kp2).sq;refine⟨λ hi=>?_,λ hi=>⟨vs,hs2,by rw[List.length_map] at hi;omega⟩,λ x H' hi y=>?_⟩
   ·rw[List.length_map] at hi;exact⟨vs,vs[i]'(by omega),hs2,by simp⟩
   ·obtain⟨e,y⟩:=y;subst e;have ev:=y vs hs2;obtain⟨d,e1,rd⟩:=(ra.keep kp2).get' ev;exact⟨Kp.refl _,λ M m=>m,.d d,by simp[e1],rd⟩
  | tuple ds =>
   simp only[kK] at e;cases e;simp only[aE,aA] at r;obtain⟨a,vs,e1,hs,ra⟩:=r;exact .inr (.inl ⟨a,vs,e1,hs,k _ H1 _ M1 kp m (acq hs ra) q⟩)
  | str z =>
   simp only[kK] at e;cases e;simp only[aE,aA] at r;exact .inr (.inr ⟨z,r,k _ H1 _ M1 kp m (adT z) q⟩)
  | _=>simp[kK] at e
def ij(lo:Int)(n:Nat):List W:=(List.range n).map λ i:Nat=>W.d (.int (lo+(i:Int)))
def lK(ta:TAd)(τ:DS)(M:MH)(R:List W->MH->Prop):Prop:=ta τ M λ ws M1=>∃ j:Int,ws=[.d (.int j)]/\-(2 ^ 62)<=j/\j<2 ^ 62/\R (ij 0 j.toNat) M1
theorem e9(r:aQ K H [w] vs):∃ v,vs=[v]/\aE K H w v:=by
 cases r with
 | cons r1 r2=>cases r2;exact⟨_,rfl,r1⟩
theorem sD(r:aQ K H [w,w'] vs):∃ v v',vs=[v,v']/\aE K H w v/\aE K H w' v':=by
 cases r with
 | cons r1 r2 =>
  cases r2 with
  | cons r3 r4=>cases r4;exact⟨_,_,rfl,r1,r3⟩
theorem uS(hg:Gl X "range")(hm:X.mg "range" = none)(ha:PAd X [a] ta)(hs:starEach [a] X.env=[(false,eval a X.env)]:=by rfl):PId X tg (.Call (.Name "range" p) [a] [] pos) (lK ta):=
 adt (wY hg hm ha hs) λ σ H R ⟨τ,M,Rd,A,h,k⟩=>⟨τ,M,_,A,h,λ vs H1 ws M1 kp r m hq49=>by obtain⟨j,e,h1,h2,q⟩:=hq49;subst e;obtain⟨v,e1,r1⟩:=e9 r;simp only[aE,aA] at r1;subst r1;exact⟨j,e1,h1,h2,k _ H1 _ M1 kp m (adS 0 j.toNat) q⟩⟩
def yE(di:TId)(g:TGd)(tb:TSd)(D:Ed)(τ:DS)(M:MH):Prop:=di τ M λ ws M1=>∃ P:Nat->DS->MH->Prop,P 0 τ M1 /\
 (∀ i w τ M,ws[i]? =some w->P i τ M->g w τ M λ τ2 M2=>tb {D with nx:=P (i+1),ct:=P (i+1),bk:=D.nx} τ2 M2)/\∀ τ M,P ws.length τ M->D.nx τ M
theorem abW(hp:PassesOwn (model X.prog X.w) X.A X.env X.xe)(hc:X.calm=true)(hi:PId X tg iter di)(hg:PGd X tg g)(hb:lp X body tb)
  (hs:∀ x,foldedSetIterable iter X.env x=pure x:=by intro _;rfl):PSd X (.For tg iter body [] pos) (yE di g tb):=qH (ae2 hp hc hi hg hb hs) λ D σ H hq50=>by
 obtain⟨τ,M,Dd,A,h,k1,k2,k3,k4⟩:=hq50;refine⟨τ,M,_,A,h,λ J H1 ws M1 kp m1 it hq51=>?_⟩;obtain⟨P,p0,pt,pe⟩:=hq51;refine⟨λ i n σ H'=>n=ws.length-i/\i<=ws.length/\Kp H1 H'/\∃ τ M,Abs X.K H' σ τ M/\P i τ M,⟨ws.length,by simp,Nat.zero_le _,Kp.refl _,τ,M1,A.go kp m1,p0⟩,?_⟩;rintro i n σ2 H2 ⟨rfl,hi,kp2,τ2,M2,A2,p2⟩;obtain⟨go,stop,yld⟩:=it H2 kp2 i
 by_cases hlt:i<ws.length
 ·refine .inr ⟨go hlt,λ σ3 H3=>Kp H2 H3/\∃ τ M,Abs X.K H3 σ3 τ M/\P (i+1) τ M,λ σ3 H3 ⟨kp3,τ3,M3,A3,p3⟩=>⟨ws.length-(i+1),by omega,rfl,hlt,kp2.trans kp3,τ3,M3,A3,p3⟩,λ x H3 y=>?_⟩;obtain⟨kp3,mk,w,ew,rw⟩:=yld x H3 hlt y;refine⟨w,τ2,M2,_,rw,A2.go kp3 (mk _ A2.mem),pt i w τ2 M2 ew p2,λ σ4 H4 τ4 M4 kp4 A4 q4=>?_⟩;have kq:=kp3.trans kp4;have kr:=(kp.trans kp2).trans kq;exact⟨τ4,M4,_,A4,q4,λ σ5 H5 τ5 M5 kp5 A5 q5=>⟨kq.trans kp5,τ5,M5,A5,q5⟩,λ v H5 w M5 kp5=>k2 v H5 w M5 (kr.trans kp5),λ σ5 H5 τ5 M5 kp5=>k1 σ5 H5 τ5 M5 (kr.trans kp5),λ σ5 H5 τ5 M5 kp5 A5 q5=>⟨kq.trans kp5,τ5,M5,A5,q5⟩⟩
 ·have hl:i=ws.length:=by omega
  subst hl;exact .inl ⟨stop (Nat.le_refl _),k1 σ2 H2 τ2 M2 (kp.trans kp2) A2 (pe τ2 M2 p2)⟩
def adj(k:Nat)(fr:List Nat)(τ:DS):DS:=List.replicate k none++fr.map λ j=>(τ[j]?).getD none
theorem tL(A:Abs K H σ τ M)(k:Nat)(fr:List Nat):Abs K H (lcS k fr σ) (adj k fr τ) M:=by
 refine⟨by simp[lcS,adj],λ i w e=>?_,A.mem⟩;unfold adj at e
 by_cases hi:i<k
 ·rw[List.getElem?_append_left (by simpa using hi),List.getElem?_replicate] at e
  split at e<;>cases e
 ·rw[List.getElem?_append_right (by simpa using hi),List.getElem?_map,List.length_replicate] at e;cases q:fr[i-k]? with
  | none=>rw[q] at e;cases e
  | some j =>
   rw[q] at e;have e':(τ[j]?).getD none=some w:=Option.some.inj e;have e2:τ[j]? =some (some w):=by
    cases z:τ[j]? with
    | none=>rw[z] at e';cases e'
    | some o=>rw[z] at e';exact congrArg some e'
   obtain⟨v,q1,r⟩:=A.val j w e2;refine⟨v,?_,r⟩;unfold lcS;rw[List.getElem?_append_right (by simpa using hi),List.getElem?_map,List.length_replicate,q];simp[q1]
def dLC(di:TId)(g:TGd)(tt:TTd)(te:TD)(k:Nat)(fr:List Nat)(τ:DS)(M:MH)(Q:QD):Prop:=di τ M λ ws M1=>∃ P:Nat->List PyData->DS->MH->Prop,P 0 [] (adj k fr τ) M1 /\
 (∀ i w acc τ M,ws[i]? =some w->P i acc τ M->acc.length<sizeLine/\g w τ M λ τ2 M2=>tt τ2 M2 λ b M3=>if b=true then te τ2 M3 λ y M4=>∃ d,y=.d d/\P (i+1) (acc++[d]) τ2 M4 else P (i+1) acc τ2 M3) /\
 ∀ acc τ M,P ws.length acc τ M->Q (.d (.list acc)) M
theorem aa5(h:up K (dLC di g tt te k fr) σ H Q) :
  aiy (tLC (upI K di) (upG K g) (upT K tt) (up K te) k fr) σ H Q:=by
 obtain⟨τ,M,Qd,A,h,kk⟩:=h;refine⟨τ,M,_,A,h,λ J H1 ws M1 kp m1 it hq52=>?_⟩;obtain⟨P,p0,pt,pe⟩:=hq52;refine⟨λ i n ys σ' H'=>n=ws.length-i/\i<=ws.length/\Kp H1 H'/\∃ acc τ M,a9 K H' acc ys/\Abs K H' σ' τ M/\P i acc τ M,⟨ws.length,by simp,Nat.zero_le _,Kp.refl _,[],_,M1,by simp[a9],tL (A.go kp m1) k fr,p0⟩,?_⟩;rintro i n ys σ2 H2 ⟨rfl,hi,kp2,acc,τ2,M2,ra,A2,p2⟩;obtain⟨go,stop,yld⟩:=it H2 kp2 i
 by_cases hlt:i<ws.length
 ·have hlen:=ra.length;refine .inr ⟨go hlt,?_,λ x H3 y=>?_⟩
  ·obtain⟨w,hw⟩:∃ w,ws[i]? =some w:=⟨ws[i],by simp[hlt]⟩;have:=(pt i w acc τ2 M2 hw p2).1;omega
  obtain⟨kp3,mk,w,ew,rw⟩:=yld x H3 hlt y;refine⟨w,τ2,M2,_,rw,A2.go kp3 (mk _ A2.mem),(pt i w acc τ2 M2 ew p2).2,λ σ4 H4 τ4 M4 kp4 A4 q4=>⟨τ4,M4,_,A4,q4,λ b H5 M5 kp5 m5 q5=>?_⟩⟩;have kq:=(kp3.trans kp4).trans kp5;cases b with
  | false =>
   rw[if_neg Bool.false_ne_true] at q5;show(if false=true then _ else _);rw[if_neg Bool.false_ne_true];exact⟨ws.length-(i+1),by omega,rfl,hlt,kp2.trans kq,acc,τ4,M5,ra.keep kq,A4.go kp5 m5,q5⟩
  | true =>
   rw[if_pos rfl] at q5;show(if true=true then _ else _);rw[if_pos rfl];refine⟨τ4,M5,_,A4.go kp5 m5,q5,λ v H6 wv M6 kp6 r6 m6 hq53=>?_⟩;obtain⟨d,e6,q6⟩:=hq53;subst e6;refine⟨ws.length-(i+1),by omega,rfl,hlt,kp2.trans (kq.trans kp6),acc++[d],τ4,M6,a9.append (ra.keep (kq.trans kp6)) ?_,A4.go (kp5.trans kp6) m6,q6⟩;simp only[a9];exact⟨v,[],rfl,r6,rfl⟩
 ·have hl:i=ws.length:=by omega
  subst hl;exact .inl ⟨stop (Nat.le_refl _),λ p hp=>jX hp ra A2.mem (pe acc τ2 M2 p2) (kgo kk (kp.trans kp2))⟩
section
variable {sc:Scope}{own:List Str}{fr:List Nat}{elt iter:Expr}{ifs:List Expr}{pos:Pos}{di:TId}{g:TGd}{tt:TTd}{te:TD}
abbrev uH(X:Cx)(ifs:List Expr)(t:TTd):Prop:=PTs X ifs (upT X.K t)
def oJ(_:DS)(M:MH)(Q:Bool->MH->Prop):Prop:=Q true M
theorem aaE(h:PTd X c t):uH X [c] t:=acS h
theorem ahU(hc:X.calm=true)(L:lY X sc own fr)(hi:PId X tg iter di)
  (hg:∀ cl C s H ex pl,PGd (blk X sc (lcN X own fr) cl C s H ex pl) tg g)(ht:∀ cl C s H ex pl,uH (blk X sc (lcN X own fr) cl C s H ex pl) ifs tt)(he:∀ cl C s H ex pl,PD (blk X sc (lcN X own fr) cl C s H ex pl) elt te)
  (hs:∀ x,foldedSetIterable iter X.env x=pure x:=by intro _;rfl):PD X (.ListComp elt [⟨tg,iter,ifs,0⟩] sc pos) (dLC di g tt te own.length fr):=
 ft (p5 (ahv hc L hi hg ht he hs)) λ σ H Q h=>aa5 h
theorem agk{st:Stmt}{t:TS}(h:PS X st t):PS X st (λ D σ H=>t {D with nx:=λ σ' H'=>∃ p u,H' p=some u/\Fz u/\∀ o,D.nx σ' (upd H' p (.frz o u))} σ H):=by
 intro pins s σ H D I hq;refine thn (h pins s σ H _ I hq) λ f s1 q=>?_;cases f with
 | next =>
  obtain⟨σ',H',I',p,u,e,fz,q⟩:=q;obtain⟨o,I2⟩:=I'.freeze e fz;exact⟨σ',_,I2,q o⟩
 | brk=>exact q
 | cont=>exact q
 | ret v=>exact q
theorem vm{i:Nat}{pos' spos:Pos}(hN:X.N.Nodup)(hi':X.N[i]? =some x)(hx:Loc X.env.scope x)(hc:X.calm=true)(L:lY X sc own fr)(hi:PId X tg iter di)
  (hg:∀ cl C s H ex pl,PGd (blk X sc (lcN X own fr) cl C s H ex pl) tg g)(ht:∀ cl C s H ex pl,uH (blk X sc (lcN X own fr) cl C s H ex pl) ifs tt)(he:∀ cl C s H ex pl,PD (blk X sc (lcN X own fr) cl C s H ex pl) elt te)
  (hsw:swapsWith (.ListComp elt [⟨tg,iter,ifs,0⟩] sc pos) (some (.Name x pos')) spos.line X.env=pure true:=by rfl)
  (hs:∀ x,foldedSetIterable iter X.env x=pure x:=by intro _;rfl)(hf:X.fn x=true\/X.env.scope.names.lookup x=some .local:=by first | exact .inl rfl | exact .inr rfl | assumption) :
  PSd X (.Assign [.Name x pos'] (.ListComp elt [⟨tg,iter,ifs,0⟩] sc pos) spos) (cf (dLC di g tt te own.length fr) (gN i)):=qH (agk (tV hN hi' hx hc L hi hg ht he hsw hs hf)) λ D σ H hq54=>by
 obtain⟨τ,M,Dd,A,h,k1,_⟩:=hq54;have z:up X.K (dLC di g tt te own.length fr) σ H (λ v H'=>D.nx (σ.set i (some v)) H'):=⟨τ,M,_,A,h,λ v H1 w M1 kp r m q=>k1 _ H1 _ M1 kp ((A.go kp m).set i r) q⟩;obtain⟨τ',M',R',A',h',k'⟩:=aa5 z;refine⟨τ',M',R',A',h',λ J H1 ws M1 kp m1 it q=>?_⟩;obtain⟨W,w0,st⟩:=k' J H1 ws M1 kp m1 it q;refine⟨W,w0,λ i m ys τ H w=>?_⟩;rcases st i m ys τ H w with ⟨s1,s2⟩ | r
 ·refine .inl ⟨s1,λ p hp=>?_⟩;obtain⟨p',u,e1,e2,f,q⟩:=s2 p hp;cases e1;exact⟨p,u,e2,f,q⟩
 ·exact .inr r
end
end
section
variable {X:Cx}{K:FG}
def agE(ws:List W)(M:MH)(Q:QD):Prop:=∃ i:Int,ws=[.d (.int i)]/\Q (.d (.int (if i<0 then -i else i))) M
theorem ae9:fT K (λ xs H Q=>∃ i,xs=[.int i]/\Q (.int (if i<0 then -i else i)) H) agE:=by intro vs H ws M Qd Q r m ⟨i,e,q⟩ k;subst e;obtain⟨v,e1,r1⟩:=e9 r;simp only[aE,aA] at r1;subst r1;exact⟨i,e1,k _ H (.d (.int _)) M (Kp.refl H) (by simp[aE,aA]) m q⟩
def pq(M:MH):W->Option Nat
 | .d (.list ds)=>some ds.length
 | .d (.tuple ds)=>some ds.length
 | .d (.str z)=>some z.length
 | .m a=>match M a with
  | some (.lst ws)=>some ws.length
  | _=>none
 | _=>none
def iX(ws:List W)(M:MH)(Q:QD):Prop:=∃ w n,ws=[w]/\pq M w=some n/\yG w=true/\Q (.d (.int (n:Nat))) M
theorem fM:fT K (λ xs H Q=>∃ x n,xs=[x]/\aiL K x H n/\Q (.int n) H) iX:=by
 intro vs H ws M Qd Q r m ⟨w,n,e,hn,hf,q⟩ k;subst e;obtain⟨v,e1,r1⟩:=e9 r;refine⟨v,n,e1,?_,k _ H (.d (.int _)) M (Kp.refl H) (by simp[aE,aA]) m q⟩;cases w with
 | t _=>simp[pq] at hn
 | m a =>
  simp only[aE] at r1;subst r1;simp only[pq] at hn;cases hm:M a with
  | none=>rw[hm] at hn;cases hn
  | some mo =>
   rw[hm] at hn;cases mo with
   | lst l=>cases hn;obtain⟨us,e2,rw1⟩:=m a _ hm;exact .inl ⟨us,SqL.of e2,rw1.length⟩
   | dic _=>cases hn
   | dct _=>cases hn
   | fdic _=>cases hn
   | ins _ _=>cases hn
   | tup _=>cases hn
   | flst _=>cases hn
   | exc _ _=>cases hn
   | code _ _=>cases hn
 | d d =>
  cases d with
  | list ds=>simp only[pq] at hn;cases hn;simp only[aE,aA] at r1;obtain⟨a,us,e2,hs,ra⟩:=r1;subst e2;exact .inl ⟨us,hs.sq,ra.length.symm⟩
  | tuple ds=>simp only[pq] at hn;cases hn;simp only[aE,aA] at r1;obtain⟨a,us,e2,hs,ra⟩:=r1;subst e2;exact .inr ⟨us,hs,ra.length.symm⟩
  | str z=>simp only[pq] at hn;cases hn;simp only[aE,aA] at r1;subst r1;exact⟨of_decide_eq_true hf,rfl⟩
  | _=>simp[pq] at hn
def za(ws:List W)(M:MH)(Q:QD):Prop:=∃ bs:List Bool,ws=[.d (.list (bs.map PyData.bool))]/\Q (.d (.bool (bs.all id))) M
theorem af8:fT K (λ xs H Q=>∃ (x:V) (bs:List Bool),xs=[x]/\aA K H (.list (bs.map PyData.bool)) x/\Q (.bl (bs.all id)) H) za:=by intro vs H ws M Qd Q r m ⟨bs,e,q⟩ k;subst e;obtain⟨v,e1,r1⟩:=e9 r;exact⟨v,bs,e1,r1,k _ H (.d (.bool _)) M (Kp.refl H) (by simp[aE,aA]) m q⟩
theorem sT:∀ {ys:List Str} {vs:List V} {us:List Value},a9 K H (ys.map PyData.str) vs->Vals vs us->StrsAre us ys
 | [],vs,us,h,r=>by simp only[List.map_nil,a9] at h;subst h;cases r;exact .nil
 | y::ys,vs,us,h,r=>by
  simp only[List.map_cons,a9] at h;obtain⟨v,vr,e,h1,h2⟩:=h;subst e;simp only[aA] at h1;subst h1;cases r with
  | cons r1 r2 =>
   obtain⟨t,e⟩:=(show ∃ t,_=Value.str y t from r1);subst e;exact .cons _ _ (sT h2 r2)
def MtD(K:FG)(r:V->List V->Hp->VK->Prop)(rd:W->List W->MH->QD->Prop):Prop:=∀ x vs H w ws M Qd Q,aE K H w x->aQ K H ws vs->cq K H M->rd w ws M Qd->Kont K H Qd Q->r x vs H Q
def dMS(rd:W->List W->MH->QD->Prop)(to:TD)(t:TAd)(τ:DS)(M:MH)(Q:QD):Prop:=to τ M λ w M1=>(∃ z,w=.d (.str z))/\t τ M1 λ ws M2=>rd w ws M2 Q
theorem ahx{o e:Expr}{to:TD}{t:TAd}{name:Str}{apos cpos:Pos}{id:String}{r:V->List V->Hp->VK->Prop}{rd:W->List W->MH->QD->Prop}(slot:Slot "str" name id)(hty:typeOf (.builtin id)=pure (.type "method_descriptor"))(hm:MtR X id r)(hd:MtD X.K r rd)(ho:PD X o to)(ha:PAd X (e::es) t)
  (hbase:attributeBase o name X.env (eval o X.env)=eval o X.env:=by rfl)
  (hfew:((backTo cpos (starEach (e::es) X.env)).all (λ x=>!x.1)&&(backToKw cpos (keywordEach [] X.env)).all (λ x=>x.1.isSome)
   && decide ((e::es).length+([]:List Keyword).length+(if ([]:List Keyword).isEmpty then 0 else 1)<30))=true:=by rfl)
  (hline:(apos.endLine==cpos.line)=true:=by rfl)(hs:starEach (e::es) X.env=(false,eval e X.env)::starEach es X.env:=by rfl)(hplain:(backTo cpos (starEach es X.env)).any (·.1)=false:=by rfl) :
  PD X (.Call (.Attribute o name apos) (e::es) [] cpos) (dMS rd to t):=ft (zt PySem.F.plainAttrs_str slot hty hm ho ha hbase hfew hline hs hplain) λ σ H Q hq55=>by
 obtain⟨τ,M,Qd,A,h,k⟩:=hq55;refine⟨τ,M,_,A,h,λ x H1 w M1 kp1 r1 m1 hq56=>?_⟩;obtain⟨⟨z,ez⟩,q1⟩:=hq56;subst ez;have r1':=r1;simp only[aE,aA] at r1';subst r1';exact⟨rfl,τ,M1,_,A.go kp1 m1,q1,λ vs H2 ws M2 kp2 r2 m2 q2=>hd _ vs H2 _ ws M2 Qd Q (r1.keep kp2) r2 m2 q2 (kgo k (kp1.trans kp2))⟩
def rJoin(K:FG):V->List V->Hp->VK->Prop:=λ x vs H Q=>∃ (sep:Str) (v:V) (ys:List Str),x=.str sep/\vs=[v]/\aA K H (.list (ys.map PyData.str)) v/\(ys.map (·.length)).sum+ys.length * sep.length<=16777216/\Q (.str (Txt.join sep ys)) H
theorem acI:MtR X "str.join" (rJoin X.K):=by intro pins s σ H x vs v us Q I rx rv h;obtain⟨sep,y,ys,rfl,rfl,rd,hz,q⟩:=h;obtain⟨t,rfl⟩:=rx;obtain⟨u,rfl,ru⟩:=vals1 rv;simp only[aA] at rd;obtain⟨a,xs,e,hs,ra⟩:=rd;subst e;cases (show u=Value.ref a from ru);obtain⟨its,r,pl,hz'⟩:=I.list hs.sq;exact join_list pl.isList (by simpa using sT ra r) hz λ t' k=>⟨.str _,H,I.tok _,⟨_,rfl⟩,q⟩
def sJ(w:W)(ws:List W)(M:MH)(Q:QD):Prop:=∃ (sep:Str) (ys:List Str),w=.d (.str sep)/\ws=[.d (.list (ys.map PyData.str))]/\(ys.map (·.length)).sum+ys.length * sep.length<=16777216/\Q (.d (.str (Txt.join sep ys))) M
theorem ac2:MtD K (rJoin K) sJ:=by intro x vs H w ws M Qd Q r1 r2 m ⟨sep,ys,e1,e2,hz,q⟩ k;subst e1;subst e2;obtain⟨v,e3,r3⟩:=e9 r2;simp only[aE,aA] at r1;exact⟨sep,v,ys,r1,e3,r3,hz,k _ H (.d (.str _)) M (Kp.refl H) (by simp[aE,aA]) m q⟩
theorem abT(ho:PD X o to)(ha:PD X e te)
  (hbase:attributeBase o "join" X.env (eval o X.env)=eval o X.env:=by rfl)(hs:starEach [e] X.env=[(false,eval e X.env)]:=by rfl)
  (hfew:((backTo cpos (starEach [e] X.env)).all (λ x=>!x.1)&&(backToKw cpos (keywordEach [] X.env)).all (λ x=>x.1.isSome)
   && decide (([e]:List Expr).length+([]:List Keyword).length+(if ([]:List Keyword).isEmpty then 0 else 1)<30))=true:=by rfl)
  (hline:(apos.endLine==cpos.line)=true:=by rfl) :
  PD X (.Call (.Attribute o "join" apos) [e] [] cpos) (dMS sJ to (ah te aI)):=ahx PySem.F.slot_str_join PySem.F.type_str_join acI ac2 ho (sH ha jU hs) hbase hfew hline hs
def wR(_:DS)(M:MH)(Q:QD):Prop:=Q (.d (.dict [])) M
theorem wb(r:aA K H (tU key) v):v=kV key:=by
 cases key<;>(simp only[tU,aA] at r;exact r)
end
structure Fn(K:FG)(mg:Str->Option Value)(x:Str)(st:Stmt)(ps:List Str)(f:Addr)(fd:FuncData):Prop where
 fn:Fun K x x st f fd
 mg:mg x=some (.ref f)
 bd:Binds K fd ps []
section
variable {K:FG}{mg:Str->Option Value}{h:Heap}
theorem xb{st:Stmt}{ps:List Str}{oc:Value}{od an:Option Addr}{osl:Array (Option Value)}{kV doc pm cdv ct:Value}(X:K.In h)(G:h.Ns mainGlobals mg)(a:W.nsIn K mainGlobals x=some (some (.ref f)))
  (l:K.lookup f=some ⟨oc,od,.func (W.fnOf x x (aN st) (aG st) (ai st) .none kV doc pm an cdv ct),osl⟩)(c:W.codeIn K cdv x=true)(k:W.keepIn K (.ref f)=true)
  (b:∀ (kV doc pm:Value) (an:Option Addr) (cdv ct:Value) (us:List Value),us.length=ps.length->bindArgs (W.fnOf x x (aN st) (aG st) (ai st) .none kV doc pm an cdv ct) ⟨us,[]⟩=pure (ps.zip us)) :
  Fn K mg x st ps f (W.fnOf x x (aN st) (aG st) (ai st) .none kV doc pm an cdv ct):=
 have F:=wZ (st:=st) l c k
 ⟨F,W.mg_of X G a,F.binds b⟩
end
def afV(sc scX:Scope)(N:List Str)(fr:List Nat):Bool:=
 (sc.kind==.function)&&sc.names.all (λ y=>!(y.2==.cell))&&sc.names.all (λ y=>!(y.2==.free) || scX.names.lookup y.1==some .cell || scX.names.lookup y.1==some .free) &&
  sc.names.all (λ y=>!(y.2==.local) || sc.names.lookup y.1==some .local)&&agM N sc fr
theorem oA(h:afV sc X.env.scope X.N fr=true):lY X sc own fr:=by
 simp only[afV,Bool.and_eq_true] at h;obtain⟨⟨⟨⟨h1,h2⟩,h3⟩,h4⟩,h5⟩:=h;refine⟨eq_of_beq h1,λ y hy e=>?_,λ y hy e=>?_,λ y hy e=>?_,h5⟩
 ·have:=List.all_eq_true.mp h2 y hy;simp[e] at this
 ·have:=List.all_eq_true.mp h3 y hy;simp only[e,beq_self_eq_true,Bool.not_true,Bool.false_or,Bool.or_eq_true] at this;rcases this with z | z
  ·exact .inl (eq_of_beq z)
  ·exact .inr (eq_of_beq z)
 ·have:=List.all_eq_true.mp h4 y hy;simp only[e,beq_self_eq_true,Bool.not_true,Bool.false_or] at this;exact eq_of_beq this
theorem afS:bootBuiltins "int" = some (.type "int"):=by decide +kernel
theorem xA:bootBuiltins "str" = some (.type "str"):=by decide +kernel
theorem yv:bootBuiltins "bool" = some (.type "bool"):=by decide +kernel
theorem iS:bootBuiltins "list" = some (.type "list"):=by decide +kernel
theorem zu:bootBuiltins "tuple" = some (.type "tuple"):=by decide +kernel
theorem fO:bootBuiltins "len" = some (.builtin "len"):=by decide +kernel
theorem afd:bootBuiltins "abs" = some (.builtin "abs"):=by decide +kernel
theorem aex:bootBuiltins "all" = some (.builtin "all"):=by decide +kernel
theorem bZ:bootBuiltins "isinstance" = some (.builtin "isinstance"):=by decide +kernel
def eh:Expr->Bool
 | .Starred ..=>true
 | _=>false
theorem bN(e:Expr)(es:List Expr)(env:PySem.Env)(h:eh e=false):starEach (e::es) env=(false,eval e env)::starEach es env:=by
 cases e<;>first | rfl | (exact absurd h (by simp[eh]))
theorem cI(pos:Pos)(env:PySem.Env):∀ es:List Expr,(es.all λ e=>!eh e)=true->(backTo pos (starEach es env)).any (·.1)=false
 | [],_=>rfl
 | e::es,h=>by rw[List.all_cons,Bool.and_eq_true,Bool.not_eq_true'] at h;rw[bN e es env h.1];show(false || (backTo pos (starEach es env)).any (·.1))=false;rw[cI pos env es h.2];rfl
section
variable {X:Cx}{pos p:Pos}{e:Expr}{es:List Expr}{te:TD}{t:TAd}{x:Str}{id T:String}{r:List V->Hp->VK->Prop}{rd:List W->MH->QD->Prop}{k:Nat}{f:Addr}{fd:FuncData}{ps:List Str}{sp:SpD}
theorem pac(ha:PD X e te)(hr:PAd X es t)(h:eh e=false:=by rfl):PAd X (e::es) (ah te t):=sH ha hr (bN e es X.env h)
theorem pcB(hc:eP X (.builtin id) r)(hd:fT X.K r rd)(hg:Gl X x)(hm:X.mg x=none)(hv:bootBuiltins x=some (.builtin id))(ha:PAd X (e::es) t)(hn:x ≠ "__name__":= by decide)(hdb:ND x:=by decide)
  (h1:eh e=false:=by rfl)(h2:(es.all λ e=>!eh e)=true:=by rfl):PD X (.Call (.Name x p) (e::es) [] pos) (dCB rd t):=zE hc hd hg hm hv ha hn hdb (bN e es X.env h1) (cI pos X.env es h2)
theorem pcF(F:bW X.prog X.w X.K X.mg X.base CX0 k f fd ps (ef X.K sp))(hr:cY k X.A)(hg:Gl X x)(hm:X.mg x=some (.ref f))(hk:W.keepIn X.K (.ref f)=true)(hb:Binds X.K fd ps [])
  (ha:PAd X (e::es) t)(hdb:ND x:=by decide)(h1:eh e=false:=by rfl)(h2:(es.all λ e=>!eh e)=true:=by rfl) :
  PD X (.Call (.Name x p) (e::es) [] pos) (bO sp t):=ac4 F hr hg hm hk hb ha hdb (bN e es X.env h1) (cI pos X.env es h2)
end
structure Jd(p:Prop):Prop where
 h:p
abbrev pm(K:FG)(p:TD×TD):TE×TE:=(up K p.1,up K p.2)
section
variable {X:Cx}{pos:Pos}{a b c e:Expr}{ta tb tc te:TD}{K:FG}
theorem dvQ(i:Nat)(hN:X.N[i]? =some x:=by rfl)(hv:Vis X.env.scope x:=by first | exact Or.inl rfl | exact Or.inr (Or.inl rfl) | exact Or.inr (Or.inr rfl))(hd:ND x:=by decide)(hcd:(x==("__classdict__" : Str))=false:=by decide):Jd (PD X (.Name x pos) (ar i)):=⟨agb (vA hN hv hd hcd)⟩
theorem af{i j pos}:Jd (PD X (.Constant (.int i) j pos) (dC (.d (.int i)))):=⟨aea agG λ H=>by simp[aE,aA]⟩
theorem gX{b j pos}:Jd (PD X (.Constant (.bool b) j pos) (dC (.d (.bool b)))):=⟨aea ahR λ H=>by simp[aE,aA]⟩
theorem cU{j pos}:Jd (PD X (.Constant .none j pos) (dC (.d .none))):=⟨aea aaY λ H=>by simp[aE,aA]⟩
theorem bj{x j pos}:Jd (PD X (.Constant (.str x) j pos) (dC (.d (.str x)))):=⟨aea afh λ H=>by simp[aE,aA]⟩
theorem gZ(hg:Gl X x)(hm:X.mg x=some (.int i t))(hd:ND x:=by decide):Jd (PD X (.Name x pos) (dC (.d (.int i)))):=⟨aea (rD (v:=.int i) hg hm ⟨t,rfl⟩ hd) λ H=>by simp[aE,aA]⟩
theorem gj(hg:Gl X x)(hm:X.mg x=none)(hv:bootBuiltins x=some (.type n))(hn:x ≠ "__name__":= by decide)(hd:ND x:=by decide):Jd (PD X (.Name x pos) (dC (.t n))):=⟨
 aea (w6 (v:=.ty n) hg hm hv rfl hn hd) λ H=>by simp[aE]⟩
theorem aV(ho:OpR X (binaryOp op) r)(hd:OpD X.K r rd)(ha:Jd (PD X a ta))(hb:Jd (PD X b tb)):Jd (PD X (.BinOp a op b pos) (dOp rd ta tb)):=⟨D.aha (ho:=ho) (hd:=hd) (ha:=ha.h) (hb:=hb.h)⟩
theorem adN(ho:OpR X (compareOp op) r)(hd:OpD X.K r rd)(ha:Jd (PD X a ta))(hb:Jd (PD X b tb))(hm:behindInMarks op b=false:=by first | exact iD _ (by decide) (by decide) | rfl):Jd (PD X (.Compare a [op] [b] pos) (dOp rd ta tb)):=⟨D.af9 (ho:=ho) (hd:=hd) (ha:=ha.h) (hb:=hb.h) (hm:=hm)⟩
theorem bw(hr:IxR X r)(hd:OpD X.K r rd)(ha:Jd (PD X a ta))(hb:Jd (PD X b tb))(hs:sf b:=by intro _ _;rfl):Jd (PD X (.Subscript a b pos) (dOp rd ta tb)):=⟨D.ahZ (hr:=hr) (hd:=hd) (ha:=ha.h) (hb:=hb.h) (hs:=hs)⟩
theorem aJ(ho:OpR X (compareOp op) r)(hd:OpD X.K r rd)(ha:Jd (PD X a ta))(hb:Jd (PD X b tb))(hm:behindInMarks op b=false:=by first | exact iD _ (by decide) (by decide) | rfl):Jd (PTd X (.Compare a [op] [b] pos) (aW (dOp rd ta tb))):=⟨D.ab9 (ho:=ho) (hd:=hd) (ha:=ha.h) (hb:=hb.h) (hm:=hm)⟩
theorem dm(h:Jd (PD X e te))(he:∀ whole,isTrue e X.env whole=(do let v <- whole;standAt e.pos;holding [v] (truthy v)):=by intro _;rfl):Jd (PTd X e (aW te)):=⟨D.adk (h:=h.h) (he:=he)⟩
theorem p6(ho:OpR X (compareOp op) r)(hd:OpD X.K r rd)(ho':OpR X (compareOp op') r')(hd':OpD X.K r' rd')(ha:Jd (PD X a ta))(hb:Jd (PD X b tb))(hc:Jd (PD X c tc))(hm:lastMarks [op,op'] [b,c]=false:=by with_unfolding_all rfl):Jd (PD X (.Compare a [op,op'] [b,c] pos) (fH rd rd' ta tb tc)):=⟨D.zW (ho:=ho) (hd:=hd) (ho':=ho') (hd':=hd') (ha:=ha.h) (hb:=hb.h) (hc:=hc.h) (hm:=hm)⟩
theorem uM(ho:OpR X (compareOp op) r)(hd:OpD X.K r rd)(ho':OpR X (compareOp op') r')(hd':OpD X.K r' rd')(ha:Jd (PD X a ta))(hb:Jd (PD X b tb))(hc:Jd (PD X c tc))(hm:lastMarks [op,op'] [b,c]=false:=by with_unfolding_all rfl):Jd (PTd X (.Compare a [op,op'] [b,c] pos) (aW (fH rd rd' ta tb tc))):=⟨D.xp (ho:=ho) (hd:=hd) (ho':=ho') (hd':=hd') (ha:=ha.h) (hb:=hb.h) (hc:=hc.h) (hm:=hm)⟩
theorem wk(ho:UnR X (unaryOp op) r)(hd:UnD X.K r rd)(ha:Jd (PD X a ta)):Jd (PD X (.UnaryOp op a pos) (dUn rd ta)):=⟨D.ahF (ho:=ho) (hd:=hd) (ha:=ha.h)⟩
variable {tA tB:TTd}{rest:List Expr}
theorem kA(ha:Jd (PTd X a tA)):Jd (PWd X (.BoolOp .And [a] pos) tA):=⟨D.aat (ha:=ha.h)⟩
theorem eI(ha:Jd (PTd X a tA)):Jd (PWd X (.BoolOp .Or [a] pos) tA):=⟨D.acv (ha:=ha.h)⟩
theorem jC(ha:Jd (PTd X a tA))(hb:Jd (PWd X (.BoolOp .And (b::rest) pos) tB)):Jd (PWd X (.BoolOp .And (a::b::rest) pos) (ad6 tA tB)):=⟨D.adf (ha:=ha.h) (hb:=hb.h)⟩
theorem dI(ha:Jd (PTd X a tA))(hb:Jd (PWd X (.BoolOp .Or (b::rest) pos) tB)):Jd (PWd X (.BoolOp .Or (a::b::rest) pos) (dOr tA tB)):=⟨D.afo (ha:=ha.h) (hb:=hb.h)⟩
theorem fZ(h:Jd (PWd X e tA)):Jd (PTd X e tA):=⟨D.ahw (h:=h.h)⟩
theorem dM(ha:Jd (PTd X a tA)):Jd (PTd X (.UnaryOp .Not a pos) (sk tA)):=⟨D.ac6 (ha:=ha.h)⟩
theorem kO{op}(h:Jd (PD X a ta)):Jd (PD X (.BoolOp op [a] pos) ta):=⟨D.agr (h:=h.h)⟩
theorem jY(ha:Jd (PD X a ta))(hb:Jd (PD X (.BoolOp .And (b::rest) pos) tb)):Jd (PD X (.BoolOp .And (a::b::rest) pos) (mZ ta tb)):=⟨D.aeV (ha:=ha.h) (hb:=hb.h)⟩
theorem ac5(ha:Jd (PD X a ta)):Jd (PD X (.UnaryOp .Not a pos) (zc ta)):=⟨D.aev (ha:=ha.h)⟩
variable {es:List Expr}{t:TAd}
theorem aa  : Jd (PAd X [] aI):=⟨D.jU ⟩
theorem cS(h:Jd (PAd X es t)):Jd (PD X (.List es pos) (pw t)):=⟨D.afY (h:=h.h)⟩
theorem fF(h:Jd (PAd X es t)):Jd (PD X (.List es pos) (oz t)):=⟨D.adM (h:=h.h)⟩
theorem aX{x1}(h:Jd (PAd X es t)):Jd (PD X (.Tuple es x1 pos) (gu t)):=⟨D.aeN (h:=h.h)⟩
variable {x:Str}{p:Pos}{id T:String}{r:List V->Hp->VK->Prop}{rd:List W->MH->QD->Prop}
end
section
variable {X:Cx}{pos:Pos}{st:Stmt}{sts:List Stmt}{t u:TSd}{e:Expr}{te:TD}{K:FG}
theorem aR  : Jd (lp X [] dn):=⟨afJ adK λ D σ H ⟨τ,M,Dd,A,h,k1,_⟩=>k1 σ H τ M (Kp.refl H) A h⟩
theorem ae(h1:Jd (PSd X st t))(h2:Jd (lp X sts u)):Jd (lp X (st::sts) (bz t u)):=⟨D.ye (h1:=h1.h) (h2:=h2.h)⟩
theorem ak(h1:Jd (PSd X st t)):Jd (lp X [st] t):=⟨D.yL (h1:=h1.h)⟩
theorem bS(he:Jd (PD X e te))(hs:swapsWith e none pos.line X.env=pure false:=by rfl):Jd (PSd X (.Expr e pos) (gq te)):=⟨D.yY (he:=he.h) (hs:=hs)⟩
theorem aH(he:Jd (PD X e te)):Jd (PSd X (.Return (some e) pos) (eA te)):=⟨D.ab1 (he:=he.h)⟩
theorem bB(hc:Jd (PTd X c tc))(ha:Jd (lp X a t))(hb:Jd (lp X b u)):Jd (PSd X (.If c a b pos) (dIf tc t u)):=⟨D.agO (hc:=hc.h) (ha:=ha.h) (hb:=hb.h)⟩
theorem ax(hN:X.N.Nodup)(hi:X.N[i]? =some x)(hx:Loc X.env.scope x)(hf:X.fn x=true\/X.env.scope.names.lookup x=some .local:=by first | exact .inl rfl | exact .inr rfl | assumption):Jd (PGd X (.Name x pos) (gN i)):=⟨
 ahi (qI hN hi hx hf) λ v σ H Q ⟨w,τ,M,Qd,r,A,h,k⟩=>k _ H _ M (Kp.refl H) (A.set i r) h⟩
theorem hG(he:Jd (PD X e te))(hg:Jd (PGd X tg g))(hs:swapsWithSole [tg] e pos.line X.env=pure false:=by rfl)(hw:swappedStores [tg] e X.env=pure none:=by rfl)(h1:(assignEach [tg] X.env).map (·.2)=[assign tg X.env]:=by rfl):Jd (PSd X (.Assign [tg] e pos) (cf te g)):=⟨D.acr (he:=he.h) (hg:=hg.h) (hs:=hs) (hw:=hw) (h1:=h1)⟩
theorem az(hN:X.N.Nodup)(hi:X.N[i]? =some x)(hx:Loc X.env.scope x)(he:Jd (PD X e te))(hs:swapsWith e (some (.Name x pos')) pos.line X.env=pure false:=by rfl)(hf:X.fn x=true\/X.env.scope.names.lookup x=some .local:=by first | exact .inl rfl | exact .inr rfl | assumption):Jd (PSd X (.Assign [.Name x pos'] e pos) (cf te (gN i))):=⟨D.ab7 (hN:=hN) (hi:=hi) (hx:=hx) (he:=he.h) (hs:=hs) (hf:=hf)⟩
end
theorem cz  : Jd (POd X none dv):=⟨aiP acK λ σ H Q ⟨τ,M,Qd,A,q,k⟩=>k none H M (Kp.refl H) A.mem q⟩
theorem cC(h:Jd (PD X e te)):Jd (POd X (some e) (hV te)):=⟨D.yJ (h:=h.h)⟩
theorem dB{te:TD}{lo hi:Option Expr}{tl th:TOd}{pos p2:Pos}(he:Jd (PD X e te))(hl:Jd (POd X lo tl))(hu:Jd (POd X hi th)):Jd (PD X (.Subscript e (.Slice lo hi none p2) pos) (dSl te tl th)):=⟨D.aaD (he:=he.h) (hl:=hl.h) (hu:=hu.h)⟩
theorem nK(ho:Jd (PD X o to))(hi:Jd (PD X i ti))(ha:∀ v,assign (.Subscript o i pos) X.env v=(do
   let ov <- holding [v] (eval o X.env)
   let iv <- holding [v,ov] (eval i X.env)
   standAt pos
   holding [v,ov,iv] (setItem ov iv v)
   release [v,ov,iv] []):=by intro _;rfl):Jd (PGd X (.Subscript o i pos) (zg to ti)):=⟨D.acC (ho:=ho.h) (hi:=hi.h) (ha:=ha)⟩
theorem vt(ho:Jd (PD X o to))(hi:Jd (PD X i ti))(he:Jd (PD X e te))(hp:PIp X op (ipI f))(ha:∀ ov iv new,augStore i ov iv new=(do holding [new,ov,iv] (setItem ov iv new);release [new,ov,iv] [];pure .next):=by intros;rfl):Jd (PSd X (.AugAssign (.Subscript o i tpos) op e pos) (zR to ti te f)):=⟨D.yR (ho:=ho.h) (hi:=hi.h) (he:=he.h) (hp:=hp) (ha:=ha)⟩
theorem bD(h:Jd (PD X l te)):Jd (PId X tg l (dh te)):=⟨D.yd (h:=h.h)⟩
theorem cy(hg:Gl X "range")(hm:X.mg "range" = none)(ha:Jd (PAd X [a] ta))(hs:starEach [a] X.env=[(false,eval a X.env)]:=by rfl):Jd (PId X tg (.Call (.Name "range" p) [a] [] pos) (lK ta)):=⟨D.uS (hg:=hg) (hm:=hm) (ha:=ha.h) (hs:=hs)⟩
theorem eJ(hp:PassesOwn (model X.prog X.w) X.A X.env X.xe)(hc:X.calm=true)(hi:Jd (PId X tg iter di))(hg:Jd (PGd X tg g))(hb:Jd (lp X body tb))(hs:∀ x,foldedSetIterable iter X.env x=pure x:=by intro _;rfl):Jd (PSd X (.For tg iter body [] pos) (yE di g tb)):=⟨D.abW (hp:=hp) (hc:=hc) (hi:=hi.h) (hg:=hg.h) (hb:=hb.h) (hs:=hs)⟩
theorem bV  : Jd (uH X [] oJ):=⟨λ pins s σ H Q I ⟨τ,M,Qd,A,q,k⟩=>ads pins s σ H Q I (k true H M (Kp.refl H) A.mem q)⟩
theorem fk(h:Jd (PTd X c t)):Jd (uH X [c] t):=⟨D.aaE (h:=h.h)⟩
theorem gz(hc:X.calm=true)(L:lY X sc own fr)(hi:Jd (PId X tg iter di))(hg:∀ cl C s H ex pl,Jd (PGd (blk X sc (lcN X own fr) cl C s H ex pl) tg g))(ht:∀ cl C s H ex pl,Jd (uH (blk X sc (lcN X own fr) cl C s H ex pl) ifs tt))(he:∀ cl C s H ex pl,Jd (PD (blk X sc (lcN X own fr) cl C s H ex pl) elt te))(hs:∀ x,foldedSetIterable iter X.env x=pure x:=by intro _;rfl):Jd (PD X (.ListComp elt [⟨tg,iter,ifs,0⟩] sc pos) (dLC di g tt te own.length fr)):=⟨D.ahU (hc:=hc) (L:=L) (hi:=hi.h) (hg:=λ cl C s H ex pl=>(hg cl C s H ex pl).h) (ht:=λ cl C s H ex pl=>(ht cl C s H ex pl).h) (he:=λ cl C s H ex pl=>(he cl C s H ex pl).h) (hs:=hs)⟩
theorem gm(hN:X.N.Nodup)(hi':X.N[i]? =some x)(hx:Loc X.env.scope x)(hc:X.calm=true)(L:lY X sc own fr)(hi:Jd (PId X tg iter di))(hg:∀ cl C s H ex pl,Jd (PGd (blk X sc (lcN X own fr) cl C s H ex pl) tg g))(ht:∀ cl C s H ex pl,Jd (uH (blk X sc (lcN X own fr) cl C s H ex pl) ifs tt))(he:∀ cl C s H ex pl,Jd (PD (blk X sc (lcN X own fr) cl C s H ex pl) elt te))(hsw:swapsWith (.ListComp elt [⟨tg,iter,ifs,0⟩] sc pos) (some (.Name x pos')) spos.line X.env=pure true:=by rfl)(hs:∀ x,foldedSetIterable iter X.env x=pure x:=by intro _;rfl)(hf:X.fn x=true\/X.env.scope.names.lookup x=some .local:=by first | exact .inl rfl | exact .inr rfl | assumption):Jd (PSd X (.Assign [.Name x pos'] (.ListComp elt [⟨tg,iter,ifs,0⟩] sc pos) spos) (cf (dLC di g tt te own.length fr) (gN i))):=⟨D.vm (hN:=hN) (hi':=hi') (hx:=hx) (hc:=hc) (L:=L) (hi:=hi.h) (hg:=λ cl C s H ex pl=>(hg cl C s H ex pl).h) (ht:=λ cl C s H ex pl=>(ht cl C s H ex pl).h) (he:=λ cl C s H ex pl=>(he cl C s H ex pl).h) (hsw:=hsw) (hs:=hs) (hf:=hf)⟩
theorem zU(ho:Jd (PD X o to))(ha:Jd (PD X e te))(hbase:attributeBase o "join" X.env (eval o X.env)=eval o X.env:=by rfl)(hs:starEach [e] X.env=[(false,eval e X.env)]:=by rfl)(hfew:((backTo cpos (starEach [e] X.env)).all (λ x=>!x.1)&&(backToKw cpos (keywordEach [] X.env)).all (λ x=>x.1.isSome)
   && decide (([e]:List Expr).length+([]:List Keyword).length+(if ([]:List Keyword).isEmpty then 0 else 1)<30))=true:=by rfl)(hline:(apos.endLine==cpos.line)=true:=by rfl):Jd (PD X (.Call (.Attribute o "join" apos) [e] [] cpos) (dMS sJ to (ah te aI))):=⟨D.abT (ho:=ho.h) (ha:=ha.h) (hbase:=hbase) (hs:=hs) (hfew:=hfew) (hline:=hline)⟩
theorem pG:Jd (PD X (.Dict [] [] pos) wR):=⟨ft (p5 sS) λ σ H Q ⟨τ,M,Qd,A,q,k⟩=>λ p hp=>by refine⟨p,_,rfl,au,trivial,λ o=>?_⟩;rw[xU];refine k _ _ (.d (.dict [])) M (Kp.new hp) ?_ (A.mem.new hp) q;simp only[aE,aA,gW];exact⟨p,o,[],rfl,au,rfl⟩⟩
section
variable {X:Cx}{pos p:Pos}{e:Expr}{es:List Expr}{te:TD}{t:TAd}{x:Str}{id T:String}{r:List V->Hp->VK->Prop}{rd:List W->MH->QD->Prop}{k:Nat}{f:Addr}{fd:FuncData}{ps:List Str}{sp:SpD}
theorem aw(ha:Jd (PD X e te))(hr:Jd (PAd X es t))(h:eh e=false:=by rfl):Jd (PAd X (e::es) (ah te t)):=⟨D.pac (ha:=ha.h) (hr:=hr.h) (h:=h)⟩
theorem k9(hc:eP X (.builtin id) r)(hd:fT X.K r rd)(hg:Gl X x)(hm:X.mg x=none)(hv:bootBuiltins x=some (.builtin id))(ha:Jd (PAd X (e::es) t))(hn:x ≠ "__name__":= by decide)(hdb:ND x:=by decide)(h1:eh e=false:=by rfl)(h2:(es.all λ e=>!eh e)=true:=by rfl):Jd (PD X (.Call (.Name x p) (e::es) [] pos) (dCB rd t)):=⟨D.pcB (hc:=hc) (hd:=hd) (hg:=hg) (hm:=hm) (hv:=hv) (ha:=ha.h) (hn:=hn) (hdb:=hdb) (h1:=h1) (h2:=h2)⟩
theorem eR(F:bW X.prog X.w X.K X.mg X.base CX0 k f fd ps (ef X.K sp))(hr:cY k X.A)(hg:Gl X x)(hm:X.mg x=some (.ref f))(hk:W.keepIn X.K (.ref f)=true)(hb:Binds X.K fd ps [])(ha:Jd (PAd X (e::es) t))(hdb:ND x:=by decide)(h1:eh e=false:=by rfl)(h2:(es.all λ e=>!eh e)=true:=by rfl):Jd (PD X (.Call (.Name x p) (e::es) [] pos) (bO sp t)):=⟨D.pcF (F:=F) (hr:=hr) (hg:=hg) (hm:=hm) (hk:=hk) (hb:=hb) (ha:=ha.h) (hdb:=hdb) (h1:=h1) (h2:=h2)⟩
end
section
variable {κ α:Type}[DecidableEq κ]
def gR(t:List (κ×α))(k:κ):Option α:=(t.find? λ p=>decide (p.1=k)).map (·.2)
def vd(t:List (κ×α))(k:κ)(v:α):List (κ×α):=if (t.any λ p=>decide (p.1=k))=true then t.map (λ p=>if p.1=k then (p.1,v) else p) else t++[(k,v)]
def OR(R:β->γ->Prop):Option β->Option γ->Prop
 | some a,some b=>R a b
 | none,none=>True
 | _,_=>False
theorem OR.some_of(h:OR R (some a) o):∃ b,o=some b/\R a b:=by
 cases o with
 | none=>exact h.elim
 | some b=>exact⟨b,rfl,h⟩
theorem OR.none_of(h:OR R none o):o=none:=by
 cases o with
 | none=>rfl
 | some b=>exact h.elim
theorem OR.isSome:∀ {a:Option β} {o:Option γ},OR R a o->a.isSome=o.isSome
 | some _,some _,_=>rfl
 | none,none,_=>rfl
 | some _,none,h=>h.elim
 | none,some _,h=>h.elim
theorem kR(k:κ):∀ {t:List (κ×α)} {l:List (κ×V)},Paired (λ p q=>p.1=q.1/\R p.2 q.2) t l->OR R (gR t k) (qw l k)
 | _,_,.nil=>True.intro
 | _,_,.cons (a:=p) (b:=q) (l₁:=t1) h t=>by
  obtain⟨h1,h2⟩:=h
  by_cases e:p.1=k
  ·rw[js (h1.symm.trans e),show gR (p::t1) k=some p.2 by simp[gR,List.find?_cons,e]];exact h2
  ·rw[jD (λ z=>e (h1.trans z)),show gR (p::t1) k=gR t1 k by simp[gR,List.find?_cons,e]];exact kR k t
theorem aa2{R:α->V->Prop}(k:κ):∀ {t:List (κ×α)} {l:List (κ×V)},Paired (λ p q=>p.1=q.1/\R p.2 q.2) t l->(t.any λ p=>decide (p.1=k))=(l.any λ p=>decide (p.1=k))
 | _,_,.nil=>rfl
 | _,_,.cons (a:=p) (b:=q) h t=>by simp only[List.any_cons];rw[aa2 k t,h.1]
theorem abm{R:α->V->Prop}(k:κ){v:V}(r:R a v):∀ {t:List (κ×α)} {l:List (κ×V)},Paired (λ p q=>p.1=q.1/\R p.2 q.2) t l ->
  Paired (λ p q=>p.1=q.1/\R p.2 q.2) (t.map λ p=>if p.1=k then (p.1,a) else p) (l.map λ p=>if p.1=k then (p.1,v) else p)
 | _,_,.nil=>.nil
 | _,_,.cons (a:=p) (b:=q) h t=>by
  simp only[List.map_cons];refine .cons ?_ (abm k r t)
  by_cases e:p.1=k
  ·rw[if_pos e,if_pos (h.1.symm.trans e)];exact⟨h.1,r⟩
  ·rw[if_neg e,if_neg (λ z=>e (h.1.trans z))];exact h
theorem xN(r:P p q):∀ {t:List (κ×α)} {l:List (κ×V)},Paired P t l->Paired P (t++[p]) (l++[q])
 | _,_,.nil=>.cons r .nil
 | _,_,.cons h t=>.cons h (xN r t)
theorem aaQ{R:α->V->Prop}(k:κ){v:V}(r:R a v){t:List (κ×α)}{l:List (κ×V)}(h:Paired (λ p q=>p.1=q.1/\R p.2 q.2) t l) :
  Paired (λ p q=>p.1=q.1/\R p.2 q.2) (vd t k a) (putK l k v):=by
 unfold vd putK;rw[aa2 k h]
 split
 ·exact abm k r h
 ·exact xN ⟨rfl,r⟩ h
theorem sN:∀ {t:List (κ×α)} {l:List (κ×V)},Paired P t l->t.length=l.length
 | _,_,.nil=>rfl
 | _,_,.cons _ t=>by simp[sN t]
theorem lb{t:List (κ×α)}{k:κ}:gR (p::t) k=if p.1=k then some p.2 else gR t k:=by
 by_cases e:p.1=k<;>simp[gR,List.find?_cons,e]
theorem sE(k:κ):∀ t:List (κ×α),(t.any λ p=>decide (p.1=k))=(gR t k).isSome
 | []=>rfl
 | p::t=>by
  rw[List.any_cons,sE k t,lb]
  by_cases e:p.1=k<;>simp[e]
end
def kW(k:Key):W:=.d (tU k)
theorem kd{K:FG}{H:Hp}{k:Key}{v:V}(r:aE K H (kW k) v):v=kV k:=wb r
def tkW(ks:List Key):W:=.d (.tuple (ks.map tU))
theorem aew{K:FG}{H:Hp}:∀ {ks:List Key} {vs:List V},a9 K H (ks.map tU) vs->vs=ks.map kV
 | [],vs,h=>by simpa [a9] using h
 | k::ks,vs,h=>by simp only[List.map_cons,a9] at h;obtain⟨v,r,e,h1,h2⟩:=h;rw[e,wb h1,aew h2];rfl
def Rd2(H:Hp)(a:Addr)(u:HO):Prop:=Rd H a u\/∃ o,H a=some (.frz o (.frz o u))
theorem xj(ok:HOk P w H h)(e:Rd2 H a (.dK kvs)):kvs.length<=sizeLine/\(a==sysModules)=false/\∃ vs,KV kvs vs/\h.DictOf (ba P w) a vs:=by
 rcases e with e | ⟨o,e⟩
 ·exact xO ok e
 ·exact(ok a _ e).2.2
def xI(K:FG)(H:Hp)(a:Addr)(y:V)(r:Option V):Prop:=
 (∃ kvs k,Rd2 H a (.dK kvs)/\y=kV k/\r=qw kvs k)\/∃ kvs k b,Rd H a (.dT kvs)/\y=.ref b/\SqT K H b (k.map kV)/\r=qw kvs k
theorem aaT(I:Inv X pins σ H s)(h:SqT X.K H b (ks.map kV)):(tupleKind (ba X.prog X.w)).is s.heap ks b:=by obtain⟨its,r,⟨o,h1,h2,n,h3⟩,_⟩:=I.tuple h;exact⟨o,its.toArray,n,h1,h2,h3,by simpa using jO r⟩
theorem zS(hu:A.units+1<cLine)(I:Inv X pins σ H s)(g:xI X.K H a y o)(ry:RelV y u)(h:∀ s',Inv X pins σ H s'->Q (.bool (!o.isSome)) s') :
  wpAny (model X.prog X.w) A (compareOp .NotIn u (.ref a)) Q E s:=by
 rcases g with ⟨kvs,k,e,ey,l⟩ | ⟨kvs,k,b,e,ey,eb,l⟩
 ·subst ey;obtain⟨z,hd,vs,rel,dd⟩:=xj I.hok e;refine wpAny_notIn_of (uZ ry) hd dd.mapOf ?_;rw[<- (rel.val k).j8,<- l];exact h _ (I.tok _)
 ·subst ey;cases (show u=Value.ref b from ry);obtain⟨z,hd,xs,rel,dd⟩:=yP I.hok e;refine wpAny_notIn_heap (tupleKind_room_in1 hu) (aaT I eb) hd dd ?_;have q:=(rel.val k).j8;rw[Option.isSome_map] at q;rw[<- q,<- l];exact h _ (I.tok _)
theorem acE(hu:A.units+1<cLine)(I:Inv X pins σ H s)(g:xI X.K H a y o)(ry:RelV y u)(rd:RelV d r)(h:∀ w' s',Inv X pins σ H s'->RelV (o.getD d) w'->Q w' s') :
  wpAny (model X.prog X.w) A (call (.builtin "dict.get") [.ref a,u,r]) Q E s:=by
 rcases g with ⟨kvs,k,e,ey,l⟩ | ⟨kvs,k,b,e,ey,eb,l⟩
 ·subst ey;obtain⟨z,hd,vs,rel,dd⟩:=xj I.hok e;refine call_meetsIn PySem.F.slot_dict_get dd.typeIs PySem.F.entry_dict_get (PySem.F.args_dict_get_3 _ _ _) (meets_dict_get_default (ba X.prog X.w) a (uZ ry) hd r) ⟨_,dd.mapOf,h _ _ (I.tok _) ?_⟩;rw[l];exact(rel.val k).getD rd
 ·subst ey;cases (show u=Value.ref b from ry);obtain⟨z,hd,xs,rel,dd⟩:=yP I.hok e;refine call_meetsIn PySem.F.slot_dict_get dd.typeIs PySem.F.entry_dict_get (PySem.F.args_dict_get_3 _ _ _) (meetsH_dict_get_default (tupleKind (ba X.prog X.w)) a b hd r) ⟨tupleKind_room_in1 hu,k,xs,aaT I eb,dd,h _ _ (I.tok _) ?_⟩;rw[l];exact(rel.val k).getD rd
theorem lS(hu:A.units+1<cLine)(I:Inv X pins σ H s)(e:Rd2 H a (.dK kvs))(l:qw kvs k=some v)(ry:RelV (kV k) u)(h:∀ w' s',Inv X pins σ H s'->RelV v w'->Q w' s') :
  s.TypeIs (.ref a) "dict" /\ wpAny (model X.prog X.w) A (getItem (.ref a) u) Q E s:=by
 obtain⟨z,hd,vs,rel,dd⟩:=xj I.hok e;obtain⟨w',hw,rw'⟩:=oh.some_of (v:=v) (o:=valueAt vs k) (by rw[<- l];exact rel.val k);exact⟨dd.typeIs,wpAny_getItem_of (uZ ry) dd.mapOf hw (h w' _ (I.tok _) rw')⟩
inductive pU(M:MH):W->W->Option W->Prop
 | k {a:Addr} {kvs:List (Key×W)} {k:Key} (h:M a=some (.dic kvs)):pU M (.m a) (kW k) (gR kvs k)
 | t {a:Addr} {kvs:List (List Key×W)} {ks:List Key} (h:M a=some (.dct kvs)):pU M (.m a) (tkW ks) (gR kvs ks)
 | f {a:Addr} {kvs:List (Key×W)} {k:Key} (h:M a=some (.fdic kvs)):pU M (.m a) (kW k) (gR kvs k)
 | d {kvs:List (Key×PyData)} {k:Key}:pU M (.d (.dict (kvs.map λ p=>(tU p.1,p.2)))) (kW k) ((gR kvs k).map W.d)
inductive DIs(M:MH):W->Prop
 | k {a:Addr} {kvs:List (Key×W)} (h:M a=some (.dic kvs)):DIs M (.m a)
 | t {a:Addr} {kvs:List (List Key×W)} (h:M a=some (.dct kvs)):DIs M (.m a)
 | d {kvs:List (PyData×PyData)}:DIs M (.d (.dict kvs))
theorem aan(h:tU a=tU b):a=b:=by
 cases a<;>cases b<;>simp[tU] at h<;>rw[h]
theorem ll{K:FG}{H:Hp}:∀ {kvs:List (Key×PyData)} {l:List (Key×V)},gW K H (kvs.map λ p=>(tU p.1,p.2)) l->Paired (λ(p:Key×PyData) (q:Key×V)=>p.1=q.1/\aA K H p.2 q.2) kvs l
 | [],l,h=>by simp only[List.map_nil,gW] at h;subst h;exact .nil
 | p::kvs,l,h=>by simp only[List.map_cons,gW] at h;obtain⟨key,v,r,e,ek,h1,h2⟩:=h;subst e;exact .cons ⟨aan ek,h1⟩ (ll h2)
theorem DIs.sound{K:FG}{H:Hp}{M:MH}{w:W}{x:V}(g:DIs M w)(r:aE K H w x)(m:cq K H M):∃ a,x=.ref a/\IsD H a:=by
 cases g with
 | k h =>
  obtain⟨l,e,_⟩:=m _ _ h;exact⟨_,r,.inl ⟨l,.inl e⟩⟩
 | t h =>
  obtain⟨l,e,_⟩:=m _ _ h;exact⟨_,r,.inr ⟨l,.inl e⟩⟩
 | d =>
  simp only[aE,aA] at r;obtain⟨a,o,l,e,h,_⟩:=r;exact⟨a,e,.inl ⟨l,.inr ⟨o,h⟩⟩⟩
theorem pU.sound{K:FG}{H:Hp}{M:MH}{w y:W}{o:Option W}{x v:V}(g:pU M w y o)(r:aE K H w x)(ry:aE K H y v)(m:cq K H M) :
  ∃ a p,x=.ref a/\xI K H a v p/\OR (aE K H) o p:=by
 cases g with
 | @k a kvs k h =>
  obtain⟨l,e,pr⟩:=m _ _ h;exact⟨_,_,r,.inl ⟨l,k,.inl (.inl e),kd ry,rfl⟩,kR k pr⟩
 | @f a kvs k h =>
  obtain⟨ob,l,e,pr⟩:=m _ _ h;exact⟨_,_,r,.inl ⟨l,k,.inr ⟨ob,e⟩,kd ry,rfl⟩,kR k pr⟩
 | @t a kvs ks h =>
  obtain⟨l,e,pr⟩:=m _ _ h;simp only[tkW,aE,aA] at ry;obtain⟨b,vs,eb,hs,ra⟩:=ry;rw[aew ra] at hs;exact⟨_,_,r,.inr ⟨l,ks,b,.inl e,eb,hs,rfl⟩,kR ks pr⟩
 | @d kvs k =>
  simp only[aE,aA] at r;obtain⟨a,ob,l,e,h,rk⟩:=r;refine⟨a,_,e,.inl ⟨l,k,.inl (.inr ⟨ob,h⟩),kd ry,rfl⟩,?_⟩;have g:=kR (R:=λ d q=>aA K H d q) k (ll rk);cases q:gR kvs k with
  | none=>rw[q] at g;rw[OR.none_of g];exact True.intro
  | some z =>
   rw[q] at g;obtain⟨b,eb,rb⟩:=OR.some_of g;rw[eb];exact rb
def tG(K:FG)(ty td:TE):TE:=λ σ H Q=>ty σ H λ y H1=>td σ H1 λ x H2=>∃ a o,x=.ref a/\xI K H2 a y o/\Q (.bl (!o.isSome)) H2
theorem u6(hu:X.A.units+1<cLine)(hi:PE X i ty)(ho:PE X o td):PC X .NotIn i o (tG X.K ty td):=by intro pins s σ H Q I h;refine thn (hi pins s σ H _ I h) λ iv s1 ⟨y,H1,I1,ry,q1⟩=>thn (ho pins s1 σ H1 _ I1 q1) λ u s2 hq57=>?_;obtain⟨x,H2,I2,rx,a,ov,ex,g,q2⟩:=hq57;subst ex;obtain rfl:u=Value.ref a:=rx;exact zS hu I2 g ry λ s3 I3=>⟨.bl (!ov.isSome),H2,I3,rfl,q2⟩
def aco(K:FG)(td ty tx:TE):TE:=λ σ H Q=>td σ H λ x H1=>∃ a,x=.ref a/\IsD H1 a/\ty σ H1 λ y H2=>tx σ H2 λ z H3=>∃ o,xI K H3 a y o/\Q (o.getD z) H3
theorem yl(hu:X.A.units+1<cLine)(ho:PE X o td)(he:PE X e ty)(hf:PE X f tx)(m:M2 X o "get" apos e f cpos):PE X (.Call (.Attribute o "get" apos) [e,f] [] cpos) (aco X.K td ty tx):=by
 intro pins s σ H Q I h;refine wpAny_Call_method m.base m.few m.line PySem.F.plainAttrs_dict PySem.F.slot_dict_get PySem.F.type_dict_get (thn (ho pins s σ H _ I h) λ u s1 hq58=>?_);obtain⟨x,H1,I1,rx,a,ex,d,q1⟩:=hq58;subst ex;obtain rfl:u=Value.ref a:=rx;obtain⟨t1,t2,_⟩:=agA I1 d;refine⟨t1,t2,?_⟩;rw[m.trees];refine Calls.callWith_builtin rfl (Calls.evalArgs_plain (Calls.spliced_cons (thn (he pins s1 σ H1 _ I1 q1) λ iv s2 ⟨y,H2,I2,ry,q2⟩ =>
  Calls.spliced_cons (thn (hf pins s2 σ H2 _ I2 q2) λ fv s3 ⟨z,H3,I3,rz,ov,g,q3⟩=>Calls.spliced_nil ?_))))
 exact acE hu I3 g ry rz λ w' s4 I4 rw'=>⟨_,H3,I4,rw',q3⟩
def af4(td ty:TE):TE:=λ σ H Q=>td σ H λ x H1=>ty σ H1 λ y H2=>∃ a kvs k v,x=.ref a/\Rd2 H2 a (.dK kvs)/\y=kV k/\qw kvs k=some v/\Q v H2
theorem zX(hu:X.A.units+1<cLine)(ho:PE X o td)(hi:PE X i ty)(hs:agT i):PE X (.Subscript o i pos) (af4 td ty):=by intro pins s σ H Q I h;refine abN PySem.F.slot_dict_getitem.lookup hs (thn (ho pins s σ H _ I h) λ u s1 ⟨x,H1,I1,rx,q1⟩=>thn (hi pins s1 σ H1 _ I1 q1) λ iv s2 hq59=>?_);obtain⟨y,H2,I2,ry,a,kvs,k,v,ex,g,ey,l,q2⟩:=hq59;subst ex ey;obtain rfl:u=Value.ref a:=rx;exact lS hu I2 g l ry λ w' s3 I3 rw'=>⟨v,H2,I3,rw',q2⟩
section
variable {X:Cx}{o i e f value:Expr}{es:List Expr}{pos pos' apos cpos:Pos}{td ti tx tv:TD}{t:TAd}
def yw(_:DS)(M:MH)(Q:QD):Prop:=∀ p,M p=none->Q (.m p) (bf M p (.dic []))
def m8(ti td:TD)(τ:DS)(M:MH)(Q:QD):Prop:=ti τ M λ y M1=>td τ M1 λ w M2=>∃ o,pU M2 w y o/\Q (.d (.bool (!o.isSome))) M2
theorem uQ{σ:St}{H:Hp}{Q:VK}(h:up X.K (m8 ti td) σ H Q):tG X.K (up X.K ti) (up X.K td) σ H Q:=by obtain⟨τ,M,Qd,A,h,k⟩:=h;refine⟨τ,M,_,A,h,λ y H1 wy M1 kp1 r1 m1 q1=>⟨τ,M1,_,A.go kp1 m1,q1,λ x H2 w M2 kp2 r2 m2 hq60=>?_⟩⟩;obtain⟨o,g,q2⟩:=hq60;obtain⟨a,p,e,g',ro⟩:=g.sound r2 (r1.keep kp2) m2;refine⟨a,p,e,g',?_⟩;rw[<- ro.isSome];exact k _ H2 (.d (.bool _)) M2 (kp1.trans kp2) (by simp[aE,aA]) m2 q2
theorem uO(hu:X.A.units+1<cLine)(hi:PD X i ti)(ho:PD X o td)(hm:behindInMarks .NotIn o=false:=by rfl):PTd X (.Compare i [.NotIn] [o] pos) (aW (m8 ti td)):=ad7 (ae0 (u6 hu hi ho) hm) λ σ H Q h=>jw (λ σ H Q h=>uQ h) h
inductive afn(M2:MH) (w y:W) (Q:QD):Prop
 | mk (a:Addr) (kvs:List (Key×W)) (k:Key) (v:W) (z0:w=.m a) (z1:M2 a=some (.dic kvs)\/M2 a=some (.fdic kvs)) (z2:y=kW k) (z3:gR kvs k=some v) (q:Q v M2):afn M2 w y Q
def uG(td ti:TD)(τ:DS)(M:MH)(Q:QD):Prop:=td τ M λ w M1=>ti τ M1 λ y M2=>afn M2 w y Q
theorem abK(hu:X.A.units+1<cLine)(ho:PD X o td)(hi:PD X i ti)(hs:agT i:=by exact λ _ _=>rfl):PD X (.Subscript o i pos) (uG td ti):=ft (zX hu ho hi hs) λ σ H Q h=>by
 obtain⟨τ,M,Qd,A,h,k⟩:=h;refine⟨τ,M,_,A,h,λ x H1 w M1 kp1 r1 m1 q1=>⟨τ,M1,_,A.go kp1 m1,q1,λ y H2 wy M2 kp2 r2 m2 hq61=>?_⟩⟩;obtain⟨a,kvs,key,v,ew,hm,ey,hv,q2⟩:=hq61;subst ew ey;obtain⟨l,e,pr⟩:∃ l,Rd2 H2 a (.dK l)/\Paired (λ(p:Key×W) (q:Key×V)=>p.1=q.1/\aE X.K H2 p.2 q.2) kvs l:=by
  rcases hm with hm | hm
  ·obtain⟨l,e,pr⟩:=m2 _ _ hm;exact⟨l,.inl (.inl e),pr⟩
  ·obtain⟨ob,l,e,pr⟩:=m2 _ _ hm;exact⟨l,.inr ⟨ob,e⟩,pr⟩
 have g:=kR key pr;rw[hv] at g;obtain⟨b,eb,rb⟩:=OR.some_of g;refine⟨a,l,key,b,r1,e,kd r2,eb,?_⟩;exact k _ H2 v M2 (kp1.trans kp2) rb m2 q2
def acm(td ti tx:TD)(τ:DS)(M:MH)(Q:QD):Prop:=td τ M λ w M1=>DIs M1 w/\ti τ M1 λ y M2=>tx τ M2 λ z M3=>∃ o,pU M3 w y o/\Q (o.getD z) M3
theorem OR.getD{K:FG}{H:Hp}{o:Option W}{p:Option V}{z:W}{v:V}(h:OR (aE K H) o p)(r:aE K H z v):aE K H (o.getD z) (p.getD v):=by
 cases o with
 | none=>rw[OR.none_of h];exact r
 | some a=>obtain⟨b,e,q⟩:=OR.some_of h;rw[e];exact q
theorem aca(hu:X.A.units+1<cLine)(ho:PD X o td)(he:PD X e ti)(hf:PD X f tx)(m:M2 X o "get" apos e f cpos:=by exact⟨rfl,rfl,rfl,rfl⟩):PD X (.Call (.Attribute o "get" apos) [e,f] [] cpos) (acm td ti tx):=ft (yl hu ho he hf m) λ σ H Q h=>by obtain⟨τ,M,Qd,A,h,k⟩:=h;refine⟨τ,M,_,A,h,λ x H1 w M1 kp1 r1 m1 hq62=>?_⟩;obtain⟨di,q1⟩:=hq62;obtain⟨a,ea,isd⟩:=di.sound r1 m1;refine⟨a,ea,isd,τ,M1,_,A.go kp1 m1,q1,λ y H2 wy M2 kp2 r2 m2 q2=>⟨τ,M2,_,A.go (kp1.trans kp2) m2,q2,λ z H3 wz M3 kp3 r3 m3 hq63=>?_⟩⟩;obtain⟨o,g,q3⟩:=hq63;obtain⟨a',p,e',g',ro⟩:=g.sound (r1.keep (kp2.trans kp3)) (r2.keep kp3) m3;rw[ea] at e';cases e';exact⟨p,g',k _ H3 _ M3 ((kp1.trans kp2).trans kp3) (ro.getD r3) m3 q3⟩
end
def qz(f:Str)(v:W):List (Str×W)->List (Str×W)
 | []=>[(f,v)]
 | (g,x)::r=>if g=f then (g,v)::r else (g,x)::qz f v r
abbrev yH(K:FG)(H:Hp):List (Str×W)->List (Str×V)->Prop:=Paired (λ(p:Str×W) (q:Str×V)=>p.1=q.1/\aE K H p.2 q.2)
theorem d9{K:FG}{H:Hp}(f:Str):∀ {fs:List (Str×W)} {l:List (Str×V)},yH K H fs l->OR (aE K H) (fs.lookup f) (l.lookup f)
 | _,_,.nil=>True.intro
 | _,_,.cons (a:=p) (b:=q) (l₁:=t1) (l₂:=t2) h t=>by
  obtain⟨pk,pv⟩:=p;obtain⟨qk,qv⟩:=q;obtain⟨h1,h2⟩:=h;have h1':pk=qk:=h1;subst h1';rw[List.lookup_cons,List.lookup_cons];cases e:(f==pk) with
  | true=>exact h2
  | false=>exact d9 f t
theorem xW{K:FG}{H:Hp}(f:Str){w:W}{v:V}(r:aE K H w v):∀ {fs:List (Str×W)} {l:List (Str×V)},yH K H fs l->yH K H (qz f w fs) (lD f v l)
 | _,_,.nil=>.cons ⟨rfl,r⟩ .nil
 | _,_,.cons (a:=p) (b:=q) (l₁:=t1) (l₂:=t2) h t=>by
  obtain⟨pk,pv⟩:=p;obtain⟨qk,qv⟩:=q;obtain⟨h1,h2⟩:=h;have h1':pk=qk:=h1;subst h1';show yH K H (if pk=f then (pk,w)::t1 else (pk,pv)::qz f w t1) (if pk=f then (pk,v)::t2 else (pk,qv)::lD f v t2)
  by_cases e:pk=f
  ·rw[if_pos e,if_pos e];exact .cons ⟨rfl,r⟩ t
  ·rw[if_neg e,if_neg e];exact .cons ⟨rfl,h2⟩ (xW f r t)
theorem vk{K:FG}{H:Hp}:∀ {fs:List (Str×W)} {l:List (Str×V)},yH K H fs l->fs.length=l.length
 | _,_,.nil=>rfl
 | _,_,.cons _ t=>by simp[vk t]
theorem yH.keep{K:FG}{H H':Hp}(kp:Kp H H'){fs:List (Str×W)}{l:List (Str×V)}(h:yH K H fs l):yH K H' fs l:=Paired.gF h λ p q z=>⟨z.1,z.2.keep kp⟩
section
variable {X:Cx}{C f:Addr}{o e value:Expr}{es:List Expr}{fn m x:Str}{pos pos' apos p:Pos}{td tv te:TD}{t:TAd}{k:Nat}{fd:FuncData}{ps:List Str}{sp:SpD}
inductive aiM(C:Addr) (fn:Str) (M1:MH) (w:W) (Q:QD):Prop
 | mk (a:Addr) (fs:List (Str×W)) (v:W) (z0:w=.m a) (z1:M1 a=some (.ins C fs)) (z2:fs.lookup fn=some v) (q:Q v M1):aiM C fn M1 w Q
def pR(C:Addr)(td:TD)(fn:Str)(τ:DS)(M:MH)(Q:QD):Prop:=td τ M λ w M1=>aiM C fn M1 w Q
theorem ae5(c:Cls X.K C)(n:cJ X.K C fn)(he:PD X e td)(hb:attributeBase e fn X.env (eval e X.env)=eval e X.env:=by rfl):PD X (.Attribute e fn pos) (pR C td fn):=ft (agc he hb) λ σ H Q h=>by obtain⟨τ,M,Qd,A,h,k⟩:=h;refine⟨τ,M,_,A,h,λ x H1 w M1 kp1 r1 m1 hq64=>?_⟩;obtain⟨a,fs,v,ew,hm,hl,q⟩:=hq64;subst ew;obtain⟨dx,l,e,pr⟩:=m1 _ _ hm;have g:=d9 fn pr;rw[hl] at g;obtain⟨b,eb,rb⟩:=OR.some_of g;exact⟨a,C,dx,l,b,r1,e,c,n,eb,k _ H1 v M1 kp1 rb m1 q⟩
def eQ(C:Addr)(td tv:TD)(fn:Str)(D:Ed)(τ:DS)(M:MH):Prop:=tv τ M λ v M1=>td τ M1 λ w M2=>∃ a fs,w=.m a/\M2 a=some (.ins C fs)/\fs.length<1000/\D.nx τ (bf M2 a (.ins C (qz fn v fs)))
theorem acL(c:Cls X.K C)(n:cJ X.K C fn)(ha:PD X o td)(hv:PD X value tv)(hs:swapsWith value (some (.Attribute o fn pos')) pos.line X.env=pure false:=by rfl):PSd X (.Assign [.Attribute o fn pos'] value pos) (eQ C td tv fn):=qH (aeJ ha hv hs) λ D σ H h=>by obtain⟨τ,M,Dd,A,h,k1,_⟩:=h;refine⟨τ,M,_,A,h,λ v H1 wv M1 kp1 r1 m1 q1=>⟨τ,M1,_,A.go kp1 m1,q1,λ x H2 w M2 kp2 r2 m2 hq65=>?_⟩⟩;obtain⟨a,fs,ew,hm,hl,q2⟩:=hq65;subst ew;obtain⟨dx,l,e,pr⟩:=m2 _ _ hm;have kp4:Kp H2 (upd H2 a (.ins C dx (lD fn v l))):=Kp.set e (λ _ z=>nomatch z) (λ _ _ z=>nomatch z);refine⟨a,C,dx,l,r2,e,c,n,by rw[<- vk pr];exact hl,?_⟩;refine k1 _ _ _ _ ((kp1.trans kp2).trans kp4) (A.go ((kp1.trans kp2).trans kp4) (m2.put (mo:=.ins C (qz fn wv fs)) kp4 ⟨dx,_,au,?_⟩)) q2;exact yH.keep kp4 (xW fn (r1.keep kp2) pr)
inductive aec(C:Addr) (m:Str) (M1:MH) (w:W) (q:Prop):Prop
 | mk (a:Addr) (fs:List (Str×W)) (z0:w=.m a) (z1:M1 a=some (.ins C fs)) (z2:fs.lookup m=none) (z3:q):aec C m M1 w q
def fm(C:Addr)(m:Str)(sp:SpD)(td:TD)(t:TAd)(τ:DS)(M:MH)(Q:QD):Prop:=td τ M λ w M1=>aec C m M1 w (t τ M1 λ ws M2=>sp (w::ws) M2 Q)
theorem zv{σ:St}{H:Hp}{Q:VK}(h:up X.K (fm C m sp td t) σ H Q):adV C m (ef X.K sp) [] E0 (up X.K td) (upA X.K t) σ H Q:=by obtain⟨τ,M,Qd,A,h,k⟩:=h;refine⟨τ,M,_,A,h,λ x H1 w M1 kp1 r1 m1 hq66=>?_⟩;obtain⟨a,fs,ew,hm,hl,q1⟩:=hq66;subst ew;obtain⟨dx,l,e,pr⟩:=m1 _ _ hm;have g:=d9 m pr;rw[hl] at g;refine⟨a,dx,l,r1,e,OR.none_of g,τ,M1,_,A.go kp1 m1,q1,λ vs H2 ws M2 kp2 r2 m2 q2=>?_⟩;exact⟨.m a::ws,M2,Qd,by rw[List.append_nil];exact .cons r1 r2,m2,q2,kgo (kgo k kp1) kp2⟩
theorem acj(he:PD X o td)(c:Cls X.K C)(hm:Meth X.K C m f)(F:bW X.prog X.w X.K X.mg X.base CX0 k f fd ps (ef X.K sp))(hr:cY k X.A)(hb:Binds X.K fd ps [])(ha:PAd X (e::es) t)
  (ht:eval (.Call (.Attribute o m apos) (e::es) [] pos) X.env=(do
   let ov <- eval o X.env
   standAt apos.atName
   let (f,first) <- holding [ov] (getMethod ov m pl)
   callWith pos f first (backTo pos (starEach (e::es) X.env)) (backToKw pos (keywordEach [] X.env))):=by rfl)
  (h1:eh e=false:=by rfl)(h2:(es.all λ e=>!eh e)=true:=by rfl):PD X (.Call (.Attribute o m apos) (e::es) [] pos) (fm C m sp td t):=
 ft (adG (E:=E0) (dvs:=[]) he c hm F hr hb .nil aas ha (bN e es X.env h1) (cI pos X.env es h2) ht) λ σ H Q h=>zv h
theorem yK{pl:Sem Bool}(he:PD X o td)(c:Cls X.K C)(hm:Meth X.K C m f)(F:bW X.prog X.w X.K X.mg X.base CX0 k f fd ps (ef X.K sp))(hr:cY k X.A)(hb:Binds X.K fd ps [])
  (ht:eval (.Call (.Attribute o m apos) [] [] pos) X.env=(do
   let ov <- eval o X.env
   standAt apos.atName
   let (f,first) <- holding [ov] (getMethod ov m pl)
   callWith pos f first (backTo pos (starEach [] X.env)) (backToKw pos (keywordEach [] X.env))):=by rfl):PD X (.Call (.Attribute o m apos) [] [] pos) (fm C m sp td aI):=
 ft (yM (E:=E0) (dvs:=[]) he c hm F hr hb .nil aas ht) λ σ H Q h=>by obtain⟨τ,M,Qd,A,h,k⟩:=h;refine⟨τ,M,_,A,h,λ x H1 w M1 kp1 r1 m1 hq67=>?_⟩;obtain⟨a,fs,ew,hm,hl,q1⟩:=hq67;subst ew;obtain⟨dx,l,e,pr⟩:=m1 _ _ hm;have g:=d9 m pr;rw[hl] at g;exact⟨a,dx,l,r1,e,OR.none_of g,.m a::[],M1,Qd,.cons r1 .nil,m1,q1,kgo k kp1⟩
theorem nD{H1:Hp}{M1:MH}{a dx:Addr}(m1:cq X.K H1 M1)(ha:H1 a=none)(hd:H1 dx=none)(hn:dx≠a):Kp H1 (upd (upd H1 dx (.own a)) a (.ins C dx []))/\cq X.K (upd (upd H1 dx (.own a)) a (.ins C dx [])) (bf M1 a (.ins C [])):=by
 have k1:Kp H1 (upd H1 dx (.own a)):=Kp.new hd;have ha2:(upd H1 dx (.own a)) a=none:=by rw[aq (Ne.symm hn)];exact ha
 have k2:Kp (upd H1 dx (.own a)) (upd (upd H1 dx (.own a)) a (.ins C dx [])):=Kp.new ha2;exact⟨k1.trans k2,(m1.new hd).put (mo:=.ins C []) k2 ⟨dx,[],au,.nil⟩⟩
end
def pf(M:MH)(a:Addr):MH:=λ b=>if b=a then none else M b
theorem adz(h:b≠a):pf M a b=M b:=if_neg h
theorem cq.del{K:FG}{H:Hp}{M:MH}{a:Addr}{o:HO}(m:cq K H M)(kp:Kp H (upd H a o)):cq K (upd H a o) (pf M a):=λ b mo hm=>by
 by_cases e:b=a
 ·subst e;simp[pf] at hm
 ·rw[adz e] at hm;exact(m b mo hm).keep kp λ u z=>by rw[aq e];exact z
def agV(R:W->MH->Prop)(ws:List W)(M:MH):Prop:=match ws with
 | [y]=>R y M
 | _=>False
theorem rn(h:agV R ws M):∃ y,ws=[y]/\R y M:=by
 match ws,h with
 | [y],h=>exact⟨y,rfl,h⟩
def qo(td:TD)(τ:DS)(M:MH)(Q:QD):Prop:=td τ M λ w M1=>∃ a ds,w=.m a/\M1 a=some (.lst (ds.map W.d))/\Q (.d (.list ds)) (pf M1 a)
theorem acX(h:PD X e td):PD X e (qo td):=ft (p5 h) λ σ H Q h=>by obtain⟨τ,M,Qd,A,h,k⟩:=h;refine⟨τ,M,_,A,h,λ x H1 w M1 kp1 r1 m1 hq68=>?_⟩;obtain⟨a,ds,ew,hm,q⟩:=hq68;subst ew;obtain⟨vs,e,ra⟩:=m1 _ _ hm;refine⟨a,_,r1,e,trivial,λ ob=>?_⟩;have kp2:Kp H1 (upd H1 a (.frz ob (.lst vs))):=Kp.set e (λ _ z=>nomatch z) (λ _ _ z=>nomatch z);refine k _ _ (.d (.list ds)) (pf M1 a) (kp1.trans kp2) ?_ (m1.del kp2) q;simp only[aE,aA];exact⟨a,vs,r1,.inl ⟨ob,au⟩,ra.data.keep kp2⟩
def iP(td te:TD)(τ:DS)(M:MH)(Q:QD):Prop:=td τ M λ w M1=>∃ a ws,w=.m a/\M1 a=some (.lst ws)/\te τ M1 λ y M2=>∃ ws',M2 a=some (.lst ws')/\ws'.length<sizeLine/\Q (.d .none) (bf M2 a (.lst (ws'++[y])))
theorem yh(ho:PD X o td)(he:PD X e te)
  (hbase:attributeBase o "append" X.env (eval o X.env)=eval o X.env:=by rfl)
  (hfew:((backTo cpos (starEach [e] X.env)).all (λ x=>!x.1)&&(backToKw cpos (keywordEach [] X.env)).all (λ x=>x.1.isSome)
   && decide (([e]:List Expr).length+([]:List Keyword).length+(if ([]:List Keyword).isEmpty then 0 else 1)<30))=true:=by rfl)
  (hline:(apos.endLine==cpos.line)=true:=by rfl)(hs:eh e=false:=by rfl):PD X (.Call (.Attribute o "append" apos) [e] [] cpos) (iP td te):=
 ft (zt PySem.F.plainAttrs_list PySem.F.slot_list_append PySem.F.type_list_append xE ho (pac he jU hs) hbase hfew hline (bN e [] X.env hs) rfl) λ σ H Q h=>by obtain⟨τ,M,Qd,A,h,k⟩:=h;refine⟨τ,M,_,A,h,λ x H1 w M1 kp1 r1 m1 hq69=>?_⟩;obtain⟨a,ws,ew,hm,q1⟩:=hq69;subst ew;obtain⟨vs,ea,ra⟩:=m1 _ _ hm;have r1':x=.ref a:=r1;subst r1';refine⟨.inl ⟨rfl,vs,.inl (.inl ea)⟩,τ,M1,agV (λ y M2=>∃ ws',M2 a=some (.lst ws')/\ws'.length<sizeLine/\Qd (.d .none) (bf M2 a (.lst (ws'++[y])))),A.go kp1 m1,q1,λ ys H2 wys M2 kp2 r2 m2 q2=>?_⟩;obtain⟨y,ey,ws',hm2,hl,q4⟩:=rn q2;subst ey;obtain⟨v,ev,rv⟩:=e9 r2;subst ev;obtain⟨vs2,ea2,ra2⟩:=m2 _ _ hm2;have kp4:Kp H2 (upd H2 a (.lst (vs2++[v]))):=Kp.set ea2 (λ _ z=>nomatch z) (λ _ _ z=>nomatch z);refine⟨a,vs2,v,rfl,rfl,ea2,by rw[<- ra2.length];exact hl,?_⟩;exact k _ _ (.d .none) _ ((kp1.trans kp2).trans kp4) (by simp[aE,aA]) (m2.put (mo:=.lst (ws'++[y])) kp4 ⟨_,au,(aQ.append ra2 (.cons rv .nil)).keep kp4⟩) q4
def oO(K:FG)(H:Hp)(d:PyData)(x:V):Prop:=aA K H d x\/∃ a vs ds,d=.list ds/\x=.ref a/\H a=some (.lst vs)/\a9 K H ds vs
inductive zG(M:MH):W->PyData->Prop
 | d {x:PyData}:zG M (.d x) x
 | l {a:Addr} {ds:List PyData} (h:M a=some (.lst (ds.map W.d))):zG M (.m a) (.list ds)
theorem zG.sound{K:FG}{H:Hp}{M:MH}{w:W}{d:PyData}{x:V}(g:zG M w d)(r:aE K H w x)(m:cq K H M):oO K H d x:=by
 cases g with
 | d=>exact .inl r
 | l h =>
  obtain⟨vs,e,ra⟩:=m _ _ h;exact .inr ⟨_,vs,_,rfl,r,e,ra.data⟩
theorem aiY(I:Inv X pins σ H s)(h:oO X.K H d x):∃ H',Inv X pins σ H' s/\aA X.K H' d x:=by
 rcases h with h | ⟨a,vs,ds,rfl,rfl,e,ra⟩
 ·exact⟨H,I,h⟩
 ·obtain⟨o,I2⟩:=I.freeze e trivial;have kp:Kp H (upd H a (.frz o (.lst vs))):=Kp.set e (λ _ z=>nomatch z) (λ _ _ z=>nomatch z);refine⟨_,I2,?_⟩;simp only[aA];exact⟨a,vs,rfl,.inl ⟨o,au⟩,ra.keep kp⟩
theorem dy(I:Inv X pins σ H s)(d:PyData)(h:oO X.K H d x)(r:RelV x u)(hd:d.hasDict=false):∃ as,Reads s.heap u d as:=by obtain⟨H',I',h'⟩:=aiY I h;exact gg I' d h' r hd
theorem jI(hr:lO k X.A):OpR X (compareOp .Eq) (λ x y H Q=>∃ d d',oO X.K H d x/\oO X.K H d' y/\d6 d d'=true/\Q (.bl (PyData.eqv d d')) H):=by
 intro pins s σ H x y v u Q I rx ry h;obtain⟨d,d',h1,h2,o,q⟩:=h;rcases fE o with ⟨a,b,e1,e2⟩ | ⟨o1,o2⟩
 ·subst e1;subst e2;rcases h1 with h1 | ⟨_,_,_,z,_⟩
  ·rcases h2 with h2 | ⟨_,_,_,z,_⟩
   ·exact abF hr pins s σ H x y v u Q I rx ry ⟨_,_,h1,h2,o,q⟩
   ·cases z
  ·cases z
 simp only[lA,Bool.and_eq_true,Bool.not_eq_true'] at o1 o2;obtain⟨as,r1⟩:=dy I d h1 rx o1.2;obtain⟨bs,r2⟩:=dy I d' h2 ry o2.2;exact eq_dataH r1 r2 o1.1 o2.1 hr.units ⟨.bl _,H,I,rfl,q⟩
theorem iE(hr:lO k X.A):OpR X (compareOp .NotEq) (λ x y H Q=>∃ d d',oO X.K H d x/\oO X.K H d' y/\d6 d d'=true/\Q (.bl (!PyData.eqv d d')) H):=by
 intro pins s σ H x y v u Q I rx ry h;obtain⟨d,d',h1,h2,o,q⟩:=h;rcases fE o with ⟨a,b,e1,e2⟩ | ⟨o1,o2⟩
 ·subst e1;subst e2;rcases h1 with h1 | ⟨_,_,_,z,_⟩
  ·rcases h2 with h2 | ⟨_,_,_,z,_⟩
   ·exact aeB hr pins s σ H x y v u Q I rx ry ⟨_,_,h1,h2,o,q⟩
   ·cases z
  ·cases z
 simp only[lA,Bool.and_eq_true,Bool.not_eq_true'] at o1 o2;obtain⟨as,r1⟩:=dy I d h1 rx o1.2;obtain⟨bs,r2⟩:=dy I d' h2 ry o2.2;exact ne_dataH r1 r2 o1.1 o2.1 hr.units ⟨.bl _,H,I,rfl,q⟩
section
variable {X:Cx}{K:FG}
def oV(w w':W)(M:MH)(Q:QD):Prop:=∃ d d',zG M w d/\zG M w' d'/\d6 d d'=true/\Q (.d (.bool (PyData.eqv d d'))) M
def lM(w w':W)(M:MH)(Q:QD):Prop:=∃ d d',zG M w d/\zG M w' d'/\d6 d d'=true/\Q (.d (.bool (!PyData.eqv d d'))) M
theorem gL:OpD K (λ x y H Q=>∃ d d',oO K H d x/\oO K H d' y/\d6 d d'=true/\Q (.bl (PyData.eqv d d')) H) oV:=by intro x y H w w' M Qd Q r1 r2 m ⟨d,d',g1,g2,o1,q⟩ k;exact⟨d,d',g1.sound r1 m,g2.sound r2 m,o1,k _ H (.d (.bool _)) M (Kp.refl H) (by simp[aE,aA]) m q⟩
theorem fq:OpD K (λ x y H Q=>∃ d d',oO K H d x/\oO K H d' y/\d6 d d'=true/\Q (.bl (!PyData.eqv d d')) H) lM:=by intro x y H w w' M Qd Q r1 r2 m ⟨d,d',g1,g2,o1,q⟩ k;exact⟨d,d',g1.sound r1 m,g2.sound r2 m,o1,k _ H (.d (.bool _)) M (Kp.refl H) (by simp[aE,aA]) m q⟩
inductive acJ(M:MH):W->List W->Prop
 | l {ds:List PyData}:acJ M (.d (.list ds)) (ds.map W.d)
 | t {ds:List PyData}:acJ M (.d (.tuple ds)) (ds.map W.d)
 | m {a:Addr} {ws:List W} (h:M a=some (.lst ws)):acJ M (.m a) ws
theorem acJ.sound(g:acJ M w ws)(r:aE K H w x)(m:cq K H M):∃ p ys,x=.ref p/\(SqL K H p ys\/SqT K H p ys)/\aQ K H ws ys:=by
 cases g with
 | l =>
  simp only[aE,aA] at r;obtain⟨a,vs,e,hs,ra⟩:=r;exact⟨a,vs,e,.inl hs.sq,ra.ws⟩
 | t =>
  simp only[aE,aA] at r;obtain⟨a,vs,e,hs,ra⟩:=r;exact⟨a,vs,e,.inr hs,ra.ws⟩
 | m h =>
  obtain⟨vs,e,ra⟩:=m _ _ h;exact⟨_,vs,r,.inl (.inl (.inl e)),ra⟩
def ib(ws:List W)(M:MH)(Q:QD):Prop:=∃ w xs,ws=[w]/\acJ M w xs/\∀ p,M p=none->Q (.m p) (bf M p (.lst xs))
theorem ir:fT K (λ xs H Q=>∃ p ys,xs=[.ref p]/\(SqL K H p ys\/SqT K H p ys)/\∀ l,H l=none->Q (.ref l) (upd H l (.lst ys))) ib:=by intro vs H ws M Qd Q r m ⟨w,xs,e,g,q⟩ k;subst e;obtain⟨v,e1,r1⟩:=e9 r;obtain⟨p,ys,ev,hs,rs⟩:=g.sound r1 m;subst ev;refine⟨p,ys,e1,hs,λ l hl=>?_⟩;have kp:Kp H (upd H l (.lst ys)):=Kp.new hl;exact k _ _ (.m l) _ kp rfl (m.put (mo:=.lst xs) kp ⟨ys,au,rs.keep kp⟩) (q l (m.free hl))
def dG(zs:List Str):List W:=zs.map λ z=>.d (.str z)
theorem tI:∀ {zs:List Str} {vs:List V},aQ K H (dG zs) vs->vs=zs.map V.str
 | [],_,h=>by cases h;rfl
 | z::zs,_,h=>by
  cases h with
  | cons r t =>
   simp only[aE,aA] at r;rw[r,tI t];rfl
theorem yp(z:Str):∀ zs:List Str,inV (.str z) (zs.map V.str)=decide (z∈zs)
 | []=>rfl
 | y::zs=>by
  have h:inV (.str z) ((y::zs).map V.str)=((y==z) || inV (.str z) (zs.map V.str)):=rfl;rw[h,yp z zs]
  by_cases e:z=y
  ·subst e;simp
  ·have e':(y==z)=false:=by
    cases q:(y==z) with
    | false=>rfl
    | true=>exact absurd (eq_of_beq q).symm e
   rw[e'];simp[e]
theorem vT:∀ zs:List Str,(zs.map V.str).all lL=true
 | []=>rfl
 | _::zs=>by simp[lL]
def acQ(neg:Bool)(w w':W)(M:MH)(Q:QD):Prop:=∃ z zs,w=.d (.str z)/\acJ M w' (dG zs)/\Q (.d (.bool (if neg then !decide (z∈zs) else decide (z∈zs)))) M
theorem zb(neg:Bool):OpD K (rIn K neg) (acQ neg):=by intro x y H w w' M Qd Q r1 r2 m ⟨z,zs,ew,g,q⟩ k;subst ew;simp only[aE,aA] at r1;subst r1;obtain⟨p,ys,ey,hs,rs⟩:=g.sound r2 m;have e:=tI rs;subst e;refine⟨p,_,ey,hs,rfl,vT zs,?_⟩;rw[yp];exact k _ H (.d (.bool _)) M (Kp.refl H) (by simp[aE,aA]) m q
inductive vf(M:MH):W->Bool->Prop
 | n:vf M (.d .none) false
 | b {k:Bool}:vf M (.d (.bool k)) k
 | i {k:Int}:vf M (.d (.int k)) (k != 0)
 | s {z:Str} (h:z.length<=sizeLine):vf M (.d (.str z)) ((z.length:Int) != 0)
 | l {ds:List PyData}:vf M (.d (.list ds)) (!ds.isEmpty)
 | t {ds:List PyData}:vf M (.d (.tuple ds)) (!ds.isEmpty)
 | m {a:Addr} {ws:List W} (h:M a=some (.lst ws)):vf M (.m a) (!ws.isEmpty)
 | dk {a:Addr} {kvs:List (Key×W)} (h:M a=some (.dic kvs)):vf M (.m a) (!kvs.isEmpty)
theorem iI{α β:Type}{xs:List α}{ys:List β}(h:xs.length=ys.length):xs.isEmpty=ys.isEmpty:=by
 cases xs<;>cases ys<;>simp at h ⊢
theorem vf.sound{b:Bool}(g:vf M w b)(r:aE K H w x)(m:cq K H M):ag0 K x H b:=by
 cases g with
 | n=>simp only[aE,aA] at r;subst r;rfl
 | b=>simp only[aE,aA] at r;subst r;rfl
 | i=>simp only[aE,aA] at r;subst r;rfl
 | s h=>simp only[aE,aA] at r;subst r;exact⟨h,rfl⟩
 | l =>
  simp only[aE,aA] at r;obtain⟨a,vs,e,hs,ra⟩:=r;subst e;exact .inl ⟨vs,hs.sq,by rw[iI ra.length]⟩
 | t =>
  simp only[aE,aA] at r;obtain⟨a,vs,e,hs,ra⟩:=r;subst e;exact .inr (.inl ⟨vs,hs,by rw[iI ra.length]⟩)
 | m h =>
  obtain⟨vs,e,ra⟩:=m _ _ h;have r':x=.ref _:=r;subst r';exact .inl ⟨vs,.inl (.inl e),by rw[iI ra.length]⟩
 | dk h =>
  obtain⟨l,e,pr⟩:=m _ _ h;have r':x=.ref _:=r;subst r';exact .inr (.inr ⟨l,e,by rw[iI (sN pr)]⟩)
def agS(ta:TD)(τ:DS)(M:MH)(Q:Bool->MH->Prop):Prop:=ta τ M λ w M1=>∃ b,vf M1 w b/\Q b M1
theorem vG(ha:PD X a ta)(he:∀ whole:Sem Value,PySem.isTrue a X.env whole=(do let v <- whole;standAt a.pos;holding [v] (truthy v)):=by intro _;rfl):PTd X a (agS ta):=
 ad7 (aaw ha he) λ σ H Q h=>by obtain⟨τ,M,Qd,A,h,k⟩:=h;exact⟨τ,M,_,A,h,λ v H' w M' kp r m ⟨b,g,q⟩=>⟨b,g.sound r m,k b H' M' kp m q⟩⟩
def abp(ws:List W)(M:MH)(Q:QD):Prop:=∃ i j,ws=[.d (.int i),.d (.int j)]/\Q (.d (.int (if j > i then j else i))) M
theorem acu:fT K (λ xs H Q=>∃ i j,xs=[V.int i,V.int j]/\Q (V.int (if j > i then j else i)) H) abp:=by intro vs H ws M Qd Q r m ⟨i,j,e,q⟩ k;subst e;obtain⟨v,v',e1,r1,r2⟩:=sD r;simp only[aE,aA] at r1 r2;subst r1 r2;exact⟨i,j,e1,k _ H (.d (.int _)) M (Kp.refl H) (by simp[aE,aA]) m q⟩
end
theorem n6:∀ {ns:List Int} {its:List Value},Vals (ns.map V.int) its->∃ xs:List (Int×Tok),its=xs.map (λ p=>Value.int p.1 p.2)/\xs.map (·.1)=ns
 | [],its,h=>by cases h;exact⟨[],rfl,rfl⟩
 | n::ns,its,h=>by
  cases h with
  | cons r t =>
   obtain⟨tk,e⟩:=(show ∃ t,_=Value.int n t from r);obtain⟨xs,e1,e2⟩:=n6 t;exact⟨(n,tk)::xs,by rw[e,e1];rfl,by rw[List.map_cons,e2]⟩
section
variable {X:Cx}{K:FG}
def agB(K:FG):R2:=λ x y H Q=>∃ l b xs zs,x=.ref l/\y=.ref b/\SqL K H l xs/\SqL K H b zs/\xs.length+zs.length<=sizeLine/\∀ p,H p=none->Q (.ref p) (upd H p (.lst (xs++zs)))
theorem rQ:OpR X (binaryOp .Add) (agB X.K):=by
 intro pins s σ H x y v u Q I rx ry h;obtain⟨l,b,xs,zs,rfl,rfl,h1,h2,hz,q⟩:=h;cases rx;cases ry;obtain⟨its,r1,p1,_⟩:=I.list h1;obtain⟨its2,r2,p2,_⟩:=I.list h2;have t1:=p1.isList.typeIs (s:=s);have t2:=p2.isList.typeIs (s:=s);obtain⟨⟨oc,od,odt,osl⟩,n,e1,c1,d1,g1⟩:=p1;obtain⟨⟨oc2,od2,odt2,osl2⟩,n2,e2,c2,d2,g2⟩:=p2;dsimp only at c1 d1 g1 c2 d2 g2;subst c1 d1 g1 c2 d2 g2;have hl1:=r1.length;have hl2:=r2.length;refine wpAny_binaryOp_concat (T:= "list") t1 t2 noFill_list_add seq_list_add ?_;refine call_meets PySem.F.slot_list_add t1 PySem.F.entry_list_add (PySem.F.args_list_add_2 _ _) (list_addW l b its.toArray its2.toArray n n2 none none osl osl2 (by simp only[List.size_toArray];omega)) ⟨e1,e2,?_⟩;have ea:its.toArray++its2.toArray=(its++its2).toArray:=by simp
 rw[ea];exact⟨.ref _,_,I.aiw (t':=s.toks) (r1.append r2) (by rw[List.length_append];omega),rfl,q _ I.fresh⟩
inductive abr(M:MH):W->List PyData->Prop
 | d {ds:List PyData}:abr M (.d (.list ds)) ds
 | m {a:Addr} {ds:List PyData} (h:M a=some (.lst (ds.map W.d))):abr M (.m a) ds
theorem abr.sound(g:abr M w ds)(r:aE K H w x)(m:cq K H M):∃ p ys,x=.ref p/\SqL K H p ys/\a9 K H ds ys:=by
 cases g with
 | d =>
  simp only[aE,aA] at r;obtain⟨a,vs,e,hs,ra⟩:=r;exact⟨a,vs,e,hs.sq,ra⟩
 | m h =>
  obtain⟨vs,e,ra⟩:=m _ _ h;exact⟨_,vs,r,.inl (.inl e),ra.data⟩
def ad9(ta tb:TD)(τ:DS)(M:MH)(Q:QD):Prop:=ta τ M λ w M1=>tb τ M1 λ w' M2=>∃ xs ys,abr M2 w xs/\abr M2 w' ys/\xs.length+ys.length<=sizeLine/\Q (.d (.list (xs++ys))) M2
theorem ae6(ha:PD X a ta)(hb:PD X b tb):PD X (.BinOp a .Add b pos) (ad9 ta tb):=ft (p5 (aet rQ ha hb)) λ σ H Q h=>by obtain⟨τ,M,Qd,A,h,k⟩:=h;refine⟨τ,M,_,A,h,λ x H1 w M1 kp1 r1 m1 q1=>⟨τ,M1,_,A.go kp1 m1,q1,λ y H2 w' M2 kp2 r2 m2 hq70=>?_⟩⟩;obtain⟨xs,ys,g1,g2,hz,q⟩:=hq70;obtain⟨p,vs,e1,s1,ra1⟩:=g1.sound (r1.keep kp2) m2;obtain⟨p',vs',e2,s2,ra2⟩:=g2.sound r2 m2;refine⟨p,p',vs,vs',e1,e2,s1,s2,by rw[ra1.length,ra2.length];exact hz,λ c hc=>?_⟩;exact jX hc (ra1.append ra2) m2 q (kgo (kgo k kp1) kp2)
theorem qi:∀ {ns:List Int} {vs:List V},a9 K H (ns.map PyData.int) vs->vs=ns.map V.int
 | [],vs,h=>by simpa [a9] using h
 | n::ns,vs,h=>by simp only[List.map_cons,a9] at h;obtain⟨v,r,e,h1,h2⟩:=h;simp only[aA] at h1;rw[e,h1,qi h2];rfl
end
abbrev ag1:=List W->DS->MH->(DS->MH->Prop)->Prop
def aju(K:FG)(g:ag1):TGs:=λ vs σ H Q=>∃ ws τ M Qd,aQ K H ws vs/\Abs K H σ τ M/\g ws τ M Qd/\∀ σ' H' τ' M',Kp H H'->Abs K H' σ' τ' M'->Qd τ' M'->Q σ' H'
abbrev acs(X:Cx)(es:List Expr)(g:ag1):Prop:=PGs X es (aju X.K g)
theorem ae7(h:PGs X es g)(k:∀ v σ H Q,g' v σ H Q->g v σ H Q):PGs X es g':=λ pins s σ H v u Q I r q=>h pins s σ H v u Q I r (k v σ H Q q)
def jl(ws:List W)(τ:DS)(M:MH)(Q:DS->MH->Prop):Prop:=ws=[]/\Q τ M
def cm(g:TGd)(gs:ag1)(ws:List W)(τ:DS)(M:MH)(Q:DS->MH->Prop):Prop:=∃ w r,ws=w::r/\g w τ M λ τ' M'=>gs r τ' M' Q
theorem vH(h1:PGd X e g)(h2:acs X es gs)(hs:(assignEach (e::es) X.env).map (·.2)=assign e X.env::(assignEach es X.env).map (·.2):=by rfl):acs X (e::es) (cm g gs):=
 ae7 (aap h1 h2 hs) λ vs σ H Q hq72=>by
  obtain⟨ws,τ,M,Qd,r,A,⟨w,wr,ew,q⟩,k⟩:=hq72;subst ew;cases r with
  | cons r1 r2 =>
   refine⟨_,_,rfl,w,τ,M,_,r1,A,q,λ σ1 H1 τ1 M1 kp1 A1 q1=>?_⟩;exact⟨wr,τ1,M1,Qd,aQ.keep kp1 r2,A1,q1,λ σ2 H2 τ2 M2 kp2 A2 q2=>k σ2 H2 τ2 M2 (kp1.trans kp2) A2 q2⟩
def gT(n:Nat)(gs:ag1)(w:W)(τ:DS)(M:MH)(Q:DS->MH->Prop):Prop:=∃ ds,w=.d (.tuple ds)/\ds.length=n/\gs (ds.map W.d) τ M Q
theorem acA(hc:X.calm=true)(h:acs X es gs)(hn:(assignEach es X.env).length=n:=by rfl)(hst:(assignEach es X.env).findIdx? (·.1)=none:=by rfl):PGd X (.Tuple es k pos) (gT n gs):=
 ahi (aeG hc h hn hst) λ v σ H Q hq73=>by obtain⟨w,τ,M,Qd,r,A,⟨ds,ew,hl,q⟩,kk⟩:=hq73;subst ew;simp only[aE,aA] at r;obtain⟨a,vs,ev,hs,ra⟩:=r;exact⟨a,vs,ev,hs,by rw[ra.length];exact hl,ds.map W.d,τ,M,Qd,ra.ws,A,q,kk⟩
structure Mf(K:FG)(C:Addr)(x qual:Str)(st:Stmt)(ps:List Str)(f:Addr)(fd:FuncData):Prop where
 fn:Fun K x qual st f fd
 me:Meth K C x f
 bd:Binds K fd ps []
section
variable {K:FG}{C:Addr}
theorem zP{x qual:Str}{st:Stmt}{ps:List Str}{oc:Value}{od an:Option Addr}{osl:Array (Option Value)}{kV doc pm cdv ct:Value}(a:W.findIn K (.ref C) x=some (some (.ref f)))(i:W.isFn K (.ref f)=true)
  (l:K.lookup f=some ⟨oc,od,.func (W.fnOf x qual (aN st) (aG st) (ai st) .none kV doc pm an cdv ct),osl⟩)(c:W.codeIn K cdv qual=true)(k:W.keepIn K (.ref f)=true)
  (b:∀ (kV doc pm:Value) (an:Option Addr) (cdv ct:Value) (us:List Value),us.length=ps.length->bindArgs (W.fnOf x qual (aN st) (aG st) (ai st) .none kV doc pm an cdv ct) ⟨us,[]⟩=pure (ps.zip us)) :
  Mf K C x qual st ps f (W.fnOf x qual (aN st) (aG st) (ai st) .none kV doc pm an cdv ct):=
 have F:=wZ (st:=st) l c k
 ⟨F,⟨a,i,k⟩,F.binds b⟩
end
theorem pcT(hc:eP X (.type T) r)(hd:fT X.K r rd)(hg:Gl X x)(hm:X.mg x=none)(hv:bootBuiltins x=some (.type T))(ha:PAd X (e::es) t)(hn:x ≠ "__name__":= by decide)(hdb:ND x:=by decide)
  (h1:eh e=false:=by rfl)(h2:(es.all λ e=>!eh e)=true:=by rfl):PD X (.Call (.Name x p) (e::es) [] pos) (dCB rd t):=xv hc hd hg hm hv ha hn hdb (bN e es X.env h1) (cI pos X.env es h2)
theorem aeZ:bootBuiltins "max" = some (.builtin "max"):=by decide +kernel
theorem uF  : Jd (PD X (.Dict [] [] pos) yw):=⟨ft sS λ σ H Q ⟨τ,M,Qd,A,h,k⟩ p hp =>
 k (.ref p) _ (.m p) (bf M p (.dic [])) (Kp.new hp) rfl (A.mem.put (mo:=.dic []) (Kp.new hp) ⟨[],au,.nil⟩) (h p (A.mem.free hp))⟩
theorem qD(hu:X.A.units+1<cLine)(hi:Jd (PD X i ti))(ho:Jd (PD X o td))(hm:behindInMarks .NotIn o=false:=by rfl):Jd (PTd X (.Compare i [.NotIn] [o] pos) (aW (m8 ti td))):=⟨D.uO (hu:=hu) (hi:=hi.h) (ho:=ho.h) (hm:=hm)⟩
theorem ju(hu:X.A.units+1<cLine)(ho:Jd (PD X o td))(hi:Jd (PD X i ti))(hs:agT i:=by exact λ _ _=>rfl):Jd (PD X (.Subscript o i pos) (uG td ti)):=⟨D.abK (hu:=hu) (ho:=ho.h) (hi:=hi.h) (hs:=hs)⟩
theorem zN(hu:X.A.units+1<cLine)(ho:Jd (PD X o td))(he:Jd (PD X e ti))(hf:Jd (PD X f tx))(m:M2 X o "get" apos e f cpos:=by exact⟨rfl,rfl,rfl,rfl⟩):Jd (PD X (.Call (.Attribute o "get" apos) [e,f] [] cpos) (acm td ti tx)):=⟨D.aca (hu:=hu) (ho:=ho.h) (he:=he.h) (hf:=hf.h) (m:=m)⟩
theorem cQ(c:Cls X.K C)(n:cJ X.K C fn)(he:Jd (PD X e td))(hb:attributeBase e fn X.env (eval e X.env)=eval e X.env:=by rfl):Jd (PD X (.Attribute e fn pos) (pR C td fn)):=⟨D.ae5 (c:=c) (n:=n) (he:=he.h) (hb:=hb)⟩
theorem eG(c:Cls X.K C)(n:cJ X.K C fn)(ha:Jd (PD X o td))(hv:Jd (PD X value tv))(hs:swapsWith value (some (.Attribute o fn pos')) pos.line X.env=pure false:=by rfl):Jd (PSd X (.Assign [.Attribute o fn pos'] value pos) (eQ C td tv fn)):=⟨D.acL (c:=c) (n:=n) (ha:=ha.h) (hv:=hv.h) (hs:=hs)⟩
theorem oF(he:Jd (PD X o td))(c:Cls X.K C)(hm:Meth X.K C m f)(F:bW X.prog X.w X.K X.mg X.base CX0 k f fd ps (ef X.K sp))(hr:cY k X.A)(hb:Binds X.K fd ps [])(ha:Jd (PAd X (e::es) t))(ht:eval (.Call (.Attribute o m apos) (e::es) [] pos) X.env=(do
   let ov <- eval o X.env
   standAt apos.atName
   let (f,first) <- holding [ov] (getMethod ov m pl)
   callWith pos f first (backTo pos (starEach (e::es) X.env)) (backToKw pos (keywordEach [] X.env))):=by rfl)(h1:eh e=false:=by rfl)(h2:(es.all λ e=>!eh e)=true:=by rfl):Jd (PD X (.Call (.Attribute o m apos) (e::es) [] pos) (fm C m sp td t)):=⟨D.acj (he:=he.h) (c:=c) (hm:=hm) (F:=F) (hr:=hr) (hb:=hb) (ha:=ha.h) (ht:=ht) (h1:=h1) (h2:=h2)⟩
theorem cn(he:Jd (PD X o td))(c:Cls X.K C)(hm:Meth X.K C m f)(F:bW X.prog X.w X.K X.mg X.base CX0 k f fd ps (ef X.K sp))(hr:cY k X.A)(hb:Binds X.K fd ps [])(ht:eval (.Call (.Attribute o m apos) [] [] pos) X.env=(do
   let ov <- eval o X.env
   standAt apos.atName
   let (f,first) <- holding [ov] (getMethod ov m pl)
   callWith pos f first (backTo pos (starEach [] X.env)) (backToKw pos (keywordEach [] X.env))):=by rfl):Jd (PD X (.Call (.Attribute o m apos) [] [] pos) (fm C m sp td aI)):=⟨D.yK (he:=he.h) (c:=c) (hm:=hm) (F:=F) (hr:=hr) (hb:=hb) (ht:=ht)⟩
theorem gf(h:Jd (PD X e td)):Jd (PD X e (qo td)):=⟨D.acX (h:=h.h)⟩
theorem gh(ho:Jd (PD X o td))(he:Jd (PD X e te))(hbase:attributeBase o "append" X.env (eval o X.env)=eval o X.env:=by rfl)(hfew:((backTo cpos (starEach [e] X.env)).all (λ x=>!x.1)&&(backToKw cpos (keywordEach [] X.env)).all (λ x=>x.1.isSome)
   && decide (([e]:List Expr).length+([]:List Keyword).length+(if ([]:List Keyword).isEmpty then 0 else 1)<30))=true:=by rfl)(hline:(apos.endLine==cpos.line)=true:=by rfl)(hs:eh e=false:=by rfl):Jd (PD X (.Call (.Attribute o "append" apos) [e] [] cpos) (iP td te)):=⟨D.yh (ho:=ho.h) (he:=he.h) (hbase:=hbase) (hfew:=hfew) (hline:=hline) (hs:=hs)⟩
theorem lW(ha:Jd (PD X a ta))(he:∀ whole:Sem Value,PySem.isTrue a X.env whole=(do let v <- whole;standAt a.pos;holding [v] (truthy v)):=by intro _;rfl):Jd (PTd X a (agS ta)):=⟨D.vG (ha:=ha.h) (he:=he)⟩
theorem om(ha:Jd (PD X a ta))(hb:Jd (PD X b tb)):Jd (PD X (.BinOp a .Add b pos) (ad9 ta tb)):=⟨D.ae6 (ha:=ha.h) (hb:=hb.h)⟩
theorem cw  : Jd (acs X [] jl):=⟨ae7 acN λ vs σ H Q hq71=>by obtain⟨ws,τ,M,Qd,r,A,⟨e,q⟩,k⟩:=hq71;subst e;cases r;exact⟨rfl,k σ H τ M (Kp.refl H) A q⟩⟩
theorem aL(h1:Jd (PGd X e g))(h2:Jd (acs X es gs))(hs:(assignEach (e::es) X.env).map (·.2)=assign e X.env::(assignEach es X.env).map (·.2):=by rfl):Jd (acs X (e::es) (cm g gs)):=⟨D.vH (h1:=h1.h) (h2:=h2.h) (hs:=hs)⟩
theorem dg(hc:X.calm=true)(h:Jd (acs X es gs))(hn:(assignEach es X.env).length=n:=by rfl)(hst:(assignEach es X.env).findIdx? (·.1)=none:=by rfl):Jd (PGd X (.Tuple es k pos) (gT n gs)):=⟨D.acA (hc:=hc) (h:=h.h) (hn:=hn) (hst:=hst)⟩
theorem ad1(hc:eP X (.type T) r)(hd:fT X.K r rd)(hg:Gl X x)(hm:X.mg x=none)(hv:bootBuiltins x=some (.type T))(ha:Jd (PAd X (e::es) t))(hn:x ≠ "__name__":= by decide)(hdb:ND x:=by decide)(h1:eh e=false:=by rfl)(h2:(es.all λ e=>!eh e)=true:=by rfl):Jd (PD X (.Call (.Name x p) (e::es) [] pos) (dCB rd t)):=⟨D.pcT (hc:=hc) (hd:=hd) (hg:=hg) (hm:=hm) (hv:=hv) (ha:=ha.h) (hn:=hn) (hdb:=hdb) (h1:=h1) (h2:=h2)⟩
@[simp] theorem afP (i j:Int):d6 (.int i) (.int j)=true:=rfl
@[simp] theorem agf (x y:Str):d6 (.str x) (.str y)=true:=rfl
@[simp] theorem ad3 (x y:Bool):d6 (.bool x) (.bool y)=true:=rfl
@[simp] theorem ahG (i j:Int):PyData.eqv (.int i) (.int j)=(i==j):=by rw[PyData.eqv]
@[simp] theorem aic (i j:Str):PyData.eqv (.str i) (.str j)=(i==j):=by rw[PyData.eqv]
@[simp] theorem aim (a:Addr):yG (.m a)=true:=rfl
@[simp] theorem afO (ds:List PyData):yG (.d (.list ds))=true:=rfl
@[simp] theorem ad2 (ds:List PyData):yG (.d (.tuple ds))=true:=rfl
@[simp] theorem agZ (n:Nat):ixN (n+1) 0=some 0:=by unfold ixN;simp
theorem aaS{α:Type}{xs:List α}{i:Int}(h0:0<=i)(h1:i<xs.length):atI xs i=some (xs[i.toNat]'(by omega)):=by
 unfold atI ixN;rw[if_pos h0,if_pos h1];simp
inductive Bag(M:MH) (p:Addr):Prop
 | mk (a b c:Int) (ns:List Int) (e:M p=some (.lst [.d (.int a),.d (.int b),.d (.int c),.d (.list (ns.map PyData.int))])) (z:0<=a/\0<=b/\b<2147483647/\0<=c/\(∀ n∈ns,0<=n)):Bag M p
def eF:SpD:=λ ws M Q=>∃ ns:List Int,ws=[.d (.list (ns.map PyData.int))]/\ns.length<=1000/\∀ p M',M p=none->(∀ q,q≠p->M' q=M q)->Bag M' p->Q (.m p) M'
inductive oX(ws:List W) (M:MH) (Q:QD):Prop
 | mk (p:Addr) (n:Int) (z0:ws=[.m p,.d (.int n)]) (z1:Bag M p) (z2:0<n) (z3:n<1073741824) (z4:∀ (r:Int) M',0<=r->r<n->Bag M' p->(∀ q,q≠p->M' q=M q)->Q (.d (.int r)) M'):oX ws M Q
def ay:SpD:=oX
theorem wN:∀ ws M Q,eF ws M Q->ws.length=1:=by rintro ws M Q ⟨ns,rfl,_⟩;rfl
theorem ur:∀ ws M Q,ay ws M Q->ws.length=2:=by rintro ws M Q ⟨p,n,rfl,_⟩;rfl
theorem vP{n:Nat}{i:Int}(h0:0<=i)(h1:i<n):ixN n i=some i.toNat:=by unfold ixN;rw[if_pos h0,if_pos h1]
theorem zy(hm:M p=some (.lst ws))(h:atI ws i=some x):ixW M (.m p) i=some x:=by simp only[ixW,hm];exact h
theorem ia{c:Bool}{A B:Prop}(h1:c=true->A)(h2:c=false->B):if c=true then A else B:=by
 cases c with
 | true=>rw[if_pos rfl];exact h1 rfl
 | false=>rw[if_neg Bool.false_ne_true];exact h2 rfl
abbrev xP:List Str:=["_law_script"]
def v8:TSd:=
  eA (oz (ah (dC (.d (.int 0))) (ah (dC (.d (.int 1234567891))) (ah (dC (.d (.int 0))) (ah (dLC (dh (dSl (ar 0) (dv) (hV (dC (.d (.int 63)))))) (gN 0) (oJ) (dCB agE (ah (ar 0) (aI))) 1 []) (aI))))))
abbrev su:List Str:=["_law_bag_here", "_law_many", "_law_cell", "_law_value", "_law_first", "_law_second"]
def sx:TSd:=
  bz (dIf (aW (dOp aix (dOp dS (ar 0) (dC (.d (.int 0)))) (dC (.d (.int 0)))))
   (bz (cf (dC (.d (.int 0))) (gN 2)) <|
   bz (dIf (aW (dOp aiQ (dOp dS (ar 0) (dC (.d (.int 2)))) (dCB iX (ah (dOp dS (ar 0) (dC (.d (.int 3)))) (aI)))))
    (cf (dOp dS (dOp dS (ar 0) (dC (.d (.int 3)))) (dOp dS (ar 0) (dC (.d (.int 2))))) (gN 2))
    (dn)) <|
   bz (zR (ar 0) (dC (.d (.int 2))) (dC (.d (.int 1))) (λ i j=>i+j)) <|
   bz (dIf (aW (dOp aga (ar 2) (dC (.d (.int 1000000000000000000)))))
    (cf (ar 2) (zg (ar 0) (dC (.d (.int 0)))))
    (dn)) <|
   cf (dOp eB (dOp d0 (dOp d0 (dOp fJ (dOp dS (ar 0) (dC (.d (.int 1)))) (dC (.d (.int 48271)))) (dOp eB (ar 2) (dC (.d (.int 2147483647))))) (dOp fJ (dC (.d (.int 7919))) (dOp dS (ar 0) (dC (.d (.int 2)))))) (dC (.d (.int 2147483647)))) (zg (ar 0) (dC (.d (.int 1)))))
   (dn)) <|
  bz (dIf (aW (dOp yF (dOp dS (ar 0) (dC (.d (.int 0)))) (dC (.d (.int 0)))))
   (bz (cf (dOp eB (dOp dS (ar 0) (dC (.d (.int 0)))) (ar 1)) (gN 3)) <|
   bz (cf (dOp sj (dOp dS (ar 0) (dC (.d (.int 0)))) (ar 1)) (zg (ar 0) (dC (.d (.int 0))))) <|
   eA (ar 3))
   (dn)) <|
  bz (cf (dOp eB (dOp fJ (dOp d0 (dOp dS (ar 0) (dC (.d (.int 1)))) (dC (.d (.int 1)))) (dC (.d (.int 39373)))) (dC (.d (.int 1000000007)))) (gN 4)) <|
  bz (cf (dOp eB (dOp fJ (dOp eB (dOp fJ (ar 4) (ar 4)) (dC (.d (.int 998244353)))) (dC (.d (.int 30011)))) (dC (.d (.int 998244353)))) (gN 5)) <|
  bz (dIf (aW (dOp yF (ar 1) (dC (.d (.int 1000000)))))
   (eA (dOp eB (dOp d0 (dOp fJ (ar 5) (dC (.d (.int 1000000007)))) (ar 4)) (ar 1)))
   (dn)) <|
  eA (dOp eB (dOp sj (ar 5) (dC (.d (.int 7)))) (ar 1))
abbrev yW(a b c:Int)(ns:List Int):List W:=[.d (.int a),.d (.int b),.d (.int c),.d (.list (ns.map PyData.int))]
theorem iQ(hm:M p=some (.lst (yW a b c ns)))(ha:0<=a)(hb:0<=b)(hb2:b<2147483647)(hc:0<=c)(hns:∀ n∈ns,0<=n)(hn:0<n)(hn2:n<1073741824)
  (k:∀ (r:Int) M',0<=r->r<n->Bag M' p->(∀ q,q≠p->M' q=M q)->Q (.d (.int r)) M')(hD:D.rt=Q) :
  (bz (dIf (aW (dOp yF (dOp dS (ar 0) (dC (.d (.int 0)))) (dC (.d (.int 0)))))
   (bz (cf (dOp eB (dOp dS (ar 0) (dC (.d (.int 0)))) (ar 1)) (gN 3)) <|
   bz (cf (dOp sj (dOp dS (ar 0) (dC (.d (.int 0)))) (ar 1)) (zg (ar 0) (dC (.d (.int 0))))) <|
   eA (ar 3))
   (dn)) <|
  bz (cf (dOp eB (dOp fJ (dOp d0 (dOp dS (ar 0) (dC (.d (.int 1)))) (dC (.d (.int 1)))) (dC (.d (.int 39373)))) (dC (.d (.int 1000000007)))) (gN 4)) <|
  bz (cf (dOp eB (dOp fJ (dOp eB (dOp fJ (ar 4) (ar 4)) (dC (.d (.int 998244353)))) (dC (.d (.int 30011)))) (dC (.d (.int 998244353)))) (gN 5)) <|
  bz (dIf (aW (dOp yF (ar 1) (dC (.d (.int 1000000)))))
   (eA (dOp eB (dOp d0 (dOp fJ (ar 5) (dC (.d (.int 1000000007)))) (ar 4)) (ar 1)))
   (dn)) <|
  eA (dOp eB (dOp sj (ar 5) (dC (.d (.int 7)))) (ar 1))) D [some (.m p),some (.d (.int n)),x,none,none,none] M:=by
 subst hD;have i0:ixW M (.m p) 0=some (.d (.int a)):=zy hm rfl;have i1:ixW M (.m p) 1=some (.d (.int b)):=zy hm rfl;have same:Bag M p:=⟨a,b,c,ns,hm,ha,hb,hb2,hc,hns⟩;refine⟨_,rfl,_,_,rfl,i0,rfl,_,_,rfl,rfl,_,rfl,?_⟩;refine ia (λ h=>?_) (λ h=>?_)
 ·have h0:0<a:=of_decide_eq_true h;refine⟨_,rfl,_,_,rfl,i0,rfl,_,rfl,_,_,rfl,rfl,hn,?_⟩;refine⟨_,rfl,_,_,rfl,i0,rfl,_,rfl,_,_,rfl,rfl,⟨hn,hn2⟩,?_⟩;refine⟨_,rfl,_,_,_,_,rfl,rfl,hm,rfl,?_⟩;refine⟨_,rfl,?_⟩;refine k _ _ (Int.emod_nonneg _ (by omega)) (Int.emod_lt_of_pos _ hn) ⟨a / n,b,c,ns,ag,Int.ediv_nonneg ha (by omega),hb,hb2,hc,hns⟩ λ q hq=>aj hq
 ·refine⟨_,rfl,_,_,rfl,i1,rfl,.inl ?_⟩;refine⟨_,_,rfl,rfl,_,_,rfl,rfl,.inl ⟨by omega,by omega⟩,_,_,rfl,rfl,(by decide:(0:Int)<1000000007),?_⟩;have f0:0<=(b+1) * 39373 % 1000000007:=Int.emod_nonneg _ (by decide);have f1:(b+1) * 39373 % 1000000007<1000000007:=Int.emod_lt_of_pos _ (by decide);refine⟨_,rfl,_,rfl,_,_,rfl,rfl,.inl ⟨by omega,by omega⟩,_,_,rfl,rfl,(by decide:(0:Int)<998244353),?_⟩;have g0:0<=(b+1) * 39373 % 1000000007 * ((b+1) * 39373 % 1000000007) % 998244353:=Int.emod_nonneg _ (by decide);have g1:(b+1) * 39373 % 1000000007 * ((b+1) * 39373 % 1000000007) % 998244353<998244353:=Int.emod_lt_of_pos _ (by decide);refine⟨_,_,rfl,rfl,.inl ⟨by omega,by omega⟩,_,_,rfl,rfl,(by decide:(0:Int)<998244353),?_⟩;have e0:0<=(b+1) * 39373 % 1000000007 * ((b+1) * 39373 % 1000000007) % 998244353 * 30011 % 998244353:=Int.emod_nonneg _ (by decide);have e1:(b+1) * 39373 % 1000000007 * ((b+1) * 39373 % 1000000007) % 998244353 * 30011 % 998244353<998244353:=Int.emod_lt_of_pos _ (by decide);refine⟨_,rfl,_,_,rfl,rfl,_,rfl,?_⟩;refine ia (λ h=>?_) (λ h=>?_)
  ·refine⟨_,rfl,_,_,rfl,rfl,.inl ⟨by omega,by omega⟩,_,rfl,.inl ⟨_,_,rfl,rfl,_,rfl,_,_,rfl,rfl,hn,?_⟩⟩;exact k _ _ (Int.emod_nonneg _ (by omega)) (Int.emod_lt_of_pos _ hn) same λ q _=>rfl
  ·refine⟨_,rfl,_,_,rfl,rfl,⟨by decide,by decide⟩,_,rfl,_,_,rfl,rfl,hn,?_⟩;exact k _ _ (Int.emod_nonneg _ (by omega)) (Int.emod_lt_of_pos _ hn) same λ q _=>rfl
theorem mF(hm:M p=some (.lst (yW a b c ns)))(ha:0<=a)(hb:0<=b)(hb2:b<2147483647)(hc:0<=c)(hcell:0<=cell)
  (k:∀ a' b' c' M',0<=a'->0<=b'->b'<2147483647->0<=c'->M' p=some (.lst (yW a' b' c' ns))->(∀ q,q≠p->M' q=M q)->D.nx [some (.m p),some (.d (.int n)),some (.d (.int cell)),none,none,none] M') :
  (bz (zR (ar 0) (dC (.d (.int 2))) (dC (.d (.int 1))) (λ i j=>i+j)) <|
   bz (dIf (aW (dOp aga (ar 2) (dC (.d (.int 1000000000000000000)))))
    (cf (ar 2) (zg (ar 0) (dC (.d (.int 0)))))
    (dn)) <|
   cf (dOp eB (dOp d0 (dOp d0 (dOp fJ (dOp dS (ar 0) (dC (.d (.int 1)))) (dC (.d (.int 48271)))) (dOp eB (ar 2) (dC (.d (.int 2147483647))))) (dOp fJ (dC (.d (.int 7919))) (dOp dS (ar 0) (dC (.d (.int 2)))))) (dC (.d (.int 2147483647)))) (zg (ar 0) (dC (.d (.int 1)))))
   D [some (.m p),some (.d (.int n)),some (.d (.int cell)),none,none,none] M:=by
 refine⟨_,rfl,_,_,_,_,_,rfl,rfl,hm,rfl,rfl,_,rfl,rfl,?_⟩;have m1:bf M p (.lst (yW a b (c+1) ns)) p=some (.lst (yW a b (c+1) ns)):=ag;have f1:∀ q,q≠p->bf M p (.lst (yW a b (c+1) ns)) q=M q:=λ q hq=>aj hq;show(bz _ _) D _ (bf M p (.lst (yW a b (c+1) ns)));generalize bf M p (.lst (yW a b (c+1) ns))=M1 at m1 f1;have fin:∀ (a':Int) (M2:MH),0<=a'->M2 p=some (.lst (yW a' b (c+1) ns))->(∀ q,q≠p->M2 q=M q) ->
   cf (dOp eB (dOp d0 (dOp d0 (dOp fJ (dOp dS (ar 0) (dC (.d (.int 1)))) (dC (.d (.int 48271)))) (dOp eB (ar 2) (dC (.d (.int 2147483647))))) (dOp fJ (dC (.d (.int 7919))) (dOp dS (ar 0) (dC (.d (.int 2)))))) (dC (.d (.int 2147483647)))) (zg (ar 0) (dC (.d (.int 1)))) D [some (.m p),some (.d (.int n)),some (.d (.int cell)),none,none,none] M2:=by
  intro a' M2 ha' m2 f2;have i1:ixW M2 (.m p) 1=some (.d (.int b)):=zy m2 rfl;have i2:ixW M2 (.m p) 2=some (.d (.int (c+1))):=zy m2 rfl;refine⟨_,rfl,_,_,rfl,i1,rfl,_,_,rfl,rfl,.inl ⟨by omega,by omega⟩,_,rfl,_,_,rfl,rfl,(by decide:(0:Int)<2147483647),.inl ?_⟩;refine⟨_,_,rfl,rfl,_,rfl,_,_,rfl,i2,rfl,_,_,rfl,rfl,.inl ⟨by decide,by decide⟩,.inl ?_⟩;refine⟨_,_,rfl,rfl,_,_,rfl,rfl,(by decide:(0:Int)<2147483647),_,rfl,_,_,_,_,rfl,rfl,m2,rfl,?_⟩;exact k a' _ (c+1) _ ha' (Int.emod_nonneg _ (by decide)) (Int.emod_lt_of_pos _ (by decide)) (by omega) ag λ q hq=>(aj hq).trans (f2 q hq)
 refine⟨_,rfl,_,_,rfl,rfl,_,rfl,?_⟩;refine ia (λ h=>?_) (λ h=>?_)
 ·refine⟨_,rfl,_,rfl,_,_,_,_,rfl,rfl,m1,rfl,?_⟩;exact fin cell _ hcell ag λ q hq=>(aj hq).trans (f1 q hq)
 ·exact fin a M1 ha m1 f1
theorem si:∀ ws M Q,ay ws M Q->sx {nx:=λ _ M'=>Q (.d .none) M',rt:=Q} (bc su ws) M:=by
 rintro ws M Q ⟨p,n,rfl,⟨a,b,c,ns,hm,ha,hb,hb2,hc,hns⟩,hn,hn2,k⟩;have i0:ixW M (.m p) 0=some (.d (.int a)):=zy hm rfl;have i2:ixW M (.m p) 2=some (.d (.int c)):=zy hm rfl;have i3:ixW M (.m p) 3=some (.d (.list (ns.map PyData.int))):=zy hm rfl;refine⟨_,rfl,_,_,rfl,i0,rfl,_,_,rfl,rfl,rfl,_,rfl,?_⟩;refine ia (λ h=>?_) (λ h=>?_)
 ·refine⟨_,rfl,_,_,rfl,i2,rfl,_,rfl,_,_,rfl,i3,rfl,_,_,rfl,rfl,rfl,_,_,rfl,rfl,_,rfl,?_⟩;refine ia (λ h=>?_) (λ h=>?_)
  ·have hlt:c<((ns.map PyData.int).length:Nat):=of_decide_eq_true h;have hlt':c.toNat<ns.length:=by rw[List.length_map] at hlt;omega
   have ic:ixW M (.d (.list (ns.map PyData.int))) c=some (.d (.int (ns[c.toNat]'hlt'))):=by simp only[ixW];rw[aaS hc hlt];simp
   refine⟨_,rfl,_,_,rfl,i3,rfl,_,rfl,_,_,rfl,i2,rfl,_,_,rfl,ic,rfl,?_⟩;refine mF (cell:=ns[c.toNat]'hlt') hm ha hb hb2 hc (hns _ (List.getElem_mem _)) λ a' b' c' M' h1 h2 h3 h4 h5 h6=>?_;exact iQ (x:=some (.d (.int (ns[c.toNat]'hlt')))) h5 h1 h2 h3 h4 hns hn hn2 (λ r M'' r0 r1 bg fr=>k r M'' r0 r1 bg λ q hq=>(fr q hq).trans (h6 q hq)) rfl
  ·refine mF (cell:=0) hm ha hb hb2 hc (Int.le_refl 0) λ a' b' c' M' h1 h2 h3 h4 h5 h6=>?_;exact iQ (x:=some (.d (.int 0))) h5 h1 h2 h3 h4 hns hn hn2 (λ r M'' r0 r1 bg fr=>k r M'' r0 r1 bg λ q hq=>(fr q hq).trans (h6 q hq)) rfl
 ·exact iQ (x:=none) hm ha hb hb2 hc hns hn hn2 k rfl
theorem xZ{ws:List W}{i:Nat}(h:ws[i]? =some w):(ws.take (i+1)).filterMap f=(ws.take i).filterMap f++(f w).toList:=by rw[List.take_add_one,h,List.filterMap_append];cases e:f w<;>simp[e]
theorem yj{tt:TTd}{te:TD}{fr:List Nat}{τ:DS}{M:MH}{Q:List PyData->MH->Prop}{ws:List W}(f:W->Option PyData)(hl:ws.length<=sizeLine)
  (step:∀ w∈ws,∀ P':Option PyData->Prop,P' (f w)->tt (some w::fr.map λ j=>(τ[j]?).getD none) M λ b M3=>if b=true then te (some w::fr.map λ j=>(τ[j]?).getD none) M3 λ y M4=>∃ d,y=.d d/\M4=M/\P' (some d) else M3=M/\P' none)
  (q:Q (ws.filterMap f) M):∃ P:Nat->List PyData->DS->MH->Prop,P 0 [] (adj 1 fr τ) M /\
   (∀ i w acc τ M,ws[i]? =some w->P i acc τ M->acc.length<sizeLine/\gN 0 w τ M λ τ2 M2=>tt τ2 M2 λ b M3=>if b=true then te τ2 M3 λ y M4=>∃ d,y=.d d/\P (i+1) (acc++[d]) τ2 M4 else P (i+1) acc τ2 M3) /\
   ∀ acc τ M,P ws.length acc τ M->Q acc M:=by
 let Pk:Nat->List PyData->DS->Prop:=λ i acc τ'=>i<=ws.length/\acc=(ws.take i).filterMap f/\∃ x,τ'=x::fr.map λ j=>(τ[j]?).getD none
 refine⟨λ i acc τ' M'=>M'=M/\Pk i acc τ',⟨rfl,Nat.zero_le _,rfl,none,rfl⟩,λ i w acc τ' M' hw hp=>?_,λ acc τ' M' hp=>?_⟩
 ·obtain⟨rfl,hi,rfl,x,rfl⟩:=hp;have hlt:i<ws.length:=(List.getElem?_eq_some_iff.mp hw).1;refine⟨?_,step w (List.mem_of_getElem? hw) (λ o=>match o with
   | some d=>Pk (i+1) ((ws.take i).filterMap f++[d]) (some w::fr.map λ j=>(τ[j]?).getD none)
   | none=>Pk (i+1) ((ws.take i).filterMap f) (some w::fr.map λ j=>(τ[j]?).getD none)) ?_⟩
  ·have h1:=List.length_filterMap_le f (ws.take i);rw[List.length_take] at h1;omega
  ·cases e:f w with
   | some d=>exact⟨hlt,by rw[xZ hw,e];rfl,_,rfl⟩
   | none=>exact⟨hlt,by rw[xZ hw,e];simp,_,rfl⟩
 ·obtain⟨rfl,hi,rfl,x,rfl⟩:=hp;rw[List.take_of_length_le (Nat.le_refl _)];exact q
theorem abg{α:Type}(g:α->W)(f:W->Option PyData)(h:α->PyData)(e:∀ a,f (g a)=some (h a))(l:List α):(l.map g).filterMap f=l.map h:=by
 induction l with
 | nil=>rfl
 | cons a l ih=>rw[List.map_cons,List.filterMap_cons,e,ih];rfl
theorem vb:∀ ws M Q,eF ws M Q->v8 {nx:=λ _ M'=>Q (.d .none) M',rt:=Q} (bc xP ws) M:=by
 rintro ws M Q ⟨ns,rfl,hl,k⟩;refine⟨_,rfl,_,rfl,_,rfl,rfl,_,rfl,?_⟩;have ec:cutD (ns.map PyData.int) none (some 63)=(cutD ns none (some 63)).map PyData.int:=by simp only[cutD,List.length_map,List.map_take,List.map_drop]
 have hlen:(cutD ns none (some 63)).length<=ns.length:=by simp only[cutD,List.length_take,List.length_drop];omega
 have h1000:(1000:Nat)<=sizeLine:=by rw[sizeLine_eq];decide
 dsimp only;refine yj (λ w=>match w with
  | .d (.int n)=>some (.int (if n<0 then -n else n))
  | _=>none) ?hl (λ w hw P' hp=>?_) ?_
 case hl=>rw[List.length_map,ec,List.length_map];omega
 ·rw[ec,List.map_map] at hw;obtain⟨n,_,rfl⟩:=List.mem_map.mp hw;exact⟨_,rfl,_,rfl,_,rfl,rfl,hp⟩
 ·have e2:(List.map W.d (cutD (ns.map PyData.int) none (some 63))).filterMap (λ w=>match w with
    | .d (.int n)=>some (PyData.int (if n<0 then -n else n))
    | _=>none)=((cutD ns none (some 63)).map λ n=>if n<0 then -n else n).map PyData.int:=by
   rw[ec,List.map_map,abg (W.d ∘ PyData.int) _ (λ n=>PyData.int (if n<0 then -n else n)) (λ n=>rfl),List.map_map];rfl
  rw[e2];refine⟨by simp[sizeLine_eq],λ p hp=>k p _ hp (λ q hq=>aj hq) ⟨0,1234567891,0,_,ag,Int.le_refl 0,by decide,by decide,Int.le_refl 0,λ n hn=>?_⟩⟩;obtain⟨m,_,rfl⟩:=List.mem_map.mp hn
  split<;>omega
def uN(z:Str):Bool:=z.cps.all (·<128)
mutual
def big:PyData->Nat
 | .none=>4
 | .bool _=>5
 | .int _=>2000
 | .str z=>10 * z.length+2
 | .list ds=>yX ds+2
 | .tuple ds=>yX ds+3
 | .dict kvs=>aeK kvs+2
def yX:List PyData->Nat
 | []=>0
 | d::ds=>big d+2+yX ds
def aeK:List (PyData×PyData)->Nat
 | []=>0
 | (k,d)::ds=>big k+2+big d+2+aeK ds
end
mutual
def cO:PyData->Bool
 | .none=>true
 | .bool _=>true
 | .int i=>decide (i.natAbs.log2<1920)
 | .str z=>uN z
 | .list ds=>jr ds
 | .tuple ds=>jr ds
 | .dict kvs=>qb kvs
def jr:List PyData->Bool
 | []=>true
 | d::ds=>cO d&&jr ds
def qb:List (PyData×PyData)->Bool
 | []=>true
 | (k,d)::ds=>cO k&&cO d&&qb ds
end
theorem se:∀ ts:List Str,(listText ts).length<=piled ts+2
 | []=>by decide +kernel
 | t::r=>by
  have h:=textFrom_length_pos r 1 (("[" : Str)++(if (0:Nat) > 0 then ", " else "" : String)++t) (Nat.succ_pos 0);have e:((("[" : Str)++(if (0:Nat) > 0 then ", " else "" : String)++t)).length=1+t.length:=by rw[strLen_append,strLen_append];rfl
  have hX:(listText (t::r)).length=(textFrom 0 "[" (t::r)).length+1:=by show(textFrom 0 "[" (t::r) ++ "]").length=_;rw[strLen_append];rfl
  have h2:(textFrom 0 "[" (t::r)).length=(1+t.length)+piled r:=by rw[<- e];exact h
  have h3:piled (t::r)=t.length+2+piled r:=by simp[piled]
  omega
theorem join_le(ts:List Str):(Str.join ", " ts).length<=piled ts:=by
 cases ts with
 | nil=>decide +kernel
 | cons t r=>have:=join_length_add (t::r) (by simp);omega
theorem pX(ts:List Str):(tupleText ts).length<=piled ts+3:=by
 unfold tupleText;rw[strLen_append,strLen_append];have e1:((("(" : String):Str)).length=1:=rfl;have e3:(((if ts.length==1 then ",)" else ")" : String):Str)).length<=2:=by split<;>decide
 have:=join_le ts;omega
theorem rE(ts:List Str):(dictText ts).length<=piled ts+2:=by
 unfold dictText;rw[strLen_append,strLen_append];have e1:((("{" : String):Str)).length=1:=rfl;have e2:((("}" : String):Str)).length=1:=rfl;have:=join_le ts;omega
theorem ab5{i:Int}(h:i.natAbs.log2<1920):(Str.ofString (toString i)).length<=2000:=by have e:=int_text_length_le (k:=1920) (by decide) h;rw[PySem.ofString_length];omega
theorem repr_len(h:uN z=true):(reprText z).length<=10 * z.length+2:=StrLaws.reprText_len z λ c hc=>by
 have:=Array.all_eq_true_iff_forall_mem.mp h c (by simpa using hc);have h2:c<128:=by simpa using this
 omega
mutual
theorem shown_le:∀ d:PyData,cO d=true->d.shown.length<=big d
 | .none,_=>by rw[PyData.shown];decide +kernel
 | .bool b,_=>by rw[PyData.shown];cases b<;>decide +kernel
 | .int i,h=>by rw[PyData.shown];exact ab5 (by simpa [cO] using h)
 | .str z,h=>by rw[PyData.shown,big];exact repr_len (by simpa [cO] using h)
 | .list ds,h=>by have h1:=jT ds (by simpa [cO] using h);have h2:=se (PyData.shownAll ds);rw[PyData.shown,big];omega
 | .tuple ds,h=>by have h1:=jT ds (by simpa [cO] using h);have h2:=pX (PyData.shownAll ds);rw[PyData.shown,big];omega
 | .dict ds,h=>by have h1:=oZ ds (by simpa [cO] using h);have h2:=rE (PyData.shownKv ds);rw[PyData.shown,big];omega
theorem jT:∀ ds:List PyData,jr ds=true->piled (PyData.shownAll ds)<=yX ds
 | [],_=>by simp[PyData.shownAll,piled,yX]
 | d::ds,h=>by simp only[jr,Bool.and_eq_true] at h;have h1:=shown_le d h.1;have h2:=jT ds h.2;simp only[PyData.shownAll,piled_cons,yX];omega
theorem oZ:∀ ds:List (PyData×PyData),qb ds=true->piled (PyData.shownKv ds)<=aeK ds
 | [],_=>by simp[PyData.shownKv,piled,aeK]
 | (k,d)::ds,h=>by simp only[qb,Bool.and_eq_true] at h;have h1:=shown_le k h.1.1;have h3:=shown_le d h.1.2;have h2:=oZ ds h.2;have e:((((": " : String):Str))).length=2:=rfl;simp only[PyData.shownKv,piled_cons,aeK,strLen_append,e];omega
end
mutual
theorem iw:∀ d:PyData,cO d=true->d.showable=true
 | .none,_=>by simp[PyData.showable]
 | .bool b,_=>by simp[PyData.showable]
 | .int i,h=>by simpa [PyData.showable,cO] using h
 | .str z,h=>by simp[PyData.showable]
 | .list ds,h=>by simpa [PyData.showable] using iO ds (by simpa [cO] using h)
 | .tuple ds,h=>by simpa [PyData.showable] using iO ds (by simpa [cO] using h)
 | .dict ds,h=>by simpa [PyData.showable] using mH ds (by simpa [cO] using h)
theorem iO:∀ ds:List PyData,jr ds=true->PyData.showableAll ds=true
 | [],_=>by simp[PyData.showableAll]
 | d::ds,h=>by simp only[jr,Bool.and_eq_true] at h;simp[PyData.showableAll,iw d h.1,iO ds h.2]
theorem mH:∀ ds:List (PyData×PyData),qb ds=true->PyData.showableKv ds=true
 | [],_=>by simp[PyData.showableKv]
 | (k,d)::ds,h=>by simp only[qb,Bool.and_eq_true] at h;simp[PyData.showableKv,iw k h.1.1,iw d h.1.2,mH ds h.2]
end
theorem s16:(1000000:Nat)<=sizeLine:=by rw[sizeLine_eq];decide
end D
namespace D
open L2
def Asc(z:Str):Prop:=∀ c∈z.cps.toList,c<128
theorem str_len(z:Str):z.cps.toList.length=z.length:=by simp[Str.length]
theorem d4(hx:Asc x)(hy:Asc y):Asc (x++y):=by
 intro c hc;have e:(x++y).cps.toList=x.cps.toList++y.cps.toList:=by show(x.cps++y.cps).toList=_;simp
 rw[e] at hc;rcases List.mem_append.mp hc with h | h
 ·exact hx c h
 ·exact hy c h
theorem len_app(x y:Str):(x++y).length=x.length+y.length:=by show(x.cps++y.cps).size=_;simp[Str.length]
def Tx(n:Nat)(d:PyData):Prop:=∃ z:Str,d=.str z/\z.length<=n/\Asc z
theorem dq(h:z.cps.all (·<128)=true):Asc z:=by
 intro c hc;have:=Array.all_eq_true_iff_forall_mem.mp h c (by simpa using hc)
 simpa using this
theorem wB(h0:0<=r)(h1:r<z.length):∃ c,ixW M (.d (.str z)) r=some (.d (.str ⟨#[c]⟩))/\c∈z.cps.toList:=by
 have hl:r<(z.cps.toList.length:Nat):=by rw[str_len];exact h1
 refine⟨z.cps.toList[r.toNat]'(by omega),?_,List.getElem_mem _⟩;simp only[ixW];rw[aaS h0 hl];rfl
abbrev jd:Str:= "abcdefghijklmnopqrstuvwxyz"
theorem aeT:jd.length=26:=by decide +kernel
theorem ahf(h:Asc z):uN z=true:=by
 unfold uN;rw[Array.all_eq_true_iff_forall_mem];intro c hc;exact decide_eq_true (h c (by simpa using hc))
theorem few(h:n<=1000):n<=sizeLine:=by have:=s16;omega
theorem Inv.swap(I:Inv X pins σ H s)(h:H a=some u)(n1:∀ xs,u ≠ .tup xs)(n2:∀ x,u ≠ .own x)(b1:∀ xs,X.H₀ a≠some (.tup xs))(b2:∀ o v,X.H₀ a≠some (.frz o v))(b3:∀ ps,X.H₀ a≠some (.tbl ps))
  (new:cF X.prog X.w (upd H a u') s.heap a u'):Inv X pins σ (upd H a u') s:=by
 have nn:∀ b,H b=none->b≠a:=λ b e z=>by rw[z,h] at e;cases e
 refine⟨I.ok,I.os,I.bare,⟨I.base.keep,I.base.slot,λ b ob q n x=>?_,I.base.there,λ b xs q=>?_,λ b ob v q=>?_,λ b ps q=>?_⟩,I.loc,I.cell,?_,λ x c q=>?_,λ p hp=>?_,λ b v q=>?_,I.len⟩
 ·have:=I.base.free b ob q n x;rw[aq (nn b this)];exact this
 ·rw[aq (λ z:b=a=>b1 xs (by rw[<- z];exact q))];exact I.base.tups b xs q
 ·rw[aq (λ z:b=a=>b2 ob v (by rw[<- z];exact q))];exact I.base.frzs b ob v q
 ·rw[aq (λ z:b=a=>b3 ps (by rw[<- z];exact q))];exact I.base.tbls b ps q
 ·rw[aq (nn _ I.free)];exact I.free
 ·have:=I.freeC x c q;rw[aq (nn c this)];exact this
 ·obtain⟨p1,p2,p3⟩:=I.pin p hp;exact⟨p1,by rw[aq (nn _ p2)];exact p2,p3⟩
 ·by_cases hb:b=a
  ·subst hb;rw[au] at q;cases q;exact new
  ·rw[aq hb] at q;refine(I.hok b v q).qx (λ _ _ _ q=>q) (λ c r=>?_) λ c xs r=>?_
   ·rw[aq (λ z=>by rw[z,h] at r;exact n2 _ (Option.some.inj r))];exact r
   ·rw[aq (λ z=>by rw[z,h] at r;exact n1 _ (Option.some.inj r))];exact r
theorem iZ(I:Inv X pins σ H s)(h:H a=some (.dK l)):(∀ xs,X.H₀ a≠some (.tup xs))/\(∀ o v,X.H₀ a≠some (.frz o v))/\∀ ps,X.H₀ a≠some (.tbl ps):=by
 refine⟨λ xs e=>?_,λ o v e=>?_,λ ps e=>?_⟩
 ·have:=I.base.tups a xs e;rw[h] at this;cases this
 ·have:=I.base.frzs a o v e;rw[h] at this;cases this
 ·obtain⟨m,this⟩:=I.base.tbls a ps e;rw[h] at this;cases this
theorem Inv.ahQ(I:Inv X pins σ H s)(h:H a=some (.dK l)):∃ o,Inv X pins σ (upd H a (.frz o (.frz o (.dK l)))) s:=by have f:Fz (.dK l):=trivial;obtain⟨o,ho⟩:=(I.hok a _ h).obj f;obtain⟨b1,b2,b3⟩:=iZ I h;exact⟨o,Inv.swap I h (λ _ z=>nomatch z) (λ _ z=>nomatch z) b1 b2 b3 ⟨ho,ho,(I.hok a _ h).aeC f⟩⟩
theorem Inv.again(I0:Inv X pins σ0 H0 s0)(h0:H0 a=some (.dK l))(I:Inv X pins σ H s)(h:H a=some (.frz o (.frz o (.dK l)))):Inv X pins σ (upd H a (.dK l)) s:=by have f:Fz (.dK l):=trivial;obtain⟨b1,b2,b3⟩:=iZ I0 h0;exact Inv.swap I h (λ _ z=>nomatch z) (λ _ z=>nomatch z) b1 b2 b3 ((I.hok a _ h).2.2.aeC f)
section
variable {K:FG}{H:Hp}{a:Addr}{o:Obj}{l:List (Key×V)}
theorem Kp.back(h:H a=some (.frz o (.frz o (.dK l)))):(∀ b xs,H b=some (.tup xs)->upd H a (.dK l) b=some (.tup xs))/\(∀ b ob ys,H b=some (.frz ob (.lst ys))->upd H a (.dK l) b=some (.frz ob (.lst ys)))/\∀ b ob ys,H b=some (.frz ob (.dK ys))->upd H a (.dK l) b=some (.frz ob (.dK ys)):=by
 refine⟨λ b xs e=>?_,λ b ob ys e=>?_,λ b ob ys e=>?_⟩<;>
 ·rw[aq (λ z=>by rw[z,h] at e;cases e)];exact e
theorem SqT.back(h:H a=some (.frz o (.frz o (.dK l))))(r:SqT K H b vs):SqT K (upd H a (.dK l)) b vs:=by
 rcases r with (r | ⟨ob,r⟩) | r
 ·exact .inl (.inl ((Kp.back h).1 _ _ r))
 ·refine .inl (.inr ⟨ob,?_⟩);rw[aq (λ z=>by rw[z,h] at r;cases r)];exact r
 ·exact .inr r
theorem SqF.back(h:H a=some (.frz o (.frz o (.dK l))))(r:SqF K H b vs):SqF K (upd H a (.dK l)) b vs:=by
 rcases r with ⟨ob,r⟩ | r
 ·exact .inl ⟨ob,(Kp.back h).2.1 _ _ _ r⟩
 ·exact .inr r
mutual
theorem aA.back(h:H a=some (.frz o (.frz o (.dK l)))):∀ {d:PyData} {v:V},aA K H d v->aA K (upd H a (.dK l)) d v
 | .none,v,r=>by simp only[aA] at r ⊢;exact r
 | .bool b,v,r=>by simp only[aA] at r ⊢;exact r
 | .int i,v,r=>by simp only[aA] at r ⊢;exact r
 | .str x,v,r=>by simp only[aA] at r ⊢;exact r
 | .list ds,v,r=>by simp only[aA] at r ⊢;obtain⟨b,vs,e,q,r⟩:=r;exact⟨b,vs,e,SqF.back h q,a9.back h r⟩
 | .tuple ds,v,r=>by simp only[aA] at r ⊢;obtain⟨b,vs,e,q,r⟩:=r;exact⟨b,vs,e,SqT.back h q,a9.back h r⟩
 | .dict kvs,v,r=>by simp only[aA] at r ⊢;obtain⟨b,ob,m,e,q,r⟩:=r;exact⟨b,ob,m,e,(Kp.back h).2.2 _ _ _ q,gW.back h r⟩
theorem a9.back(h:H a=some (.frz o (.frz o (.dK l)))):∀ {ds:List PyData} {vs:List V},a9 K H ds vs->a9 K (upd H a (.dK l)) ds vs
 | [],vs,r=>by simp only[a9] at r ⊢;exact r
 | d::ds,vs,r=>by simp only[a9] at r ⊢;obtain⟨v,q,e,h1,h2⟩:=r;exact⟨v,q,e,aA.back h h1,a9.back h h2⟩
theorem gW.back(h:H a=some (.frz o (.frz o (.dK l)))):∀ {ds:List (PyData×PyData)} {m:List (Key×V)},gW K H ds m->gW K (upd H a (.dK l)) ds m
 | [],m,r=>by simp only[gW] at r ⊢;exact r
 | (key,d)::ds,m,r=>by simp only[gW] at r ⊢;obtain⟨k',v,q,e,ek,h1,h2⟩:=r;exact⟨k',v,q,e,ek,aA.back h h1,gW.back h h2⟩
end
theorem aE.back(h:H a=some (.frz o (.frz o (.dK l)))):∀ {w:W} {v:V},aE K H w v->aE K (upd H a (.dK l)) w v
 | .d _,_,r=>aA.back h r
 | .m _,_,r=>r
 | .t _,_,r=>r
theorem cq.back(h:H a=some (.frz o (.frz o (.dK l))))(m:cq K H M)(e:M a=some (.fdic kvs)):cq K (upd H a (.dK l)) (bf M a (.dic kvs)):=λ b mo q=>by
 by_cases hb:b=a
 ·subst hb;rw[ag] at q;cases q;obtain⟨o',l',e',pr⟩:=m _ _ e;rw[h] at e';cases e';exact⟨l,au,Paired.gF pr λ p q z=>⟨z.1,aE.back h z.2⟩⟩
 ·rw[aj hb] at q;have r:=m b mo q;cases mo with
  | lst ws=>obtain⟨vs,e,r⟩:=r;exact⟨vs,by rw[aq hb];exact e,Paired.gF r λ _ _ z=>aE.back h z⟩
  | dic kvs=>obtain⟨l,e,r⟩:=r;exact⟨l,by rw[aq hb];exact e,Paired.gF r λ p q z=>⟨z.1,aE.back h z.2⟩⟩
  | dct kvs=>obtain⟨l,e,r⟩:=r;exact⟨l,by rw[aq hb];exact e,Paired.gF r λ p q z=>⟨z.1,aE.back h z.2⟩⟩
  | fdic kvs=>obtain⟨o,l,e,r⟩:=r;exact⟨o,l,by rw[aq hb];exact e,Paired.gF r λ p q z=>⟨z.1,aE.back h z.2⟩⟩
  | ins C fs=>obtain⟨dx,l,e,r⟩:=r;exact⟨dx,l,by rw[aq hb];exact e,Paired.gF r λ p q z=>⟨z.1,aE.back h z.2⟩⟩
  | tup ws=>obtain⟨vs,e,r⟩:=r;exact⟨vs,by rw[aq hb];exact e,Paired.gF r λ _ _ z=>aE.back h z⟩
  | flst ws=>obtain⟨o,vs,e,r⟩:=r;exact⟨o,vs,by rw[aq hb];exact e,Paired.gF r λ _ _ z=>aE.back h z⟩
  | exc C fs =>
   obtain⟨φ,dct,e,p,r⟩:=r;refine⟨φ,dct,by rw[aq hb];exact e,p,?_⟩;rcases r with r | ⟨dx,o',l',e1,e2,r⟩
   ·exact .inl r
   ·exact .inr ⟨dx,o',l',e1,by rw[aq (λ z=>by rw[z,h] at e2;cases e2)];exact e2,Paired.gF r λ p q z=>⟨z.1,aE.back h z.2⟩⟩
  | code q pos =>
   obtain⟨ps,e,ht,hc⟩:=r;refine⟨ps,by rw[aq hb];exact e,ht,?_⟩;rcases hc with hc | ⟨c,o',vs,t,e1,e2,e3⟩
   ·exact .inl hc
   ·exact .inr ⟨c,o',vs,t,e1,by rw[aq (λ z=>by rw[z,h] at e2;cases e2)];exact e2,e3⟩
end
end D
namespace D
open L2
theorem Inv.yc{D:Addr}{ys:List V}{us:List Value}{n:Nat}(I:Inv X pins σ H s)(e:s.heap.get? D=some {cls:=.type "tuple",data:=.seq us.toArray n})(hn:H D=none)(hv:Vals ys us)(hz:ys.length<=sizeLine)
  (h0:D∈X.ex\/X.s₀.heap.objs.size<=D)(hL:D≠X.env.locals)(hc:∀ x c,X.env.cells.lookup x=some c->c≠D)(hp:∀ p∈X.pn++pins,p.1≠D):Inv X pins σ (upd H D (.tup ys)) s:=by
 have ne:∀ b u,H b=some u->b≠D:=λ b u q=>aS q hn;refine I.step (h':=s.heap) (g':=s.gens) (d':=s.drawn) (t':=s.toks) (ch:=[D]) (λ b hb=>?_) (λ b o _ _ _ q _=>q) (λ b o _ _ _ q _=>⟨o.slots,q⟩) (λ b o hb q n=>?_) (λ b o _ q=>⟨o,q⟩)
  (λ b xs q=>by rw[aq (ne b _ q)];exact q) (λ b o u q=>by rw[aq (ne b _ q)];exact q) (λ b ps q=>⟨#[],by rw[aq (ne b _ q),q];simp⟩) (λ m hm=>hm) (λ b u q=>?_) I.bare
 ·have e:b=D:=by simpa using hb
  subst e;exact⟨h0,hL,hc,hp⟩
 ·rw[aq (λ z=>hb (by simp[z]))];exact n
 ·by_cases hb:b=D
  ·subst hb;rw[au] at q;cases q;exact⟨hz,us,hv,⟨_,e,rfl,rfl,n,rfl⟩⟩
  ·rw[aq hb] at q;exact(I.hok b u q).qx (λ _ _ _ q=>q) (λ c r=>by rw[aq (ne c _ r)];exact r) λ c xs r=>by rw[aq (ne c _ r)];exact r
abbrev tS(o:Obj)(l:List (Key×V)):HO:=.frz o (.frz o (.dK l))
theorem jA{P:Program}{w:World}{H:Hp}{h:Heap}{a:Addr}{o:Obj}{l:List (Key×V)}(ok:HOk P w H h)(e:H a=some (tS o l)):(a==sysModules)=false/\∃ vs es ep,KV l vs/\o.data=.dict es ep/\h.DictAt (ba P w) a vs ep:=by obtain⟨ho,_,z,hd,vs,rel,o',es,ep,h1,h2,h3,h4⟩:=ok a _ e;rw[ho] at h1;cases h1;exact⟨hd,vs,es,ep,rel,h3,o,es,ho,h2,h3,h4⟩
def Itd(a:Addr)(o:Obj)(l:List (Key×V)):It:=
 ⟨λ i H=>H a=some (tS o l)/\i<l.length,λ i H x H'=>∃ T kv,l[i]? =some kv/\H T=none/\x=.ref T/\H'=upd H T (.tup [kV kv.1,kv.2]),λ i H=>H a=some (tS o l)/\l.length<=i⟩
theorem ahJ{κ:Type}[DecidableEq κ]{l:List (κ×V)}{vs:List (κ×Value)}(r:KV l vs){i:Nat}(h:i<l.length):∃ kv k v,l[i]? =some kv/\vs[i]? =some (k,v)/\kv.1=k/\RelV kv.2 v:=by
 unfold KV at r
 induction r generalizing i with
 | nil=>simp at h
 | @cons p q ps qs hp t ih =>
  cases i with
  | zero=>exact⟨p,q.1,q.2,rfl,rfl,hp.1,hp.2⟩
  | succ i =>
   obtain⟨kv,k,v,e1,e2,e3,e4⟩:=ih (i:=i) (by simpa using h);exact⟨kv,k,v,by simpa using e1,by simpa using e2,e3,e4⟩
theorem agg{P:Program}{w:World}{k:Key}{u:Value}(h:(ba P w).is k u=true):RelV (kV k) u:=by
 cases k with
 | inl i =>
  have h':Value.isInt i u=true:=h;unfold Value.isInt at h'
  split at h'
  ·rename_i j t
   have:j=i:=by simpa using h'
   subst this;exact⟨t,rfl⟩
  ·cases h'
 | inr x =>
  have h':Value.isStrOf x u=true:=h;unfold Value.isStrOf at h'
  split at h'
  ·rename_i j t
   have:j=x:=by simpa using h'
   subst this;exact⟨t,rfl⟩
  ·cases h'
theorem qU{P:Program}{w:World}{K:FG}{elts:List Expr}{x1:Nat}{tpos:Pos}(a it:Addr)(o:Obj)(l:List (Key×V))(es:Array DictEntry)(ep:Nat)(ho:o.data=.dict es ep) :
  Turn P w K (.Tuple elts x1 tpos) (Itd a o l) [it] it (λ i h=>∃ ok ov,IsItemIter h it a i l.length ep ok ov) where
 mem:=by simp
 obj:=λ i h st b hb=>by
  have e:b=it:=by simpa using hb
  subst e;obtain⟨ok,ov,st⟩:=st;exact⟨_,st,λ v z=>by cases z⟩
 keep:=λ i h h' ⟨ok,ov,st⟩ k=>⟨ok,ov,k it (by simp) _ st⟩
 item:=by
  intro X hP hw hK hc i pins s σ H E I hf ⟨ok,ov,st⟩ ⟨hg,hi⟩;subst hP hw hK;obtain⟨f0,f1,f2,f3,f4,f5⟩:=hf it (by simp);obtain⟨hd,vs,es',ep',rel,ho',da⟩:=jA I.hok hg;rw[ho] at ho';cases ho';obtain⟨kv,k,v,e1,e2,e3,e4⟩:=ahJ rel hi;have hl:l.length=vs.length:=rel.length;rw[hl] at st;refine wpAny_pyNext_items_item st da e2 λ key h' hk st' ht hsz kp=>?_;refine⟨_,rfl,wpAny_letOwnedTupleGo_items st' λ h'' st'' sb=>?_⟩;have T:=I.mB (Nat.le_refl _) (I.hok.fresh (Nat.le_refl _));obtain⟨t0,t1,t2,t3,t4,t5⟩:=T;have hit:it<s.heap.objs.size:=Heap.lt_size st;have nT:s.heap.objs.size≠it:=Nat.ne_of_gt hit;have I1:Inv X pins σ H {s with heap:=h''}:=I.turned (t':=s.toks) (λ b ob hb e=>(sb.2 b hb).trans (kp b ob hb e)) f0 f1 f3 f4 f5;have eT:h''.get? s.heap.objs.size=some {cls:=.type "tuple",data:=.seq #[key,v]}:=(sb.2 _ nT).trans ht;have I2:=Inv.yc (us:=[key,v]) (ys:=[kV kv.1,kv.2]) I1 eT t0 (.cons (by rw[e3];exact agg hk) (.cons e4 .nil)) (by simp;have:=s16;omega) t3 t1 t4 t5;refine⟨.ref s.heap.objs.size,_,I2,rfl,⟨_,kv,e1,t0,rfl,rfl⟩,⟨_,_,by rw[hl];exact st''⟩,λ b hb=>?_⟩;have e:b=it:=by simpa using hb
  subst e;rw[aq nT.symm];exact f0
 done:=by intro X hP hw hK hc i pins s σ H E I hf ⟨ok,ov,st⟩ ⟨hg,hi⟩;subst hP hw hK;obtain⟨f0,f1,f2,f3,f4,f5⟩:=hf it (by simp);obtain⟨hd,vs,es',ep',rel,ho',da⟩:=jA I.hok hg;rw[ho] at ho';cases ho';have hl:l.length=vs.length:=rel.length;rw[hl] at st hi;exact wpAny_pyNext_items_end (I.ok.hd hc) st da (List.getElem?_eq_none hi) λ h' eb=>⟨rfl,I.turned (t':=s.toks) (λ b o hb e=>eb b o hb e) f0 f1 f3 f4 f5⟩
 self:=λ _ _ _ _ _ ⟨ok,ov,st⟩ h=>W.kcp_self st h
def acT(td:TE):TI:=λ σ H R=>td σ H λ x H1=>∃ a o l,x=.ref a/\H1 a=some (tS o l)/\R (Itd a o l) H1
theorem xX{elts:List Expr}{x1:Nat}{tpos:Pos}(ho:PE X o td)(hbase:attributeBase o "items" X.env (eval o X.env)=eval o X.env:=by rfl)(hline:(apos.endLine==cpos.line)=true:=by rfl) :
  PI X (.Tuple elts x1 tpos) (.Call (.Attribute o "items" apos) [] [] cpos) (acT td):=by
 intro pins s σ H R I h;refine wpAny_Call_method0_late hbase hline (thn (ho pins s σ H _ I h) λ v s1 hq74=>?_);obtain⟨x,H1,I1,r1,a,ob,l,ex,hg,q⟩:=hq74;subst ex;cases r1;obtain⟨hd,vs,es,ep,rel,hdat,da⟩:=jA I1.hok hg;have dd:s1.heap.DictOf (ba X.prog X.w) a vs:=let ⟨o,es,h⟩:=da; ⟨o,es,ep,h⟩;have hnd:∀ b,Value.ref a=.ref b->∃ ob,s1.heap.get? b=some ob/\ob.dict=none:=λ b e=>by
  cases e;obtain⟨oo,es',h1,h2,_⟩:=da;exact⟨oo,h1,h2.2.1⟩
 refine⟨"dict", "dict.items",PySem.F.plainAttrs_dict,PySem.F.slot_dict_items,PySem.F.type_dict_items,dd.typeIs,hnd,Calls.callWith_builtin rfl (PySem.evalArgs_none ?_)⟩;refine call_meetsIn PySem.F.slot_dict_items dd.typeIs PySem.F.entry_dict_items (PySem.F.args_dict_items_1 _) (meets_dict_items (ba X.prog X.w) a hd) ⟨⟨vs,dd⟩,?_⟩;have I2:Inv X pins σ H1 {s1 with heap:=s1.heap.push {cls:=.type "dict_items",data:=.fields #[.ref a]}}:=I1.kept (t':=s1.toks) λ b o e=>Heap.get?_push_of_some _ e;obtain⟨_,vs2,es2,ep2,rel2,hdat2,da2⟩:=jA I2.hok hg;rw[hdat] at hdat2;cases hdat2;refine wpAny_pyIter_items ⟨_,Heap.get?_push_size _ rfl,rfl,rfl⟩ da2 ?_;refine⟨_,[_],_,_,H1,rfl,I2.kept (t':=s1.toks) λ b o e=>Heap.get?_push_of_some _ e,qU a _ ob l es ep hdat,⟨.none,.none,?_⟩,λ b hb=>?_,q⟩
 ·have:=Heap.get?_push_size (s1.heap.push {cls:=.type "dict_items",data:=.fields #[.ref a]}) (o:={cls:=.type "dict_itemiterator",data:=.fields #[.none,.bool false,.ref a,.int 0 0,.int (vs2.length:Nat) 0,.int (ep:Nat) 0,.none,.none]}) rfl;rw[rel2.length];exact this
 ·rw[List.mem_singleton] at hb;rw[hb];exact I2.mB (Nat.le_refl _) (I2.hok.fresh (Nat.le_refl _))
section
variable {X:Cx}{K:FG}{tg o:Expr}{apos cpos:Pos}{td:TD}
def sM(kds:List (Key×PyData)):List W:=kds.map λ p=>.d (.tuple [tU p.1,p.2])
def kD(kds:List (Key×PyData)):List (Key×W):=kds.map λ p=>(p.1,.d p.2)
theorem aaF{H:Hp}:∀ {kds:List (Key×PyData)} {l:List (Key×V)},Paired (λ(p:Key×W) (q:Key×V)=>p.1=q.1/\aE K H p.2 q.2) (kD kds) l->l.length=kds.length/\∀ (i:Nat) kv,l[i]? =some kv->∃ p,kds[i]? =some p/\p.1=kv.1/\aA K H p.2 kv.2
 | [],l,h=>by
  cases h;exact⟨rfl,λ i kv e=>by simp at e⟩
 | p::kds,l,h=>by
  cases h with
  | cons r t =>
   obtain⟨h1,h2⟩:=aaF t;refine⟨by simp[h1],λ i kv e=>?_⟩;cases i with
   | zero =>
    simp at e;subst e;exact⟨p,rfl,r.1,r.2⟩
   | succ i =>
    obtain⟨p',e1,e2⟩:=h2 i kv (by simpa using e);exact⟨p',by simpa using e1,e2⟩
def rZ(td:TD)(τ:DS)(M:MH)(R:List W->MH->Prop):Prop:=td τ M λ w M1=>∃ a kds,w=.m a/\M1 a=some (.fdic (kD kds))/\R (sM kds) M1
theorem uA{elts:List Expr}{x1:Nat}{tpos:Pos}(ho:PD X o td)(hbase:attributeBase o "items" X.env (eval o X.env)=eval o X.env:=by rfl)(hline:(apos.endLine==cpos.line)=true:=by rfl) :
  PId X (.Tuple elts x1 tpos) (.Call (.Attribute o "items" apos) [] [] cpos) (rZ td):=adt (xX ho hbase hline) λ σ H R hq75=>by
 obtain⟨τ,M,Rd,A,h,k⟩:=hq75;refine⟨τ,M,_,A,h,λ v H1 w M1 kp r m hq76=>?_⟩;obtain⟨a,kds,ew,hm,q⟩:=hq76;subst ew;obtain⟨ob,l,e,pr⟩:=m _ _ hm;obtain⟨hlen,hget⟩:=aaF pr;refine⟨a,ob,l,r,e,k _ H1 _ M1 kp m (λ H2 kp2 i=>?_) q⟩;have hlw:(sM kds).length=l.length:=by rw[hlen];simp[sM]
 have e2:=kp2.frz a ob _ e;refine⟨λ hi=>⟨e2,by omega⟩,λ hi=>⟨e2,by omega⟩,λ x H' hi hq77=>?_⟩;obtain⟨T,kv,hkv,hT,ex,eH⟩:=hq77;subst ex eH;obtain⟨p,e3,e4,e5⟩:=hget i kv hkv;have kpn:Kp H2 (upd H2 T (.tup [kV kv.1,kv.2])):=Kp.new hT;refine⟨kpn,λ M m=>m.new hT,.d (.tuple [tU p.1,p.2]),by simp[sM,e3],?_⟩;simp only[aE,aA,a9];refine⟨T,_,rfl,.inl (.inl au),_,_,rfl,?_,_,_,rfl,(e5.keep kp2).keep kpn,rfl⟩;rw[e4];cases kv.1<;>simp[tU,kV,aA]
end
theorem pS:∀ {zs:List Str} {its:List Value},StrsAre its zs->Vals (zs.map V.str) its
 | _,_,.nil=>.nil
 | _,_,.cons y t h=>.cons ⟨t,rfl⟩ (pS h)
section
variable {X:Cx}{K:FG}
theorem ph{H:Hp}:∀ (zs:List Str),aQ K H (dG zs) (zs.map V.str)
 | []=>.nil
 | z::zs=>.cons (by simp[aE,aA]) (ph zs)
end
section
variable {X:Cx}{K:FG}
theorem eX:eP X (.builtin "isinstance") (λ xs H Q=>∃ x d T,xs=[x,.ty T]/\oO X.K H d x/\Ty6 T/\Q (.bl (lq d T)) H):=by
 intro pins s σ H xs us Q I r h;obtain⟨x,d,T,rfl,rd,h6,q⟩:=h;rcases rd with rd | ⟨a,vs,ds,rfl,rfl,ha,ra⟩
 ·exact wG pins s σ H _ us Q I r ⟨x,d,T,rfl,rd,h6,q⟩
 obtain⟨u,w',rfl,rx,ry⟩:=vals2 r;cases (show w'=Value.type T from ry);have e:=xG (K:=X.K) (.list ds) h6;have fin:∀ tk,EP X pins σ Q (.bool (lq (.list ds) T)) {s with toks:=tk}:=λ tk=>⟨.bl _,H,I.tok _,rfl,q⟩;generalize lq (.list ds) T=b at e fin;cases (show u=Value.ref a from rx);obtain⟨its,rv,⟨o,n,e1,e2,e3,e4⟩,hz⟩:=I.list (.inl (.inl ha));exact W.kia_one W.kitx_list I.kIn ⟨_,e1,e2⟩ e (λ z=>nomatch z) fin
def gA(ws:List W)(M:MH)(Q:QD):Prop:=∃ w d T,ws=[w,.t T]/\zG M w d/\Ty6 T/\Q (.d (.bool (lq d T))) M
theorem iW:fT K (λ xs H Q=>∃ x d T,xs=[x,.ty T]/\oO K H d x/\Ty6 T/\Q (.bl (lq d T)) H) gA:=by intro vs H ws M Qd Q r m ⟨w,d,T,e,g,h6,q⟩ k;subst e;obtain⟨v,v',e1,r1,r2⟩:=sD r;simp only[aE] at r2;subst r2;exact⟨v,d,T,e1,g.sound r1 m,h6,k _ H (.d (.bool _)) M (Kp.refl H) (by simp[aE,aA]) m q⟩
end
theorem rH(ho:Jd (PD X o td))(hbase:attributeBase o "items" X.env (eval o X.env)=eval o X.env:=by rfl)(hline:(apos.endLine==cpos.line)=true:=by rfl):Jd (PId X (.Tuple elts x1 tpos) (.Call (.Attribute o "items" apos) [] [] cpos) (rZ td)):=⟨D.uA (ho:=ho.h) (hbase:=hbase) (hline:=hline)⟩
end D
namespace S
open PySem PySem.W PyProof.Rows
def go{α:Type}(lt:Nat->Nat->Bool):KasT α->α
 | .ret a=>a
 | .ask i j k=>go lt (k (lt i j))
structure ajw(lt:Nat->Nat->Bool):Prop where
 asym:∀ a b,lt a b=true->lt b a=false
 tr:∀ a b c,lt b a=false->lt c b=false->lt c a=false
def B(lt:Nat->Nat->Bool)(a b:Nat):Prop:=lt a b=true\/(lt a b=false/\lt b a=false/\a<b)
abbrev g(p:Array Nat)(i:Nat):Nat:=p.getD i 0
structure Un(p:Array Nat)(N n:Nat):Prop where
 size:p.size=N
 lo:∀ i,i<n->g p i<n
 hi:∀ i,n<=i->i<N->g p i=i
def Up(lt:Nat->Nat->Bool)(p:Array Nat)(n:Nat):Prop:=∀ i j,i<j->j<n->B lt (g p i) (g p j)
def Dn(lt:Nat->Nat->Bool)(p:Array Nat)(n:Nat):Prop:=∀ i j,i<j->j<n->B lt (g p j) (g p i)
def aiW(N:Nat)(R:α->Prop):KasT α->Prop
 | .ret a=>R a
 | .ask i j k=>i<N/\j<N/\∀ b,aiW N R (k b)
def Low(N:Nat)(p:Array Nat):Prop:=∀ i,g p i<N
def Shape:List Bool->List PyData->Prop
 | [],[]=>True
 | true::bs,d::ds=>(∃ x,d=.str x)/\Shape bs ds
 | false::bs,d::ds=>(∃ i,d=.int i)/\Shape bs ds
 | _,_=>False
def rowAt(rows:List (List PyData))(i:Nat):List PyData:=rows.getD i (rows.headD [])
def aje:List PyData->List Value->Prop:=Paired λ d u=>(∃ i t,d=.int i/\u=.int i t)\/∃ x t,d=.str x/\u=.str x t
end S
namespace D
open L2 S
section
variable {K:FG}
def aiv(h:Heap)(sh:List Bool)(rows:List (List PyData))(its:List Value):Prop:=Paired (λ row u=>Shape sh row/\∃ a o us n,u=Value.ref a/\h.get? a=some o/\o.cls=.type "tuple" /\ o.data=.seq us n/\aje row us.toList) rows its
end
section
variable {X:Cx}{K:FG}
end
section
variable {X:Cx}{K:FG}
theorem pJ:∀ {zs:List Str} {vs:List (Key×Value)} {us:List Value},vs.map (·.1)=zs.map Sum.inr->us.length=vs.length->(∀ (j:Nat) v,us[j]? =some v->∃ k x,vs[j]? =some (k,x)/\(ba P w).is k v=true)->StrsAre us zs
 | [],vs,us,h,hl,hp=>by
  have e:vs=[]:=by simpa using h
  subst e;have e:us=[]:=by simpa using hl
  subst e;exact .nil
 | z::zs,vs,us,h,hl,hp=>by
  match vs,us,h,hl,hp with
  | (k,x)::vs,u::us,h,hl,hp =>
   simp only[List.map_cons,List.cons.injEq] at h;obtain⟨k',x',e,hk⟩:=hp 0 u rfl;simp at e;obtain⟨e1,e2⟩:=e;subst e1 e2;rw[h.1,u1] at hk;obtain⟨t,e⟩:∃ t,u=.str z t:=by
    rcases bI hk with ⟨i,t,e,_⟩ | ⟨y,t,e,e'⟩
    ·cases e
    ·cases e;exact⟨t,e'⟩
   subst e;exact .cons z t (pJ h.2 (by simpa using hl) λ j v hj=>by simpa using hp (j+1) v (by simpa using hj))
  | [],_,h,_,_=>simp at h
  | _::_,[],_,hl,_=>simp at hl
def isNone:W->Bool
 | .d .none=>true
 | _=>false
theorem mK(r:aE K H w v):decide (v=.non)=isNone w:=by
 cases w with
 | m a=>cases (show v=.ref a from r);rfl
 | t n=>cases (show v=.ty n from r);rfl
 | d x =>
  cases x<;>simp only[aE,aA] at r
  ·subst r;rfl
  ·subst r;rfl
  ·subst r;rfl
  ·subst r;rfl
  all_goals first
   | (obtain⟨a,vs,e,_⟩:=r;subst e;rfl)
   | (obtain⟨a,o,l,e,_⟩:=r;subst e;rfl)
def qj(neg:Bool)(w:W)(w':W)(M:MH)(Q:QD):Prop:=w'=.d .none/\Q (.d (.bool (xor neg (isNone w)))) M
theorem wq:OpD K (λ x y H Q=>y=.non/\Q (.bl (decide (x=.non))) H) (qj false):=by intro x y H w w' M Qd Q r1 r2 m ⟨e,q⟩ k;subst e;simp only[aE,aA] at r2;refine⟨r2,k _ _ (.d (.bool (isNone w))) M (Kp.refl _) ?_ m (by simpa using q)⟩;rw[mK r1];simp[aE,aA]
theorem jy:OpD K (λ x y H Q=>y=.non/\Q (.bl (!decide (x=.non))) H) (qj true):=by intro x y H w w' M Qd Q r1 r2 m ⟨e,q⟩ k;subst e;simp only[aE,aA] at r2;refine⟨r2,k _ _ (.d (.bool (!isNone w))) M (Kp.refl _) ?_ m (by simpa using q)⟩;rw[mK r1];simp[aE,aA]
end
theorem Inv.adl(I:Inv X pins σ H s)(k:∀ b o,b≠it->b≠e->s.heap.get? b=some o->h'.get? b=some o)(f:jz X pins H it)(g:jz X pins H e):Inv X pins σ H {s with heap:=h',toks:=t'}:=by
 obtain⟨f0,f1,f2,f3,f4,f5⟩:=f;obtain⟨g0,g1,g2,g3,g4,g5⟩:=g;have nit:∀ b u,H b=some u->b≠it:=λ b u q z=>by rw[z,f0] at q;cases q
 have ne:∀ b u,H b=some u->b≠e:=λ b u q z=>by rw[z,g0] at q;cases q
 refine I.step (g':=s.gens) (d':=s.drawn) (ch:=[it,e]) (λ b hb=>?_) (λ b o _ _ hc q _=>k b o (λ z=>hc (by simp[z])) (λ z=>hc (by simp[z])) q) (λ b o _ _ hc q _=>⟨o.slots,k b o (λ z=>hc (by simp[z])) (λ z=>hc (by simp[z])) q⟩) (λ _ _ _ _ n=>n)
  (λ b o hc q=>⟨o,k b o (λ z=>hc (by simp[z])) (λ z=>hc (by simp[z])) q⟩) (λ _ _ q=>q) (λ _ _ _ q=>q) (λ b ps q=>⟨#[],by rw[q];simp⟩) (λ m hm=>?_) (λ b u q=>?_) I.bare
 ·have z:b=it\/b=e:=by simpa using hb
  rcases z with rfl | rfl
  ·exact⟨f3,f1,f4,f5⟩
  ·exact⟨g3,g1,g4,g5⟩
 ·obtain⟨o,es,ep,ho,r⟩:=hm;exact⟨o,es,ep,k _ o (Ne.symm f1) (Ne.symm g1) ho,r⟩
 ·refine(I.hok b u q).qx (λ c v hc z=>k c v ?_ ?_ z) (λ _ z=>z) λ _ _ z=>z
  ·rcases hc with z | z
   ·rw[z];exact nit b u q
   ·exact nit c _ z
  ·rcases hc with z | z
   ·rw[z];exact ne b u q
   ·exact ne c _ z
def Ite(K:FG)(a:Addr):It:=
 ⟨λ i H=>∃ xs x,SqL K H a xs/\xs[i]? =some x,λ i H x H'=>∃ T v,H T=none/\x=.ref T/\H'=upd H T (.tup [.int i,v])/\∀ xs,SqL K H a xs->xs[i]? =some v,λ i H=>∃ xs,SqL K H a xs/\xs.length<=i⟩
theorem vh{P:Program}{w:World}{K:FG}{elts:List Expr}{x1:Nat}{tpos:Pos}(a e it:Addr)(hne:e≠it) :
  Turn P w K (.Tuple elts x1 tpos) (Ite K a) [e,it] e (λ i h=>(∃ old,IsEnum h e it (i:Nat) old)/\h.IsListIter it a i) where
 mem:=by simp
 obj:=λ i h ⟨⟨old,st⟩,⟨oi,ei,ci,di⟩⟩ b hb=>by
  have z:b=e\/b=it:=by simpa using hb
  rcases z with rfl | rfl
  ·exact⟨_,st,λ v z=>by cases z⟩
  ·exact⟨oi,ei,λ v z=>by rw[di] at z;cases z⟩
 keep:=λ i h h' ⟨⟨old,st⟩,li⟩ k=>⟨⟨old,k e (by simp) _ st⟩,li.at λ o q=>k it (by simp) o q⟩
 item:=by
  intro X hP hw hK hc i pins s σ H E I hf ⟨⟨old,st⟩,li⟩ ⟨xs,x,hq,hx⟩;subst hP hw hK;have fe:=hf e (by simp);have fi:=hf it (by simp);obtain⟨its,rv,p,hz⟩:=I.list hq;obtain⟨u,hu,ru⟩:=rv.get hx;refine wpAny_pyNext_enum_item st li p.isList (x:=u) (by simpa using hu) hne λ h' st' li' ht hsz kp=>?_;refine⟨_,rfl,wpAny_letOwnedTupleGo_enum st' λ h'' st'' sb=>?_⟩;obtain⟨t0,t1,t2,t3,t4,t5⟩:=I.mB (Nat.le_refl _) (I.hok.fresh (Nat.le_refl _));have nT:s.heap.objs.size≠e:=Nat.ne_of_gt (Heap.lt_size st);have I1:Inv X pins σ H {s with heap:=h'',toks:=s.toks+1}:=Inv.adl I (λ b ob h1 h2 q=>(sb.2 b h2).trans (kp b ob h2 h1 q)) fi fe;have eT:h''.get? s.heap.objs.size=some {cls:=.type "tuple",data:=.seq #[.int (i:Nat) s.toks,u]}:=(sb.2 _ nT).trans ht;have I2:=Inv.yc (us:=[.int (i:Nat) s.toks,u]) (ys:=[.int i,x]) I1 eT t0 (.cons ⟨_,rfl⟩ (.cons ru .nil)) (by simp;have:=s16;omega) t3 t1 t4 t5;have li'':h''.IsListIter it a (i+1):=li'.at λ o q=>(sb.2 it hne.symm).trans q;have hit:it<s.heap.objs.size:=by obtain⟨oi,ei,_⟩:=li;exact Heap.lt_size ei
  refine⟨.ref s.heap.objs.size,_,I2,rfl,⟨_,x,t0,rfl,rfl,λ ys hy=>by rw[I.oB hy hq];exact hx⟩,⟨⟨_,st''⟩,li''⟩,λ b hb=>?_⟩;have z:b=e\/b=it:=by simpa using hb
  rcases z with rfl | rfl
  ·rw[aq nT.symm];exact fe.1
  ·rw[aq (Nat.ne_of_lt hit)];exact fi.1
 done:=by intro X hP hw hK hc i pins s σ H E I hf ⟨⟨old,st⟩,li⟩ ⟨xs,hq,hx⟩;subst hP hw hK;obtain⟨f0,f1,f2,f3,f4,f5⟩:=hf it (by simp);obtain⟨its,rv,p,hz⟩:=I.list hq;have hl:=rv.length;exact wpAny_pyNext_enum_end (I.ok.hd hc) st li p.isList (by simp;omega) λ h' eb=>⟨rfl,I.turned (t':=s.toks) (λ b o hb q=>eb b o hb q) f0 f1 f3 f4 f5⟩
 self:=λ _ _ _ _ _ ⟨⟨old,st⟩,li⟩ h=>wpAny_pyIter_enum st h
theorem oQ:bootBuiltins "enumerate" = some (.type "enumerate"):=by decide +kernel
def ahk(K:FG)(ta:TA):TI:=λ σ H R=>ta σ H λ vs H1=>∃ b xs,vs=[.ref b]/\SqL K H1 b xs/\R (Ite K b) H1
theorem acd{elts:List Expr}{x1:Nat}{tpos:Pos}(hg:Gl X "enumerate")(hm:X.mg "enumerate" = none)(ha:PA X [a] ta)(hs:starEach [a] X.env=[(false,eval a X.env)]:=by rfl) :
  PI X (.Tuple elts x1 tpos) (.Call (.Name "enumerate" p) [a] [] pos) (ahk X.K ta):=by
 intro pins s σ H R I h;refine Call_ (jg I hg hm oQ (PyProof.Rows.callWith_type1 (thn (ha pos pins s σ H _ I h) λ us s1 ⟨vs,H1,I1,r1,q1⟩=>?_) hs rfl));obtain⟨b,xs,e,hq,q⟩:=q1;subst e;cases r1 with
 | cons r rr =>
  cases rr;cases (show _=Value.ref b from r);obtain⟨its,rv,pl,hz⟩:=I1.list hq;refine call_enumerate_list pl.isList λ h' st li hsz kp=>?_;have I2:Inv X pins σ H1 {s1 with heap:=h'}:=I1.kept (t':=s1.toks) kp;refine wpAny_pyIter_enum st ?_;refine⟨_,[_,_],_,_,H1,rfl,I2,vh b _ _ (Nat.succ_ne_self _),⟨⟨_,st⟩,li⟩,λ c hc=>?_,q⟩;have z:c=s1.heap.objs.size+1\/c=s1.heap.objs.size:=by simpa using hc
  rcases z with rfl | rfl
  ·exact I1.mB (Nat.le_succ _) (I1.hok.fresh (Nat.le_succ _))
  ·exact I1.mB (Nat.le_refl _) (I1.hok.fresh (Nat.le_refl _))
def nE(ds:List PyData):List W:=(List.range ds.length).map λ i=>.d (.tuple [.int (i:Nat),ds.getD i .none])
def agm(t:TAd)(τ:DS)(M:MH)(R:List W->MH->Prop):Prop:=t τ M λ ws M1=>∃ ds,ws=[.d (.list ds)]/\R (nE ds) M1
theorem afs:bootBuiltins "sum" = some (.builtin "sum"):=by decide +kernel
theorem tm:bootBuiltins "min" = some (.builtin "min"):=by decide +kernel
theorem qO(f:Nat->Int)(k:Nat):preSum f (k+1)=preSum f k+f k:=rfl
theorem gV(ps:List (Int×Tok)):∀ k,k<=ps.length->preSum (numAt ps.toArray) k=((ps.map (·.1)).take k).sum
 | 0,_=>by simp[preSum]
 | k+1,h=>by
  rw[qO,gV ps k (by omega),List.take_succ,List.sum_append];have hk:k<ps.length:=by omega
  simp[numAt,List.getElem?_eq_getElem hk]
theorem sum_bound:∀ (ns:List Int),(∀ n∈ns,0<=n/\n<=1000000)->0<=ns.sum/\ns.sum<=1000000 * ns.length
 | [],_=>by simp
 | n::ns,h=>by have h1:=h n (by simp);have h2:=sum_bound ns λ x hx=>h x (by simp[hx]);simp only[List.sum_cons,List.length_cons];omega
section
variable {X:Cx}{K:FG}
theorem xg(hc:X.calm=true):eP X (.builtin "sum") (λ xs H Q=>∃ p,∃ ns:List Int,xs=[.ref p]/\SqL X.K H p (ns.map V.int)/\ns.length<=1000/\(∀ n∈ns,0<=n/\n<=1000000)/\Q (.int ns.sum) H):=by
 intro pins s σ H xs us Q I r h;obtain⟨p,ns,rfl,hq,hlen,hb,q⟩:=h;obtain⟨u,rfl,rx⟩:=vals1 r;cases rx;obtain⟨its,rv,pl,hz⟩:=I.list hq;obtain⟨ps,e1,e2⟩:=n6 rv;subst e1;have hl:s.heap.IsList p (intItems ps.toArray):=by
  have e:(ps.map λ p=>Value.int p.1 p.2).toArray=intItems ps.toArray:=by simp[intItems]
  rw[<- e];exact pl.isList
 have hpl:ps.length=ns.length:=by rw[<- e2,List.length_map]
 refine sum_intList (I.ok.hd hc) hl (λ j hj=>?_) λ h' tk t' kk=>?_
 ·have hj':j<ps.length:=by simpa using hj
  have hn:numAt ps.toArray j=(ps[j]).1:=by simp[numAt,List.getElem?_eq_getElem hj']
  have hm:(ps[j]).1∈ns:=by rw[<- e2];exact List.mem_map.mpr ⟨_,List.getElem_mem hj',rfl⟩
  have b1:=hb _ hm;have b2:=sum_bound (ns.take (j+1)) λ n hn=>hb n (List.mem_of_mem_take hn);rw[List.length_take] at b2;refine⟨by rw[hn];exact⟨by omega,by omega⟩,?_⟩;rw[gV ps (j+1) (by omega),e2];exact⟨by omega,by omega⟩
 ·refine⟨.int _,H,I.kept kk,⟨_,rfl⟩,?_⟩;have:preSum (numAt ps.toArray) ps.toArray.size=ns.sum:=by rw[List.size_toArray,gV ps ps.length (Nat.le_refl _),e2,hpl,List.take_length]
  rw[this];exact q
def aeH(ws:List W)(M:MH)(Q:QD):Prop:=∃ w,∃ ns:List Int,ws=[w]/\abr M w (ns.map PyData.int)/\ns.length<=1000/\(∀ n∈ns,0<=n/\n<=1000000)/\Q (.d (.int ns.sum)) M
theorem aek:fT K (λ xs H Q=>∃ p,∃ ns:List Int,xs=[.ref p]/\SqL K H p (ns.map V.int)/\ns.length<=1000/\(∀ n∈ns,0<=n/\n<=1000000)/\Q (.int ns.sum) H) aeH:=by intro vs H ws M Qd Q r m ⟨w,ns,e,g,hl,hb,q⟩ k;subst e;obtain⟨v,e1,r1⟩:=e9 r;obtain⟨p,ys,ev,hs,ra⟩:=g.sound r1 m;have ey:=qi ra;subst ev ey;exact⟨p,ns,e1,hs,hl,hb,k _ H (.d (.int _)) M (Kp.refl H) (by simp[aE,aA]) m q⟩
def wL(ws:List W)(M:MH)(Q:QD):Prop:=∃ i j,ws=[.d (.int i),.d (.int j)]/\Q (.d (.int (if j<i then j else i))) M
theorem vE:fT K (λ xs H Q=>∃ i j,xs=[V.int i,V.int j]/\Q (V.int (if j<i then j else i)) H) wL:=by intro vs H ws M Qd Q r m ⟨i,j,e,q⟩ k;subst e;obtain⟨v,v',e1,r1,r2⟩:=sD r;simp only[aE,aA] at r1 r2;subst r1 r2;exact⟨i,j,e1,k _ H (.d (.int _)) M (Kp.refl H) (by simp[aE,aA]) m q⟩
end
end D
namespace Rc
open L2 D
section
variable {α:Type}(nm:α->Str)
def rk(g:α->PyData)(L:List α):List (Key×PyData):=L.map λ a=>(.inr (nm a),g a)
def fd(L:List α)(n:Str):Option α:=L.find? λ a=>decide (nm a=n)
def pt(L:List α)(z:α):List α:=match fd nm L (nm z) with
 | none=>L++[z]
 | some _=>L.map λ y=>if nm y=nm z then z else y
variable {nm}
end
mutual
def okD:Nat->PyData->Bool
 | _,.none=>true
 | _,.bool _=>true
 | _,.int i=>decide (i.natAbs<2 ^ 100)
 | _,.str z=>uN z
 | k+1,.list ds=>okA k ds
 | k+1,.tuple ds=>okA k ds
 | _,_=>false
def okA:Nat->List PyData->Bool
 | _,[]=>true
 | k,d::ds=>okD k d&&okA k ds
end
theorem aaH:∀ {ds:List PyData},(∀ d∈ds,okD k d=true)->okA k ds=true
 | [],_=>by simp[okA]
 | d::ds,h=>by simp only[okA,Bool.and_eq_true];exact⟨h d (by simp),aaH λ x hx=>h x (by simp[hx])⟩
theorem tf(h:uN z=true):Asc z:=dq h
theorem xH(h:Asc z):PyData.strOk z=true:=by
 unfold PyData.strOk;rw[Array.all_eq_true_iff_forall_mem];intro c hc;exact decide_eq_true (by have:=h c (by simpa using hc);omega)
theorem acH(h:uN z=true):PyData.strOk z=true:=xH (tf h)
mutual
theorem wQ:∀ (k:Nat) (d:PyData),okD k d=true->PyData.canLay0 d=true
 | _,.none,_=>by simp[PyData.canLay0]
 | _,.bool _,_=>by simp[PyData.canLay0]
 | _,.int i,h=>by simp[PyData.canLay0]
 | _,.str z,h=>by
  cases ‹Nat› <;> simp only[okD] at h<;>simp[PyData.canLay0,acH h]
 | k+1,.list ds,h=>by simp only[okD] at h;simp only[PyData.canLay0];exact rF k ds h
 | k+1,.tuple ds,h=>by simp only[okD] at h;simp only[PyData.canLay0];exact rF k ds h
 | 0,.list ds,h=>by simp[okD] at h
 | 0,.tuple ds,h=>by simp[okD] at h
 | k,.dict kvs,h=>by cases k<;>simp[okD] at h
theorem rF:∀ (k:Nat) (ds:List PyData),okA k ds=true->PyData.canLayAll0 ds=true
 | _,[],_=>by simp[PyData.canLayAll0]
 | k,d::ds,h=>by simp only[okA,Bool.and_eq_true] at h;simp only[PyData.canLayAll0,wQ k d h.1,rF k ds h.2,Bool.and_self]
end
mutual
theorem sF:∀ (k:Nat) (d:PyData),okD k d=true->PyData.depth d<=k+1
 | _,.none,_=>by simp[PyData.depth]
 | _,.bool _,_=>by simp[PyData.depth]
 | _,.int i,h=>by simp[PyData.depth]
 | _,.str z,h=>by simp[PyData.depth]
 | k+1,.list ds,h=>by simp only[okD] at h;have:=kL k ds h;simp only[PyData.depth];omega
 | k+1,.tuple ds,h=>by simp only[okD] at h;have:=kL k ds h;simp only[PyData.depth];omega
 | 0,.list ds,h=>by simp[okD] at h
 | 0,.tuple ds,h=>by simp[okD] at h
 | k,.dict kvs,h=>by cases k<;>simp[okD] at h
theorem kL:∀ (k:Nat) (ds:List PyData),okA k ds=true->PyData.depthAll ds<=k+1
 | _,[],_=>by simp[PyData.depthAll]
 | k,d::ds,h=>by simp only[okA,Bool.and_eq_true] at h;have h1:=sF k d h.1;have h2:=kL k ds h.2;simp only[PyData.depthAll];omega
end
mutual
theorem aaL:∀ (k:Nat) (d:PyData),okD k d=true->PyData.hasDict d=false
 | _,.none,_=>by simp[PyData.hasDict]
 | _,.bool _,_=>by simp[PyData.hasDict]
 | _,.int i,h=>by simp[PyData.hasDict]
 | _,.str z,h=>by simp[PyData.hasDict]
 | k+1,.list ds,h=>by simp only[okD] at h;simp only[PyData.hasDict];exact rR k ds h
 | k+1,.tuple ds,h=>by simp only[okD] at h;simp only[PyData.hasDict];exact rR k ds h
 | 0,.list ds,h=>by simp[okD] at h
 | 0,.tuple ds,h=>by simp[okD] at h
 | k,.dict kvs,h=>by cases k<;>simp[okD] at h
theorem rR:∀ (k:Nat) (ds:List PyData),okA k ds=true->PyData.hasDictAll ds=false
 | _,[],_=>by simp[PyData.hasDictAll]
 | k,d::ds,h=>by simp only[okA,Bool.and_eq_true] at h;simp only[PyData.hasDictAll,aaL k d h.1,rR k ds h.2,Bool.or_self]
end
theorem fA(hk:k<=50)(h:okD k d=true):lA d=true:=by have h1:=wQ k d h;have h2:=sF k d h;have h3:=aaL k d h;simp only[lA,SeqAt.shaped,h1,h3,Bool.true_and,Bool.not_false,Bool.and_true];exact decide_eq_true (by omega)
theorem acY(h:okD k d=true):PyData.eqv d d=true:=SeqAt.eqv_refl _ (wQ k d h)
theorem qL:∀ {ds:List PyData},(∀ d∈ds,big d<=c)->yX ds<=ds.length * (c+2)
 | [],_=>by simp[yX]
 | d::ds,h=>by have h1:=h d (by simp);have h2:=qL (ds:=ds) λ x hx=>h x (by simp[hx]);simp only[yX,List.length_cons];rw[Nat.add_mul];omega
theorem tu(x y:Str):PyData.eqv (.str x) (.str y)=decide (x=y):=by
 rw[<- sd]
 by_cases e:x=y
 ·subst e;simp
 ·simp[e]
theorem cG(x y:Int):PyData.eqv (.int x) (.int y)=decide (x=y):=by
 rw[PyData.eqv]
 by_cases e:x=y
 ·subst e;simp
 ·simp[e]
theorem agX{M:MH}{a b:Addr}{o u:MO}(ha:M a=some o)(hb:M b=some u)(h:o≠u):a≠b:=λ e=>h (by rw[e,hb] at ha;exact(Option.some.inj ha).symm)
theorem bC{M:MH}{a b:Addr}{o:MO}(ha:M a=some o)(hb:M b=none):a≠b:=λ e=>by rw[e,hb] at ha;cases ha
theorem cu{M:MH}{a b:Addr}{o u:MO}(h:M a=some o)(hb:M b=none):bf M b u a=some o:=by rw[aj (bC h hb)];exact h
theorem tQ(h:M d=some y):bf (bf M d x) d y=M:=by
 rw[hZ];funext q
 by_cases e:q=d
 ·rw[e,ag,h]
 ·rw[aj e]
end Rc
namespace Stc
open L2 D Rc
theorem ab3(h0:0<=r)(h1:r<ds.length):∃ d,ixW M (.d (.list ds)) r=some (.d d)/\d∈ds:=by
 have hn:r.toNat<ds.length:=by omega
 refine⟨ds[r.toNat],?_,List.getElem_mem hn⟩;simp only[ixW,atI,vP h0 h1,Option.bind_some,List.getElem?_eq_getElem hn,Option.map_some]
theorem pN{ns:List Int}{r:Int}(h0:0<=r)(h1:r<ns.length):∃ i,ixW M (.d (.list (ns.map PyData.int))) r=some (.d (.int i))/\i∈ns:=by obtain⟨d,e,hd⟩:=ab3 (M:=M) (ds:=ns.map PyData.int) h0 (by simpa using h1);obtain⟨i,hi,rfl⟩:=List.mem_map.mp hd;exact⟨i,e,hi⟩
theorem abI(h:Bag M p):∃ o,M p=some o:=by obtain⟨a,b,c,ns,e,_⟩:=h;exact⟨_,e⟩
theorem fD(h:Bag M p)(e:M' p=M p):Bag M' p:=by obtain⟨a,b,c,ns,h1,h2⟩:=h;exact⟨a,b,c,ns,e.trans h1,h2⟩
end Stc
namespace D
open L2
section
variable {K:FG}
def ad8(di:TId)(g:TGd)(tt:TTd)(te:TD)(k:Nat)(fr:List Nat)(τ:DS)(M:MH)(Q:QD):Prop:=di τ M λ ws M1=>∃ P:Nat->List PyData->DS->MH->Prop,P 0 [] (adj k fr τ) M1 /\
 (∀ i w acc τ M,ws[i]? =some w->P i acc τ M->acc.length<sizeLine/\g w τ M λ τ2 M2=>tt τ2 M2 λ b M3=>if b=true then te τ2 M3 λ y M4=>∃ d,y=.d d/\P (i+1) (acc++[d]) τ2 M4 else P (i+1) acc τ2 M3) /\
 ∀ acc τ M,P ws.length acc τ M->∀ p,M p=none->Q (.m p) (bf M p (.lst (acc.map W.d)))
theorem ady(h:up K (ad8 di g tt te k fr) σ H Q) :
  tLC (upI K di) (upG K g) (upT K tt) (up K te) k fr σ H Q:=by
 obtain⟨τ,M,Qd,A,h,kk⟩:=h;refine⟨τ,M,_,A,h,λ J H1 ws M1 kp m1 it hq81=>?_⟩;obtain⟨P,p0,pt,pe⟩:=hq81;refine⟨λ i n ys σ' H'=>n=ws.length-i/\i<=ws.length/\Kp H1 H'/\∃ acc τ M,a9 K H' acc ys/\Abs K H' σ' τ M/\P i acc τ M,⟨ws.length,by simp,Nat.zero_le _,Kp.refl _,[],_,M1,by simp[a9],tL (A.go kp m1) k fr,p0⟩,?_⟩;rintro i n ys σ2 H2 ⟨rfl,hi,kp2,acc,τ2,M2,ra,A2,p2⟩;obtain⟨go,stop,yld⟩:=it H2 kp2 i
 by_cases hlt:i<ws.length
 ·have hlen:=ra.length;refine .inr ⟨go hlt,?_,λ x H3 y=>?_⟩
  ·obtain⟨w,hw⟩:∃ w,ws[i]? =some w:=⟨ws[i],by simp[hlt]⟩;have:=(pt i w acc τ2 M2 hw p2).1;omega
  obtain⟨kp3,mk,w,ew,rw⟩:=yld x H3 hlt y;refine⟨w,τ2,M2,_,rw,A2.go kp3 (mk _ A2.mem),(pt i w acc τ2 M2 ew p2).2,λ σ4 H4 τ4 M4 kp4 A4 q4=>⟨τ4,M4,_,A4,q4,λ b H5 M5 kp5 m5 q5=>?_⟩⟩;have kq:=(kp3.trans kp4).trans kp5;cases b with
  | false =>
   rw[if_neg Bool.false_ne_true] at q5;show(if false=true then _ else _);rw[if_neg Bool.false_ne_true];exact⟨ws.length-(i+1),by omega,rfl,hlt,kp2.trans kq,acc,τ4,M5,ra.keep kq,A4.go kp5 m5,q5⟩
  | true =>
   rw[if_pos rfl] at q5;show(if true=true then _ else _);rw[if_pos rfl];refine⟨τ4,M5,_,A4.go kp5 m5,q5,λ v H6 wv M6 kp6 r6 m6 hq82=>?_⟩;obtain⟨d,e6,q6⟩:=hq82;subst e6;refine⟨ws.length-(i+1),by omega,rfl,hlt,kp2.trans (kq.trans kp6),acc++[d],τ4,M6,a9.append (ra.keep (kq.trans kp6)) ?_,A4.go (kp5.trans kp6) m6,q6⟩;simp only[a9];exact⟨v,[],rfl,r6,rfl⟩
 ·have hl:i=ws.length:=by omega
  subst hl;refine .inl ⟨stop (Nat.le_refl _),λ p hp=>?_⟩;have kp9:Kp H2 (upd H2 p (.lst ys)):=Kp.new hp;exact kgo kk (kp.trans kp2) _ _ (.m p) _ kp9 rfl (A2.mem.put (mo:=.lst (acc.map W.d)) kp9 ⟨_,au,(ra.keep kp9).ws⟩) (pe acc τ2 M2 p2 p (A2.mem.free hp))
variable {X:Cx}{sc:Scope}{own:List Str}{fr:List Nat}{di:TId}{g:TGd}{tt:TTd}{te:TD}{tg iter elt:Expr}{ifs:List Expr}{pos:Pos}
end
section
variable {X:Cx}{K:FG}
end
def aeR(to:TE):TE:=λ σ H Q=>to σ H λ x H1=>∃ a kvs,x=.ref a/\Rd H1 a (.dK kvs)/\∀ v,H1 v=none->Q (.ref v) (upd H1 v (.ext λ h=>h.IsValuesView v a))
theorem abV(ho:PE X o to)(hbase:attributeBase o "values" X.env (eval o X.env)=eval o X.env:=by rfl)(hline:(apos.endLine==cpos.line)=true:=by rfl):PE X (.Call (.Attribute o "values" apos) [] [] cpos) (aeR to):=by
 intro pins s σ H Q I h;refine wpAny_Call_method0_late hbase hline (thn (ho pins s σ H _ I h) λ v s1 hq83=>?_);obtain⟨x,H1,I1,r1,a,kvs,ex,hr,q⟩:=hq83;subst ex;cases r1;obtain⟨hsz,hsys,vs,rel,oo,es,ep,hd⟩:=hr.ok I1.hok;have dd:s1.heap.DictOf (ba X.prog X.w) a vs:=⟨oo,es,ep,hd⟩;have hnd:∀ b,Value.ref a=.ref b->∃ ob,s1.heap.get? b=some ob/\ob.dict=none:=λ b e=>by
  cases e;exact⟨oo,hd.1,hd.2.1.2.1⟩
 refine⟨"dict", "dict.values",PySem.F.plainAttrs_dict,PySem.F.slot_dict_values,PySem.F.type_dict_values,dd.typeIs,hnd,Calls.callWith_builtin rfl (PySem.evalArgs_none ?_)⟩;refine call_meetsIn PySem.F.slot_dict_values dd.typeIs PySem.F.entry_dict_values (PySem.F.args_dict_values_1 _) (meets_dict_values (ba X.prog X.w) a hsys) ⟨⟨vs,dd⟩,?_⟩;have hv:(s1.heap.push {cls:=.type "dict_values",data:=.fields #[.ref a]}).get? s1.heap.objs.size=some {cls:=.type "dict_values",data:=.fields #[.ref a]}:=Heap.get?_push_size _ rfl;refine⟨.ref _,_,I1.laid (a:=s1.heap.objs.size) (o:=.ext λ h=>h.IsValuesView s1.heap.objs.size a) (t':=s1.toks) (λ b ob e=>Heap.get?_push_of_some _ e) (Nat.le_refl _) ⟨⟨_,hv,rfl,rfl⟩,⟨_,hv⟩,λ h1 h2 ⟨ob,e1,e2⟩ k=>⟨ob,k ob e1,e2⟩⟩,rfl,q _ (I1.hok.fresh (Nat.le_refl _))⟩
theorem fY:∀ {ns:List Int} {kvs:List (Key×V)} {vs:List (Key×Value)} {us:List Value},KV kvs vs->kvs.map (·.2)=ns.map V.int->us.length=vs.length->(∀ (i:Nat) v,us[i]? =some v->∃ k,vs[i]? =some (k,v))->IntsAre us ns
 | [],kvs,vs,us,r,h,hl,hp=>by
  have e:kvs=[]:=by simpa using h
  subst e;cases r;have e:us=[]:=by simpa using hl
  subst e;exact .nil
 | n::ns,kvs,vs,us,r,h,hl,hp=>by
  match kvs,us,r,h,hl,hp with
  | (k,x)::kvs,u::us,.cons (b:=b) r1 r2,h,hl,hp =>
   simp only[List.map_cons,List.cons.injEq] at h;obtain⟨k',e⟩:=hp 0 u rfl;simp at e;have hx:=r1.2;rw[h.1,e] at hx;obtain⟨t,et⟩:=(show ∃ t,u=Value.int n t from hx);subst et;exact .cons n t (fY r2 h.2 (by simpa using hl) λ i v hi=>by simpa using hp (i+1) v (by simpa using hi))
  | [],_,r,h,_,_=>simp at h
  | _::_,[],.cons _ _,_,hl,_=>simp at hl
def qP(ns:List Int):List W:=ns.map λ n=>.d (.int n)
theorem wH{K:FG}{H:Hp}:∀ {ns:List Int} {kvs:List (Key×W)} {l:List (Key×V)},kvs.map (·.2)=qP ns->Paired (λ(p:Key×W) (q:Key×V)=>p.1=q.1/\aE K H p.2 q.2) kvs l->l.map (·.2)=ns.map V.int
 | [],kvs,l,h,pr=>by
  have e:kvs=[]:=by simpa [qP] using h
  subst e;cases pr;rfl
 | n::ns,kvs,l,h,pr=>by
  match kvs,pr,h with
  | (k,x)::kvs,.cons r t,h =>
   simp only[qP,List.map_cons,List.cons.injEq] at h;have hx:=r.2;rw[h.1] at hx;simp only[aE,aA] at hx;rw[List.map_cons,hx,wH h.2 t];rfl
  | [],_,h=>simp[qP] at h
theorem v7(hg:Gl X "enumerate")(hm:X.mg "enumerate" = none)(ha:Jd (PAd X [a] t))(h1:eh a=false:=by rfl):Jd (PId X (.Tuple elts x1 tpos) (.Call (.Name "enumerate" p) [a] [] pos) (agm t)):=⟨have ha:=ha.h;adt (acd hg hm ha (by rw[bN a [] X.env h1];rfl)) λ σ H R hq78=>by
 obtain⟨τ,M,Rd,A,h,k⟩:=hq78;refine⟨τ,M,_,A,h,λ vs H1 ws M1 kp r m hq79=>?_⟩;obtain⟨ds,ew,q⟩:=hq79;subst ew;obtain⟨v,ev,r1⟩:=e9 r;simp only[aE,aA] at r1;obtain⟨b,xs,e1,hs,ra⟩:=r1;subst ev e1;have hl:=ra.length;refine⟨b,xs,rfl,hs.sq,k _ H1 _ M1 kp m (λ H2 kp2 i=>?_) q⟩;have hs2:=(hs.keep kp2).sq;have hlw:(nE ds).length=xs.length:=by simp[nE,hl]
 refine⟨λ hi=>⟨xs,xs[i]'(by omega),hs2,by simp⟩,λ hi=>⟨xs,hs2,by omega⟩,λ x H' hi hq80=>?_⟩;obtain⟨T,v,hT,ex,eH,hv⟩:=hq80;subst ex eH;have hxv:=hv xs hs2;obtain⟨d,e3,rd⟩:=(ra.keep kp2).get' hxv;have kpn:Kp H2 (upd H2 T (.tup [.int i,v])):=Kp.new hT;have hid:i<ds.length:=by rw[hlw] at hi;omega
 refine⟨kpn,λ M m=>m.new hT,.d (.tuple [.int (i:Nat),ds.getD i .none]),by simp[nE,hid],?_⟩;have ed:ds.getD i .none=d:=by simp[List.getD,e3]
 rw[ed];simp only[aE,aA,a9];exact⟨T,_,rfl,.inl (.inl au),_,_,rfl,rfl,_,_,rfl,rd.keep kpn,rfl⟩⟩
structure aif(K:FG)(x qual:Str)(st:Stmt)(f:Addr)(fd:FuncData):Prop where
 ex:∃ (oc:Value) (od:Option Addr) (dV kV doc pm:Value) (an:Option Addr) (cdv ct:Value) (osl:Array (Option Value)),
  fd=W.fnOf x qual (aN st) (aG st) (ai st) dV kV doc pm an cdv ct/\K.lookup f=some ⟨oc,od,.func fd,osl⟩/\W.codeIn K cdv qual=true
 kp:W.keepIn K (.ref f)=true
section
variable {P:Program}{w:World}{K:FG}{mg:Str->Option Value}{base h:Heap}
end
theorem Inv.xt{t':Nat}{ch:List Addr}(I:Inv X pins σ H s)(k:∀ b o,b ∉ ch->s.heap.get? b=some o->h'.get? b=some o)(f:∀ b∈ch,jz X pins H b):Inv X pins σ H {s with heap:=h',toks:=t'}:=by
 have nin:∀ b u,H b=some u->b ∉ ch:=λ b u q z=>by rw[(f b z).1] at q;cases q
 refine I.step (g':=s.gens) (d':=s.drawn) (ch:=ch) (λ b hb=>?_) (λ b o _ _ hc q _=>k b o hc q) (λ b o _ _ hc q _=>⟨o.slots,k b o hc q⟩) (λ _ _ _ _ n=>n)
  (λ b o hc q=>⟨o,k b o hc q⟩) (λ _ _ q=>q) (λ _ _ _ q=>q) (λ b ps q=>⟨#[],by rw[q];simp⟩) (λ m hm=>?_) (λ b u q=>?_) I.bare
 ·obtain⟨f0,f1,f2,f3,f4,f5⟩:=f b hb;exact⟨f3,f1,f4,f5⟩
 ·obtain⟨o,es,ep,ho,r⟩:=hm;exact⟨o,es,ep,k _ o (λ z=>(f _ z).2.1 rfl) ho,r⟩
 ·refine(I.hok b u q).qx (λ c v hc z=>k c v ?_ z) (λ _ z=>z) λ _ _ z=>z;rcases hc with z | z
  ·rw[z];exact nin b u q
  ·exact nin c _ z
theorem afp:bootBuiltins "zip" = some (.type "zip"):=by decide +kernel
def zD(ds es:List PyData):List W:=(List.range (min ds.length es.length)).map λ i=>.d (.tuple [ds.getD i .none,es.getD i .none])
def abt(c:TTd)(tb:TSd)(D:Ed)(τ:DS)(M:MH):Prop:=∃ P:Nat->DS->MH->Prop,(∃ m,P m τ M)/\∀ m τ M,P m τ M ->
 c τ M λ b M1=>if b=true then tb {D with nx:=λ τ' M'=>∃ m',m'<m/\P m' τ' M',ct:=λ τ' M'=>∃ m',m'<m/\P m' τ' M',bk:=D.nx} τ M1 else D.nx τ M1
end D
open L2 D
theorem um(hp:PassesOwn (model X.prog X.w) X.A X.env X.xe)(hc:Jd (PTd X c tc))(hb:Jd (lp X body tb)):Jd (PSd X (.While c body [] pos) (abt tc tb)):=⟨have hc:=hc.h;have hb:=hb.h;
 qH (aaA hp hc hb) λ D σ H hq84=>by
  obtain⟨τ,M,Dd,A,⟨P,⟨m0,p0⟩,step⟩,k1,k2,k3,k4⟩:=hq84;refine⟨λ m σ' H'=>Kp H H'/\∃ τ' M',Abs X.K H' σ' τ' M'/\P m τ' M',⟨m0,Kp.refl _,τ,M,A,p0⟩,?_⟩;rintro m σ1 H1 ⟨kp,τ1,M1,A1,p1⟩;refine⟨τ1,M1,_,A1,step m τ1 M1 p1,λ b H2 M2 kp2 m2 q=>?_⟩;have kq:=kp.trans kp2;cases b with
  | false =>
   rw[if_neg Bool.false_ne_true] at q;exact ik (k1 _ H2 _ M2 kq (A1.go kp2 m2) q)
  | true =>
   rw[if_pos rfl] at q;refine fo ⟨λ σ' H'=>Kp H2 H'/\∃ m',m'<m/\∃ τ' M',Abs X.K H' σ' τ' M'/\P m' τ' M',λ σ' H' ⟨kp3,m',hm,τ',M',A',p'⟩=>⟨m',hm,kq.trans kp3,τ',M',A',p'⟩,?_⟩;exact⟨τ1,M2,_,A1.go kp2 m2,q,λ σ3 H3 τ3 M3 kp3 A3 ⟨m',hm,p'⟩=>⟨kp3,m',hm,τ3,M3,A3,p'⟩,λ v H3 w M3 kp3=>k2 v H3 w M3 (kq.trans kp3),λ σ3 H3 τ3 M3 kp3=>k1 σ3 H3 τ3 M3 (kq.trans kp3),λ σ3 H3 τ3 M3 kp3 A3 ⟨m',hm,p'⟩=>⟨kp3,m',hm,τ3,M3,A3,p'⟩⟩⟩
namespace Stc
open L2 D Rc
abbrev iu:List Str:=["thing"]
def jZ:TSd:=
  bz (dIf (dOr (sk (aW (dCB gA (ah (ar 0) (ah (dC (.t "str")) (aI)))))) (sk (aW (fH qA qA (dC (.d (.int 1))) (dCB iX (ah (ar 0) (aI))) (dC (.d (.int 8)))))))
   (eA (dC (.d (.bool false))))
   (dn)) <|
  eA (dCB za (ah (dLC (dh (ar 0)) (gN 0) (oJ) (fH qA qA (dC (.d (.str "a"))) (ar 0) (dC (.d (.str "z")))) 1 []) (aI)))
abbrev iN:List Str:=["thing"]
def iJ:TSd:=
  eA (mZ (dCB gA (ah (ar 0) (ah (dC (.t "int")) (aI)))) (zc (dCB gA (ah (ar 0) (ah (dC (.t "bool")) (aI))))))
abbrev gG:List Str:=["thing", "low", "high"]
def gD(bM:SpD):TSd:=
  eA (mZ (bO bM (ah (ar 0) (aI))) (fH qA qA (ar 1) (ar 0) (ar 2)))
def Ext(M M':MH):Prop:=∀ q o,M q=some o->M' q=some o
theorem Ext.trans(h:Ext A B)(k:Ext B C):Ext A C:=λ q o e=>k q o (h q o e)
theorem Ext.new(h:M p=none):Ext M (bf M p o):=λ q u e=>cu e h
theorem Ext.del(h:Ext M M')(hp:M p=none):Ext M (pf M' p):=λ q u e=>by have hq:q≠p:=bC e hp;simp only[pf,if_neg hq];exact h q u e
theorem Ext.none(h:Ext M M')(hp:M' p=none):M p=none:=by
 cases e:M p with
 | none=>rfl
 | some o=>rw[h p o e] at hp;cases hp
theorem Ext.bag(h:Ext M M')(hb:Bag M p):Bag M' p:=by obtain⟨a,b,c,ns,e,z⟩:=hb;exact⟨a,b,c,ns,h _ _ e,z⟩
theorem qR{α:Type}{gt:TGd}{te:TD}{Q:List PyData->DS->MH->Prop}{τ0:DS}{M:MH}(L:List α)(g:α->W)(f:α->PyData)(S:DS->Prop)(hL:L.length<=1000)(h0:S τ0)
  (step:∀ a∈L,∀ τ,S τ->∀ R:PyData->DS->MH->Prop,(∀ τ2,S τ2->R (f a) τ2 M)->gt (g a) τ M λ τ2 M2=>te τ2 M2 λ y M4=>∃ d,y=.d d/\R d τ2 M4)
  (q:∀ τ,Q (L.map f) τ M) :
  ∃ P:Nat->List PyData->DS->MH->Prop,P 0 [] τ0 M /\
   (∀ i w acc τ M,(L.map g)[i]? =some w->P i acc τ M->acc.length<sizeLine/\gt w τ M λ τ2 M2=>oJ τ2 M2 λ b M3=>if b=true then te τ2 M3 λ y M4=>∃ d,y=.d d/\P (i+1) (acc++[d]) τ2 M4 else P (i+1) acc τ2 M3) /\
   ∀ acc τ M,P (L.map g).length acc τ M->Q acc τ M:=by
 refine⟨λ i acc τ M'=>M'=M/\acc=(L.take i).map f/\S τ,⟨rfl,rfl,h0⟩,?_,?_⟩
 ·rintro i w acc τ M' hw ⟨rfl,rfl,hs⟩;rw[List.getElem?_map] at hw;cases e:L[i]? with
  | none=>rw[e] at hw;cases hw
  | some a =>
   rw[e] at hw;cases hw;have hi:=(List.getElem?_eq_some_iff.mp e).1;refine⟨by rw[List.length_map,List.length_take];have:=s16;omega,?_⟩;refine step a (List.mem_of_getElem? e) τ hs (λ d τ2 M4=>M4=M'/\(L.take i).map f++[d]=(L.take (i+1)).map f/\S τ2) λ τ2 h2=>⟨rfl,?_,h2⟩;rw[List.take_succ,e];simp
 ·rintro acc τ M' ⟨rfl,rfl,hs⟩;rw[List.length_map,List.take_length];exact q τ
abbrev Dm:=List (Str×Int)
def gI(r:Str×Int):PyData:=.int r.2
def Dc(M:MH)(a:Addr)(D:Dm):Prop:=M a=some (.dic (kD (rk Prod.fst gI D)))
def val(D:Dm)(k:Str):Int:=((fd Prod.fst D k).map (·.2)).getD 0
def more(D:Dm)(k:Str)(n:Int):Dm:=pt Prod.fst D (k,val D k+n)
def vals(D:Dm):List Int:=D.map λ r=>r.2
def dsc(ns:List Int):List Int:=ns.mergeSort λ a b=>decide (a >= b)
def room(rs:List Int)(i:Int):Int:=(rs.map λ m=>if i<m then i else m).sum
def ajd(rs:List Int)(ns:List Int):Bool:=(List.range ns.length).all λ i=>decide ((ns.take (i+1)).sum<=room rs ((i:Int)+1))
def ai2(rs:List Int)(D:Dm):Bool:=ajd rs (dsc (vals D))
def OkR(rs:List Int):Prop:=rs.length<=8/\∀ m∈rs,0<=m/\m<=6
def gr(rs:List Int)(D:Dm)(k:Str):Nat->Int
 | 0=>0
 | n+1=>if ai2 rs (more D k ((n:Int)+1))=true then (n:Int)+1 else gr rs D k n
theorem sealed(hl:M l=none):Ext M (pf (bf M l o) l):=(Ext.new hl).del hl
abbrev Bs:=List (Str×Int)
abbrev As:=List (Str×Str×Int)
def rooms(B:Bs):List Int:=B.map (·.2)
theorem fG{α β:Type}{L:List α}{f:α->β}{i:Nat}{w:β}(h:(L.map f)[i]? =some w):∃ a,L[i]? =some a/\w=f a:=by
 rw[List.getElem?_map] at h;cases e:L[i]? with
 | none=>rw[e] at h;cases h
 | some a=>rw[e] at h;cases h;exact⟨a,rfl,rfl⟩
theorem ja{lo:Int}{n i:Nat}{w:W}(h:(ij lo n)[i]? =some w):i<n/\w=.d (.int (lo+(i:Int))):=by
 unfold ij at h;obtain⟨j,hj,rfl⟩:=fG h;obtain⟨h1,h2⟩:=List.getElem?_eq_some_iff.mp hj;simp at h1 h2;subst h2;exact⟨h1,rfl⟩
theorem iF{α:Type}{xs:List α}{i:Nat}(hi:i<=xs.length):D.cutD xs none (some (i:Int))=xs.take i:=by
 unfold D.cutD;have e:HT.sIx xs.length 0 none=0:=rfl;have e2:HT.sIx xs.length xs.length (some (i:Int))=i:=by
  unfold HT.sIx;simp;rw[if_neg (by omega)];omega
 rw[e,e2];simp
def stp(rs:List Int)(s:Dm×As)(r:Str×Str×Int):Dm×As:=
 (more s.1 r.2.1 (gr rs s.1 r.2.1 r.2.2.toNat),s.2++[(r.1,r.2.1,gr rs s.1 r.2.1 r.2.2.toNat)])
def run(rs:List Int)(A:As):Dm×As:=A.foldl (stp rs) ([],[])
def OkC(A:As):Prop:=A.length<=8/\∀ r∈A,0<=r.2.2/\r.2.2<=6
def due(rs:List Int)(A:As):Bs:=(run rs A).2.map λ r=>(r.1,r.2.2)
def ck(c:Nat):Bool:=decide (97<=c)&&decide (c<=122)
def wd(z:Str):Bool:=decide (1<=z.length)&&decide (z.length<=8)&&z.cps.toList.all ck
theorem tW(h:wd z=true):1<=z.length/\z.length<=8:=by simp[wd] at h;exact h.1
theorem aaM(h:wd z=true):∀ c∈z.cps.toList,ck c=true:=by simp only[wd,Bool.and_eq_true,List.all_eq_true] at h;exact h.2
theorem k6(h:wd z=true):uN z=true:=by have:=aaM h;unfold uN;rw[<- Array.all_toList,List.all_eq_true];intro c hc;have:=this c hc;simp[ck] at this;simp;omega
theorem ux{c:Bool}{A B:Prop}(e:c=true)(h:A):if c=true then A else B:=by rw[e];exact fo h
theorem km{c:Bool}{A B:Prop}(e:c=false)(h:B):if c=true then A else B:=by rw[e];exact ik h
theorem lt1(a b:Nat):decide ([a] < [b])=decide (a<b):=by
 by_cases h:a<b
 ·rw[decide_eq_true h];exact decide_eq_true (List.cons_lt_cons_iff.mpr (.inl h))
 ·rw[decide_eq_false h];refine decide_eq_false λ z=>?_;rcases List.cons_lt_cons_iff.mp z with q | ⟨_,q⟩
  ·exact h q
  ·exact absurd q (by simp)
theorem afR(ds:List PyData):lq (.list ds) "list" = true:=by simp[lq,tyD]
theorem ail(ds:List PyData):lq (.tuple ds) "tuple" = true:=by simp[lq,tyD]
def bM:SpD:=λ ws M Q=>∃ i:Int,ws=[.d (.int i)]/\Q (.d (.bool true)) M
def bP:SpD:=λ ws M Q=>∃ i lo hi:Int,ws=[.d (.int i),.d (.int lo),.d (.int hi)]/\lo<=i/\i<=hi/\Q (.d (.bool true)) M
def bE:SpD:=λ ws M Q=>∃ z:Str,ws=[.d (.str z)]/\wd z=true/\Q (.d (.bool true)) M
def ahT(r:Str×Int):Prop:=wd r.1=true/\0<=r.2/\r.2<=6
def lsS(a b:Str):Bool:=decide (a.cps.toList<b.cps.toList)
structure OkB(B:Bs):Prop where
 len:B.length<=8
 row:∀ r∈B,ahT r
 up:∀ i r s,B[i]? =some r->B[i+1]? =some s->lsS r.1 s.1=true
theorem sR{α:Type}{L:List α}{f:α->PyData}{i:Nat}{w:W}(h:(nE (L.map f))[i]? =some w):∃ r,L[i]? =some r/\w=.d (.tuple [.int (i:Nat),f r]):=by
 unfold nE at h;rw[List.getElem?_map] at h;have hi:i<L.length:=by
  by_cases q:i<L.length
  ·exact q
  ·rw[List.getElem?_eq_none (by simpa using q)] at h;cases h
 rw[List.getElem?_range (by simpa using hi)] at h;cases h;refine⟨L[i],List.getElem?_eq_getElem hi,?_⟩;simp[List.getD,List.getElem?_map,List.getElem?_eq_getElem hi]
theorem agL{α:Type}{M:MH}{L:List α}{f:α->PyData}{i:Nat}{r:α}{j:Int}(hj:j=(i:Int))(h:L[i]? =some r):ixW M (.d (.list (L.map f))) j=some (.d (f r)):=by subst hj;have hi:=(List.getElem?_eq_some_iff.mp h).1;simp only[ixW,atI];rw[vP (by omega) (by rw[List.length_map];omega)];simp[h]
structure aiZ(r:Str×Str×Int):Prop where
 w:wd r.1=true
 k:wd r.2.1=true
 c0:0<=r.2.2
 c6:r.2.2<=6
structure OkA(A:As):Prop where
 len:A.length<=8
 row:∀ r∈A,aiZ r
 nd:(A.map λ r=>r.1).Nodup
theorem nY{L:List Str}(h:L.Nodup){i:Nat}{z:Str}(e:L[i]? =some z):z ∉ L.take i:=by intro hm;obtain⟨j,hj,ej⟩:=List.getElem_of_mem hm;rw[List.length_take] at hj;rw[List.getElem_take] at ej;obtain⟨hi,ei⟩:=List.getElem?_eq_some_iff.mp e;have:=(List.getElem_inj (h₀:=by omega) (h₁:=hi) h).mp (ej.trans ei.symm);omega
def rL(k:Nat):Str:=Txt.mul ⟨#[("abcdefgh" : Str).cps.toList.getD k 0]⟩ (1+(0+(k:Int)) % 2)
theorem sG(h:0<=t):D.cutD xs (some t) none=xs.drop t.toNat:=by
 unfold D.cutD;have e:HT.sIx xs.length xs.length none=xs.length:=rfl;have e2:HT.sIx xs.length 0 (some t)=min t.toNat xs.length:=by
  unfold HT.sIx;dsimp only;rw[if_neg (by omega)]
 rw[e,e2]
 by_cases q:t.toNat<=xs.length
 ·rw[Nat.min_eq_left q,<- List.length_drop,List.take_length]
 ·rw[Nat.min_eq_right (by omega),List.drop_of_length_le (Nat.le_refl _),List.drop_of_length_le (by omega)];simp
end Stc
namespace HT
open PySem PyProof.Rows
section
open PySem.SeqAt
open PySem.MeetsSeq PySem.MeetsSeq2 PySem.MeetsSeq3
end
end HT
namespace D
open L2
section
variable {X:Cx}{K:FG}
end
end D
namespace Stc
open L2 D Rc
def exc(t:Int)(xs:List Int):Int:=(xs.map λ x=>if t<x then x-t else 0).sum
def Dom(xs ys:List Int):Prop:=∀ t,0<=t->exc t xs<=exc t ys
end Stc
namespace D
open L2
end D
open L2 D
namespace L2
theorem nV(I:Nat->Shared->Prop)
  (turn:∀ n s,I n s->wpAny (model prog w) A (pyNext it) (λ r s₁=>match r with
   | none=>R (.ok .next) s₁
   | some v=>wpAny (model prog w) A (letOwnedTupleGo target it v) (λ _ s₁'=>wpAny (model prog w) A (assign target env v) (λ _ s₂ =>
     wpAny (model prog w) A (rW ifs env) (λ ok s₃ =>
      if ok=true then wpAny (model prog w) A (eval kx env) (λ kv s₄=>wpAny (model prog w) A (eval vx env) (λ vv s₅ =>
       wpAny (model prog w) A (dictSet D kv vv) (λ _ s₆=>∃ m,m<n/\I m s₆) (λ _ _=>False) s₅) (λ _ _=>False) s₄) (λ _ _=>False) s₃
      else ∃ m,m<n/\I m s₃) (λ _ _=>False) s₂) (λ _ _=>False) s₁') (λ _ _=>False) s₁) (λ _ _=>False) s)
  (n:Nat)(h:I n s) :
  codeAny (model prog w) A (.compLoop (.DictComp kx vx [⟨target,iter,ifs,0⟩] scope pos) 0 it (.ref D) env) R s:=by
 refine codeAny_loop rfl I (λ n s hI=>?_) n h;show wpAny _ A ((compTurn (.DictComp kx vx [⟨target,iter,ifs,0⟩] scope pos) 0 it (.ref D) env).onRaise (λ x=>do noteFrame x env;theTreesLotGoes x)) _ _ s;refine wpAny_noted ?_;rw[compTurn_dict];refine wpAny_bind (wpAny_standAt (wpAny_bind (wpAny_mono (turn n s hI) (λ r s₁ h₁=>?_) λ _ _ h'=>h'.elim)));cases r with
 | none=>exact wpAny_pure h₁
 | some v =>
  refine wpAny_bind (wpAny_mono h₁ (λ _ s₁' h₁'=>?_) λ _ _ h'=>h'.elim);refine wpAny_bind (wpAny_mono h₁' (λ _ s₂ h₂=>wpAny_bind (wpAny_mono h₂ (λ ok s₃ h₃=>?_) λ _ _ h'=>h'.elim)) λ _ _ h'=>h'.elim);cases ok with
  | false=>exact wpAny_pure ⟨rfl,h₃⟩
  | true =>
   refine wpAny_bind ?_;refine wpAny_bind (wpAny_mono h₃ (λ kv s₄ h₄=>wpAny_bind (wpAny_holding (wpAny_mono h₄ (λ vv s₅ h₅=>wpAny_bind (wpAny_standAt (wpAny_holding (wpAny_mono h₅ (λ _ s₆ h₆=>wpAny_pure ⟨rfl,h₆⟩) λ _ _ h'=>h'.elim)))) λ _ _ h'=>h'.elim))) λ _ _ h'=>h'.elim)
theorem yx(I:Inv X pins σ H s)(e:H a=some (.dK kvs))(l:kvs.length<sizeLine)(ry:RelV (kV k) u)(rv:RelV v r)(h:∀ s',Inv X pins σ (upd H a (.dK (putK kvs k v))) s'->Q () s') :
  wpAny (model X.prog X.w) A (dictSet a u r) Q E s:=by
 obtain⟨z,hd,vs,rel,dd⟩:=agt I.hok e;have hz:vs.length<=sizeLine:=by rw[<- rel.length];exact z
 have hl:(putK kvs k v).length<=sizeLine:=by have:=gE kvs k v;omega
 refine wpAny_dictSet_pairs (hsz:=hz) (uZ ry) dd λ h' dd' hs=>h _ ?_;have he:∃ q,h'.get? a=some q:=let ⟨q,_,_,hq,_⟩:=dd'; ⟨q,hq⟩;exact rK I (by rw[e];exact True.intro) hs he (aaK hl hd (rel.put k rv) dd')
abbrev DcW:=Nat->Nat->St->Hp->Prop
def aa6(J:It)(g:TG)(tt:TT)(tk tv:TE)(D:Addr)(W:DcW)(Fin:Hp->Prop):Prop:=∀ i m τ H,W i m τ H ->
 (J.stop i H/\Fin H)\/(J.go i H/\∀ x H',J.yld i H x H'->g x τ H' λ τ2 H2=>tt τ2 H2 λ b H3 =>
  if b=true then tk τ2 H3 λ y H4=>tv τ2 H4 λ z H5=>∃ kvs k,H5 D=some (.dK kvs)/\y=kV k/\kvs.length<sizeLine/\∃ m',m'<m/\W (i+1) m' τ2 (upd H5 D (.dK (putK kvs k z))) else ∃ m',m'<m/\W (i+1) m' τ2 H3)
section
variable {X:Cx}{pins:PN}{σ:St}{H:Hp}{s:Shared}{sc:Scope}{own:List Str}{fr:List Nat}{cl:List (Str×Addr)}{fp:List Addr}{it D:Addr}{J:It}{tn:Nat->Heap->Prop}{g:TG}{tt:TT}{tk tv:TE}{W:DcW}{Fin:Hp->Prop}
 {kx vx tg iter:Expr}{ifs:List Expr}{pos:Pos}{E:VP}
theorem v5{RR:Addr->Result->Shared->Prop}(hc:X.calm=true)(L:lY X sc own fr)(hcl1:∀ n c,cl.lookup n=some c->X.env.cells.lookup n=some c)(hcl2:∀ n,(n,NameKind.free)∈sc.names->∃ c,cl.lookup n=some c)
  (hg:∀ C s H ex pl,PG (blk X sc (lcN X own fr) cl C s H ex pl) tg g)(ht:∀ C s H ex pl,PTs (blk X sc (lcN X own fr) cl C s H ex pl) ifs tt)(hk:∀ C s H ex pl,PE (blk X sc (lcN X own fr) cl C s H ex pl) kx tk)(hv:∀ C s H ex pl,PE (blk X sc (lcN X own fr) cl C s H ex pl) vx tv)
  (I:Inv X pins σ H s)(T:Turn X.prog X.w X.K tg J fp it tn)(st:tn 0 s.heap)(hf:∀ b∈fp,jz X pins H b)(w0:∃ m,W 0 m (lcS own.length fr σ) H)(turn:aa6 J g tt tk tv D W Fin)
  (hRR:∀ (C:Addr) (s':Shared) (H':Hp) (m:Str->Option Value),Inv X pins σ H' s'->H' C=none->s.heap.objs.size<=C->s'.heap.Ns C m->Fin H'->RR C (.ok .next) s') :
  wpAny (model X.prog X.w) X.A (newFunctionEnv sc X.env.globals cl [] X.env.qual none .none (some X.env)) (λ cenv s₄ =>
   codeAny (model X.prog X.w) X.A (.compStart (.DictComp kx vx [⟨tg,iter,ifs,0⟩] sc pos) 0 (.ref it) (.ref D) {cenv with scope:=relabel sc X.env}) (RR cenv.locals) s₄) E s:=by
 refine wpAny_newFunctionEnv L.cell (by intro y hy;simp at hy) (λ h₁ hns₁ hsb₁=>?_) L.kind
 try dsimp only at hns₁ hsb₁ ⊢
 have below:∀ b,b<s.heap.objs.size->b≠s.heap.objs.size:=λ b hb=>Nat.ne_of_lt hb;have old:∀ b o,s.heap.get? b=some o->h₁.get? b=some o:=λ b o e=>hsb₁.extBut b o (below b (Heap.lt_size e)) (Heap.get?_push_of_some _ e);have hfb:∀ b∈fp,b<s.heap.objs.size:=λ b hb=>by obtain⟨o,e,_⟩:=T.obj 0 _ st b hb;exact Heap.lt_size e
 have I1:Inv (blk X sc (lcN X own fr) cl s.heap.objs.size s H fp pins) [] (lcS own.length fr σ) H {s with heap:=h₁,toks:=s.toks+([]:List (Str×Value)).length}:=xk L I hf hfb (Nat.le_refl _) hcl1 hcl2 hns₁ old;have st1:tn 0 h₁:=T.keep 0 _ _ st λ b _ o e=>old b o e;generalize hY:blk X sc (lcN X own fr) cl s.heap.objs.size s H fp pins=Y at I1;have hYp:Y.prog=X.prog:=by rw[<- hY];rfl
 have hYw:Y.w=X.w:=by rw[<- hY];rfl
 have hYK:Y.K=X.K:=by rw[<- hY];rfl
 have hYA:Y.A=X.A:=by rw[<- hY];rfl
 have hYc:Y.calm=true:=by rw[<- hY];exact hc
 have hYe:Y.env=compEnvC sc cl s.heap.objs.size X.env:=by rw[<- hY];rfl
 have hYx:Y.xe=λ _ _=>False:=by rw[<- hY];rfl
 have hYpn:Y.pn=X.pn++pins:=by rw[<- hY];rfl
 have hYs:Y.s₀=s:=by rw[<- hY];rfl
 have hYH:Y.H₀=H:=by rw[<- hY];rfl
 have hYex:Y.ex=fp:=by rw[<- hY];rfl
 have hYfs:Y.fs=frs X.stack:=by rw[<- hY];rfl
 have gY:=hg s.heap.objs.size s H fp pins;have tY:=ht s.heap.objs.size s H fp pins;have kY:=hk s.heap.objs.size s H fp pins;have vY:=hv s.heap.objs.size s H fp pins;rw[hY] at gY tY kY vY;have fpY:∀ {H':Hp},(∀ b∈fp,H' b=none)->∀ b∈fp,jz Y [] H' b:=λ {H'} hn b hb=>by
  obtain⟨_,f1,f2,f3,f4,f5⟩:=hf b hb;refine⟨hn b hb,by rw[hYe];exact below b (hfb b hb),?_,.inl (by rw[hYex];exact hb),λ x c e=>?_,λ p q=>?_⟩
  ·rw[hYfs];intro z;rcases List.mem_cons.mp (I.i4 _ z) with e | e
   ·exact f1 e
   ·exact f2 e
  ·rw[hYe] at e;exact f4 x c (hcl1 _ _ e)
  ·rw[List.append_nil,hYpn] at q;exact f5 p q
 have loop:∀ s₃:Shared,s₃={s with heap:=h₁,toks:=s.toks+([]:List (Str×Value)).length} ->
   codeAny (model X.prog X.w) X.A (.compLoop (.DictComp kx vx [⟨tg,iter,ifs,0⟩] sc pos) 0 (.ref it) (.ref D) (compEnvC sc cl s.heap.objs.size X.env)) (RR s.heap.objs.size) s₃:=by
  rintro s₃ rfl;obtain⟨m0,w0⟩:=w0;refine nV (λ n s'=>∃ i τ H',Inv Y [] τ H' s'/\tn i s'.heap/\(∀ b∈fp,H' b=none)/\W i n τ H') ?_ m0 ⟨0,_,H,I1,st1,λ b hb=>(hf b hb).1,w0⟩;rintro n s' ⟨i,τ,H',I',st',hn',w'⟩;rcases turn i n τ H' w' with ⟨stop,fin⟩ | ⟨go,step⟩
  ·have q:=T.done Y hYp hYw hYK hYc i _ s' τ H' (λ _ _=>False) I' (fpY hn') st' stop;rw[hYA] at q;refine thn q λ r s4 hq85=>?_;obtain⟨hr,I4⟩:=hq85;subst hr;have un:Un (frs X.stack) fp H H' s.heap s4.heap:=by have z:=I4.base;rw[hYfs,hYex,hYH,hYs] at z;exact z
   have os4:s4.os=s.os:=by have z:=I4.os;rw[hYs] at z;exact z
   have hok4:HOk X.prog X.w H' s4.heap:=by have z:=I4.hok;rw[hYp,hYw] at z;exact z
   have hch:∀ b∈fp,(b∈X.ex\/X.s₀.heap.objs.size<=b)/\b≠X.env.locals/\(∀ x c,X.env.cells.lookup x=some c->c≠b)/\∀ p∈X.pn++pins,p.1≠b:=λ b hb=>by obtain⟨_,f1,f2,f3,f4,f5⟩:=hf b hb;exact⟨f3,f1,f4,f5⟩
   have IX:Inv X pins σ H' s4:=I.zB os4 un hok4 I4.bare hch;obtain⟨mC,hmC,_⟩:=I4.loc;have hCf:=I4.free;rw[hYe] at hmC hCf;exact hRR _ s4 H' mC IX hCf (Nat.le_refl _) hmC fin
  ·have q:=T.item Y hYp hYw hYK hYc i _ s' τ H' (λ _ _=>False) I' (fpY hn') st' go;rw[hYA] at q;refine thn q λ r s4 hq86=>?_;obtain⟨u,hr,h4⟩:=hq86;subst hr;refine thn h4 λ _ s5 hq87=>?_;obtain⟨x,H5,I5,r5,y5,st5,fr5⟩:=hq87;have I5':=I5.pinned (fpY fr5) (T.obj _ _ st5);have g5:=gY _ s5 τ H5 x u _ I5' r5 (step x H5 y5);rw[hYp,hYw,hYA,hYe,hYx] at g5;refine thn g5 λ _ s6 hq88=>?_;obtain⟨σ6,H6,I6,q6⟩:=hq88;have t6:=tY _ s6 σ6 H6 _ I6 q6;rw[hYp,hYw,hYA,hYe,hYx] at t6;refine thn t6 λ ok s7 hq89=>?_;obtain⟨H7,I7,q7⟩:=hq89;have keepI:∀ {σ8:St} {H8:Hp} {s8:Shared},Inv Y ([]++kU fp s5.heap) σ8 H8 s8->tn (i+1) s8.heap/\∀ b∈fp,H8 b=none:=
    λ {σ8 H8 s8} I8=>by refine⟨T.keep _ _ _ st5 λ b hb o e=>(I8.pin (b,o) (List.mem_append_right _ (List.mem_append_right _ (dO hb e)))).1,λ b hb=>?_⟩;obtain⟨o,e,d⟩:=T.obj _ _ st5 b hb;exact(I8.pin (b,o) (List.mem_append_right _ (List.mem_append_right _ (dO hb e)))).2.1
   cases ok with
   | false =>
    rw[if_neg Bool.false_ne_true] at q7 ⊢;obtain⟨m',hm',w7⟩:=q7;obtain⟨c7,d7⟩:=keepI I7;exact⟨m',hm',i+1,σ6,H7,I7.d5 (λ p hp=>(nomatch hp)),c7,d7,w7⟩
   | true =>
    rw[if_pos rfl] at q7 ⊢;have e7:=kY _ s7 σ6 H7 _ I7 q7;rw[hYp,hYw,hYA,hYe,hYx] at e7;refine thn e7 λ ku s8 hq90=>?_;obtain⟨y,H8,I8,r8,q8⟩:=hq90;have e8:=vY _ s8 σ6 H8 _ I8 q8;rw[hYp,hYw,hYA,hYe,hYx] at e8;refine thn e8 λ vu s9 hq91=>?_;obtain⟨z,H9,I9,r9,kvs,k,hD,ey,hlt,m',hm',w9⟩:=hq91;subst ey;have r8':RelV (kV k) ku:=r8;have q9:=yx (A:=X.A) (E:=λ _ _=>False) (Q:=λ _ s₆=>∃ m,m<n/\∃ i τ H',Inv Y [] τ H' s₆/\tn i s₆.heap/\(∀ b∈fp,H' b=none)/\W i m τ H') I9 hD hlt r8' r9 λ s10 I10=>by obtain⟨c8,d8⟩:=keepI I10;exact⟨m',hm',i+1,σ6,_,I10.d5 (λ p hp=>(nomatch hp)),c8,d8,w9⟩
    rw[hYp,hYw] at q9;exact q9
 exact codeAny_compStart_dict (loop _ rfl) (T.self _ 0 _ _ _ st1 (loop _ rfl))
def tDC(wi:TI)(g:TG)(tt:TT)(tk tv:TE)(k:Nat)(fr:List Nat):TE:=λ σ H Q=>wi σ H λ J H1=>∀ p,H1 p=none->∃ W:DcW,(∃ m,W 0 m (lcS k fr σ) (upd H1 p (.dK [])))/\aa6 J g tt tk tv p W λ H2=>Q (.ref p) H2
theorem ah5(hc:X.calm=true)(L:lY X sc own fr)(hi:PI X tg iter wi)
  (hg:∀ cl C s H ex pl,PG (blk X sc (lcN X own fr) cl C s H ex pl) tg g)(ht:∀ cl C s H ex pl,PTs (blk X sc (lcN X own fr) cl C s H ex pl) ifs tt)(hk:∀ cl C s H ex pl,PE (blk X sc (lcN X own fr) cl C s H ex pl) kx tk)(hv:∀ cl C s H ex pl,PE (blk X sc (lcN X own fr) cl C s H ex pl) vx tv)
  (hs:∀ x,foldedSetIterable iter X.env x=pure x:=by intro _;rfl):PE X (.DictComp kx vx [⟨tg,iter,ifs,0⟩] sc pos) (tDC wi g tt tk tv own.length fr):=by
 intro pins s σ H Q I h;obtain⟨cl,hcl,c1,c2⟩:=gk L I.ok;show wpAny _ _ (comprehension (.DictComp kx vx [⟨tg,iter,ifs,0⟩] sc pos) sc X.env _ newDict false (eval iter X.env)) _ _ _;refine wpAny_comprehension_free (use:=none) (g:=⟨tg,iter,ifs,0⟩) (gs:=[]) rfl hs hcl L.kind L.names ?_;refine thn (hi pins s σ H _ I h) λ v s1 h1=>thn h1 λ itv s2 h2=>?_;obtain⟨it,fp,tn,J,H2,e,I2,T,st2,f2,q2⟩:=h2;subst e;obtain⟨W,w0,turn⟩:=q2 _ (I2.hok.fresh (Nat.le_refl s2.heap.objs.size));refine wpAny_newObj_type ?_;have I3:=I2.laid (a:=s2.heap.objs.size) (o:=.dK []) (h':=s2.heap.push {cls:=.type "dict",data:=.dict #[]}) (t':=s2.toks) (λ _ _ q=>Heap.get?_push_of_some _ q) (Nat.le_refl _) (nZ s2.heap I2.big);have hfb:∀ b∈fp,b<s2.heap.objs.size:=λ b hb=>by obtain⟨o,e,_⟩:=T.obj 0 _ st2 b hb;exact Heap.lt_size e
 have f3:∀ b∈fp,jz X pins (upd H2 s2.heap.objs.size (.dK [])) b:=λ b hb=>by obtain⟨f0,fr⟩:=f2 b hb;exact⟨by rw[aq (Nat.ne_of_lt (hfb b hb))];exact f0,fr⟩
 have st3:tn 0 (s2.heap.push {cls:=.type "dict",data:=.dict #[]}):=T.keep 0 _ _ st2 λ b _ o e=>Heap.get?_push_of_some _ e;refine v5 (cl:=cl) hc L c1 c2 (hg cl) (ht cl) (hk cl) (hv cl) I3 T st3 f3 w0 turn λ C s' H' m I' hC dC hns fin=>?_;refine⟨m,hns,λ h' sb=>?_⟩;have hC2:s2.heap.objs.size<=C:=Nat.le_trans (by rw[Heap.size_push];exact Nat.le_succ _) dC;obtain⟨_,z2,_,_,z3,z4⟩:=I2.mB (H':=λ _=>none) hC2 rfl;have I4:Inv X pins σ H' {s' with heap:=h'}:=I'.turned (t':=s'.toks) (λ b o hb e=>sb.extBut b o hb e) hC z2 (.inr (Nat.le_trans I2.sz hC2)) z3 z4;exact⟨.ref _,_,I4,rfl,fin⟩
end
end L2
namespace D
open L2
section
variable {K:FG}
def dDC(di:TId)(g:TGd)(tt:TTd)(tk tv:TD)(k:Nat)(fr:List Nat)(τ:DS)(M:MH)(Q:QD):Prop:=di τ M λ ws M1=>∀ p,M1 p=none->∃ P:Nat->DS->MH->Prop,P 0 (adj k fr τ) (bf M1 p (.dic [])) /\
 (∀ i w τ M,ws[i]? =some w->P i τ M->g w τ M λ τ2 M2=>tt τ2 M2 λ b M3=>if b=true then tk τ2 M3 λ y M4=>tv τ2 M4 λ z M5=>∃ kvs key,M5 p=some (.dic kvs)/\y=kW key/\kvs.length<sizeLine/\P (i+1) τ2 (bf M5 p (.dic (vd kvs key z))) else P (i+1) τ2 M3) /\
 ∀ τ M,P ws.length τ M->Q (.m p) M
theorem abJ(h:up K (dDC di g tt tk tv k fr) σ H Q) :
  tDC (upI K di) (upG K g) (upT K tt) (up K tk) (up K tv) k fr σ H Q:=by
 obtain⟨τ,M,Qd,A,h,kk⟩:=h;refine⟨τ,M,_,A,h,λ J H1 ws M1 kp m1 it hall p hp=>?_⟩;obtain⟨P,p0,pt,pe⟩:=hall p (m1.free hp);have kpn:Kp H1 (upd H1 p (.dK [])):=Kp.new hp;have mn:cq K (upd H1 p (.dK [])) (bf M1 p (.dic [])):=m1.put (mo:=.dic []) kpn ⟨_,au,.nil⟩;refine⟨λ i n σ' H'=>n=ws.length-i/\i<=ws.length/\Kp (upd H1 p (.dK [])) H'/\∃ τ M,Abs K H' σ' τ M/\P i τ M,⟨ws.length,by simp,Nat.zero_le _,Kp.refl _,_,_,tL (A.go (kp.trans kpn) mn) k fr,p0⟩,?_⟩;rintro i n σ2 H2 ⟨rfl,hi,kp2,τ2,M2,A2,p2⟩;obtain⟨go,stop,yld⟩:=it H2 (kpn.trans kp2) i
 by_cases hlt:i<ws.length
 ·refine .inr ⟨go hlt,λ x H3 y=>?_⟩;obtain⟨kp3,mk,w,ew,rw⟩:=yld x H3 hlt y;refine⟨w,τ2,M2,_,rw,A2.go kp3 (mk _ A2.mem),pt i w τ2 M2 ew p2,λ σ4 H4 τ4 M4 kp4 A4 q4=>⟨τ4,M4,_,A4,q4,λ b H5 M5 kp5 m5 q5=>?_⟩⟩;have kq:=(kp3.trans kp4).trans kp5;cases b with
  | false =>
   rw[if_neg Bool.false_ne_true] at q5;exact ik ⟨ws.length-(i+1),by omega,rfl,hlt,kp2.trans kq,τ4,M5,A4.go kp5 m5,q5⟩
  | true =>
   rw[if_pos rfl] at q5;refine fo ⟨τ4,M5,_,A4.go kp5 m5,q5,λ ky H6 wy M6 kp6 r6 m6 q6=>⟨τ4,M6,_,A4.go (kp5.trans kp6) m6,q6,λ v H7 wv M7 kp7 r7 m7 hq92=>?_⟩⟩;obtain⟨kvs,key,hm,ey,hl,q7⟩:=hq92;subst ey;obtain⟨l,e,pr⟩:=m7 _ _ hm;have kp8:Kp H7 (upd H7 p (.dK (putK l key v))):=Kp.set e (λ _ z=>nomatch z) (λ _ _ z=>nomatch z);refine⟨l,key,e,kd r6,by rw[<- sN pr];exact hl,ws.length-(i+1),by omega,rfl,hlt,kp2.trans (((kq.trans kp6).trans kp7).trans kp8),τ4,_,A4.go (((kp5.trans kp6).trans kp7).trans kp8) (m7.put (mo:=.dic (vd kvs key wv)) kp8 ⟨_,au,?_⟩),q7⟩;exact Paired.gF (aaQ key r7 pr) λ p q z=>⟨z.1,z.2.keep kp8⟩
 ·have hl:i=ws.length:=by omega
  subst hl;refine .inl ⟨stop (Nat.le_refl _),?_⟩;exact kk _ H2 (.m p) M2 (kp.trans (kpn.trans kp2)) rfl A2.mem (pe τ2 M2 p2)
variable {X:Cx}{sc:Scope}{own:List Str}{fr:List Nat}{di:TId}{g:TGd}{tt:TTd}{tk tv:TD}{tg iter kx vx:Expr}{ifs:List Expr}{pos:Pos}
theorem agi(hc:X.calm=true)(L:lY X sc own fr)(hi:PId X tg iter di)
  (hg:∀ cl C s H ex pl,PGd (blk X sc (lcN X own fr) cl C s H ex pl) tg g)(ht:∀ cl C s H ex pl,uH (blk X sc (lcN X own fr) cl C s H ex pl) ifs tt)(hk:∀ cl C s H ex pl,PD (blk X sc (lcN X own fr) cl C s H ex pl) kx tk)(hv:∀ cl C s H ex pl,PD (blk X sc (lcN X own fr) cl C s H ex pl) vx tv)
  (hs:∀ x,foldedSetIterable iter X.env x=pure x:=by intro _;rfl):PD X (.DictComp kx vx [⟨tg,iter,ifs,0⟩] sc pos) (dDC di g tt tk tv own.length fr):=
 ft (ah5 hc L hi hg ht hk hv hs) λ σ H Q h=>abJ h
end
end D
open L2 D
theorem aa4(hc:X.calm=true)(L:lY X sc own fr)(hi:Jd (PId X tg iter di))
  (hg:∀ cl C s H ex pl,Jd (PGd (blk X sc (lcN X own fr) cl C s H ex pl) tg g))(ht:∀ cl C s H ex pl,Jd (uH (blk X sc (lcN X own fr) cl C s H ex pl) ifs tt))(hk:∀ cl C s H ex pl,Jd (PD (blk X sc (lcN X own fr) cl C s H ex pl) kx tk))(hv:∀ cl C s H ex pl,Jd (PD (blk X sc (lcN X own fr) cl C s H ex pl) vx tv))
  (hs:∀ x,foldedSetIterable iter X.env x=pure x:=by intro _;rfl):Jd (PD X (.DictComp kx vx [⟨tg,iter,ifs,0⟩] sc pos) (dDC di g tt tk tv own.length fr)):=
 ⟨D.agi hc L hi.h (λ cl C s H ex pl=>(hg cl C s H ex pl).h) (λ cl C s H ex pl=>(ht cl C s H ex pl).h) (λ cl C s H ex pl=>(hk cl C s H ex pl).h) (λ cl C s H ex pl=>(hv cl C s H ex pl).h) hs⟩
namespace L2
theorem zH(hN:X.N.Nodup)(hi':X.N[i]? =some x)(hx:Loc X.env.scope x)(hc:X.calm=true)(L:lY X sc own fr)(hi:PI X tg iter wi)
  (hg:∀ cl C s H ex pl,PG (blk X sc (lcN X own fr) cl C s H ex pl) tg g)(ht:∀ cl C s H ex pl,PTs (blk X sc (lcN X own fr) cl C s H ex pl) ifs tt)(hk:∀ cl C s H ex pl,PE (blk X sc (lcN X own fr) cl C s H ex pl) kx tk)(hv:∀ cl C s H ex pl,PE (blk X sc (lcN X own fr) cl C s H ex pl) vx tv)
  (hsw:swapsWith (.DictComp kx vx [⟨tg,iter,ifs,0⟩] sc pos) (some (.Name x pos')) spos.line X.env=pure true:=by rfl)
  (hs:∀ x,foldedSetIterable iter X.env x=pure x:=by intro _;rfl)(hf:X.fn x=true\/X.env.scope.names.lookup x=some .local:=by first | exact .inl rfl | exact .inr rfl | assumption) :
  PS X (.Assign [.Name x pos'] (.DictComp kx vx [⟨tg,iter,ifs,0⟩] sc pos) spos) (aep (tDC wi g tt tk tv own.length fr) (zm i)):=by
 intro pins s σ H D' I h;obtain⟨cl,hcl,c1,c2⟩:=gk L I.ok;rw[exec_Assign_Name_used _ _ _ _ hsw];refine wpAny_bind (wpAny_standAt (wpAny_bind ?_));show wpAny _ _ (evalThenUse (.DictComp kx vx [⟨tg,iter,ifs,0⟩] sc pos) X.env (assign (.Name x pos') X.env)) _ _ _;unfold evalThenUse;refine wpAny_bind ?_;refine wpAny_comprehension_free (use:=some (assign (.Name x pos') X.env)) (g:=⟨tg,iter,ifs,0⟩) (gs:=[]) rfl hs hcl L.kind L.names ?_;refine thn (hi pins s σ H _ I h) λ v s1 h1=>thn h1 λ itv s2 h2=>?_;obtain⟨it,fp,tn,J,H2,e,I2,T,st2,f2,q2⟩:=h2;subst e;obtain⟨W,w0,turn⟩:=q2 _ (I2.hok.fresh (Nat.le_refl s2.heap.objs.size));refine wpAny_newObj_type ?_;have I3:=I2.laid (a:=s2.heap.objs.size) (o:=.dK []) (h':=s2.heap.push {cls:=.type "dict",data:=.dict #[]}) (t':=s2.toks) (λ _ _ q=>Heap.get?_push_of_some _ q) (Nat.le_refl _) (nZ s2.heap I2.big);have hfb:∀ b∈fp,b<s2.heap.objs.size:=λ b hb=>by obtain⟨o,e,_⟩:=T.obj 0 _ st2 b hb;exact Heap.lt_size e
 have f3:∀ b∈fp,jz X pins (upd H2 s2.heap.objs.size (.dK [])) b:=λ b hb=>by obtain⟨f0,fr⟩:=f2 b hb;exact⟨by rw[aq (Nat.ne_of_lt (hfb b hb))];exact f0,fr⟩
 have st3:tn 0 (s2.heap.push {cls:=.type "dict",data:=.dict #[]}):=T.keep 0 _ _ st2 λ b _ o e=>Heap.get?_push_of_some _ e;refine v5 (cl:=cl) hc L c1 c2 (hg cl) (ht cl) (hk cl) (hv cl) I3 T st3 f3 w0 turn λ C s' H' m I' hC dC hns fin=>?_;have hC2:s2.heap.objs.size<=C:=Nat.le_trans (by rw[Heap.size_push];exact Nat.le_succ _) dC;obtain⟨_,z2,z0,_,z3,z4⟩:=I2.mB (H':=λ _=>none) hC2 rfl;have z1:X.s₀.heap.objs.size<=C:=Nat.le_trans I2.sz hC2;obtain⟨oC,hoC,nsC⟩:∃ o,s'.heap.get? C=some o/\∃ es ep,o.data=.dict es ep:=by obtain⟨o,es,ep,e1,e2,_⟩:=hns;exact⟨o,e1,es,ep,e2⟩
 have I4:Inv X (pins++[(C,oC)]) σ H' s':=I'.d5 λ p hp=>by
  rcases List.mem_append.mp hp with z | z
  ·exact I'.pin p (List.mem_append_right _ z)
  ·have e:p=(C,oC):=by simpa using z
   subst e;obtain⟨es,ep,hd⟩:=nsC;exact⟨hoC,hC,z2,z0,λ v z=>by have z':oC.data=.cell v:=z;rw[hd] at z';cases z'⟩
 refine thn (qI (pos:=pos') hN hi' hx hf _ s' σ _ (.ref s2.heap.objs.size) (.ref s2.heap.objs.size) _ I4 rfl fin) λ _ s5 hq93=>?_;obtain⟨σ5,H5,I5,q5⟩:=hq93;have pC:=I5.pin (C,oC) (List.mem_append_right _ (List.mem_append_right _ (List.mem_singleton.mpr rfl)));obtain⟨o,es,ep,e1,e2,e3⟩:=hns;rw[hoC] at e1;cases e1;refine⟨m,⟨oC,es,ep,pC.1,e2,e3⟩,λ h' sb=>?_⟩;have I6:Inv X pins σ5 H5 {s5 with heap:=h'}:=(I5.hU).turned (t':=s5.toks) (λ b o hb e=>sb.extBut b o hb e) pC.2.1 z2 (.inr z1) z3 z4;exact wpAny_pure (wpAny_pure ⟨σ5,H5,I6,q5⟩)
end L2
namespace D
open L2
theorem uc(hN:X.N.Nodup)(hi':X.N[i]? =some x)(hx:Loc X.env.scope x)(hc:X.calm=true)(L:lY X sc own fr)(hi:PId X tg iter di)
  (hg:∀ cl C s H ex pl,PGd (blk X sc (lcN X own fr) cl C s H ex pl) tg g)(ht:∀ cl C s H ex pl,uH (blk X sc (lcN X own fr) cl C s H ex pl) ifs tt)(hk:∀ cl C s H ex pl,PD (blk X sc (lcN X own fr) cl C s H ex pl) kx tk)(hv:∀ cl C s H ex pl,PD (blk X sc (lcN X own fr) cl C s H ex pl) vx tv)
  (hsw:swapsWith (.DictComp kx vx [⟨tg,iter,ifs,0⟩] sc pos) (some (.Name x pos')) spos.line X.env=pure true:=by rfl)
  (hs:∀ x,foldedSetIterable iter X.env x=pure x:=by intro _;rfl)(hf:X.fn x=true\/X.env.scope.names.lookup x=some .local:=by first | exact .inl rfl | exact .inr rfl | assumption) :
  PSd X (.Assign [.Name x pos'] (.DictComp kx vx [⟨tg,iter,ifs,0⟩] sc pos) spos) (cf (dDC di g tt tk tv own.length fr) (gN i)):=
 qH (zH hN hi' hx hc L hi hg ht hk hv hsw hs hf) λ D σ H h=>by obtain⟨τ,M,Dd,A,h,k1,_⟩:=h;exact abJ ⟨τ,M,_,A,h,λ v H1 w M1 kp r m q=>k1 _ H1 _ M1 kp ((A.go kp m).set i r) q⟩
end D
open L2 D
theorem uh(hN:X.N.Nodup)(hi':X.N[i]? =some x)(hx:Loc X.env.scope x)(hc:X.calm=true)(L:lY X sc own fr)(hi:Jd (PId X tg iter di))
  (hg:∀ cl C s H ex pl,Jd (PGd (blk X sc (lcN X own fr) cl C s H ex pl) tg g))(ht:∀ cl C s H ex pl,Jd (uH (blk X sc (lcN X own fr) cl C s H ex pl) ifs tt))(hk:∀ cl C s H ex pl,Jd (PD (blk X sc (lcN X own fr) cl C s H ex pl) kx tk))(hv:∀ cl C s H ex pl,Jd (PD (blk X sc (lcN X own fr) cl C s H ex pl) vx tv))
  (hsw:swapsWith (.DictComp kx vx [⟨tg,iter,ifs,0⟩] sc pos) (some (.Name x pos')) spos.line X.env=pure true:=by rfl)
  (hs:∀ x,foldedSetIterable iter X.env x=pure x:=by intro _;rfl)(hf:X.fn x=true\/X.env.scope.names.lookup x=some .local:=by first | exact .inl rfl | exact .inr rfl | assumption) :
  Jd (PSd X (.Assign [.Name x pos'] (.DictComp kx vx [⟨tg,iter,ifs,0⟩] sc pos) spos) (cf (dDC di g tt tk tv own.length fr) (gN i))):=
 ⟨D.uc hN hi' hx hc L hi.h (λ cl C s H ex pl=>(hg cl C s H ex pl).h) (λ cl C s H ex pl=>(ht cl C s H ex pl).h) (λ cl C s H ex pl=>(hk cl C s H ex pl).h) (λ cl C s H ex pl=>(hv cl C s H ex pl).h) hsw hs hf⟩
namespace D
open L2
def vX(C:Addr)(td tv:TD)(fn:Str)(f:Int->Int->Int)(D:Ed)(τ:DS)(M:MH):Prop:=td τ M λ w M1=>∃ a fs i,w=.m a/\M1 a=some (.ins C fs)/\fs.lookup fn=some (.d (.int i)) /\
 tv τ M1 λ y M2=>∃ j fs',y=.d (.int j)/\M2 a=some (.ins C fs')/\fs'.length<1000/\D.nx τ (bf M2 a (.ins C (qz fn (.d (.int (f i j))) fs')))
end D
open L2 D
theorem rq(c:Cls X.K C)(n:cJ X.K C fn)(ha:Jd (PD X o td))(hv:Jd (PD X value tv))(hop:PIp X op (ipI f)):Jd (PSd X (.AugAssign (.Attribute o fn tpos) op value pos) (vX C td tv fn f)):=⟨have ha:=ha.h;have hv:=hv.h;
 qH (wA (rd:=ipI f) ha hv hop) λ D σ H h=>by obtain⟨τ,M,Dd,A,h,k1,_⟩:=h;refine⟨τ,M,_,A,h,λ x H1 w M1 kp1 r1 m1 hq94=>?_⟩;obtain⟨a,fs,i,ew,hm,hl,q1⟩:=hq94;subst ew;obtain⟨dx,l,e,pr⟩:=m1 _ _ hm;have g:=d9 fn pr;rw[hl] at g;obtain⟨b,eb,rb⟩:=OR.some_of g;simp only[aE,aA] at rb;subst rb;refine⟨a,C,dx,l,_,r1,e,c,n,eb,τ,M1,_,A.go kp1 m1,q1,λ y H2 wy M2 kp2 r2 m2 hq95=>?_⟩;obtain⟨j,fs',ey,hm2,hl2,q2⟩:=hq95;subst ey;simp only[aE,aA] at r2;subst r2;obtain⟨dx2,l2,e2,pr2⟩:=m2 _ _ hm2;refine⟨i,j,rfl,rfl,dx2,l2,e2,by rw[<- vk pr2];exact hl2,?_⟩;have kp4:Kp H2 (upd H2 a (.ins C dx2 (lD fn (.int (f i j)) l2))):=Kp.set e2 (λ _ z=>nomatch z) (λ _ _ z=>nomatch z);refine k1 _ _ _ _ ((kp1.trans kp2).trans kp4) (A.go ((kp1.trans kp2).trans kp4) (m2.put (mo:=.ins C (qz fn (.d (.int (f i j))) fs')) kp4 ⟨dx2,_,au,?_⟩)) q2;exact yH.keep kp4 (xW fn (w:=.d (.int (f i j))) (by simp[aE,aA]) pr2)⟩
namespace D
open L2
end D
open L2 D
namespace D
open L2
section
variable {X:Cx}{K:FG}
end
end D
namespace PySem
namespace Dp
section
variable {prog:Program}{w:World}{A:Around}{E:VP}{s:Shared}
variable {K:Type}[DecidableEq K]{knd:KeyKind prog w K}
end
end Dp
end PySem
namespace D
open L2
section
variable {X:Cx}{K:FG}
end
end D
namespace Stc
open L2 D Rc
end Stc
namespace D
open L2
section
variable {X:Cx}{K:FG}
def ahr:V->V->V->Hp->(Hp->Prop)->Prop:=λ o i v H Q=>∃ a H',o=.ref a/\aiq H a i v H'/\Q H'
theorem set_dict(hu:X.A.units+1<cLine):agU X ahr:=by intro pins s σ H o i v ov iv u Q I ro ri rv h;obtain⟨a,H',rfl,g,q⟩:=h;obtain rfl:ov=Value.ref a:=ro;exact vD hu I g ri rv λ s4 I4=>⟨H',I4,q⟩
def af2(t:TS):TS:=λ D σ H=>∃ a l,H a=some (.dK l)/\∀ o,t
 {nx:=λ σ' H'=>H' a=some (.frz o (.frz o (.dK l)))/\D.nx σ' (upd H' a (.dK l)),rt:=λ v H'=>H' a=some (.frz o (.frz o (.dK l)))/\D.rt v (upd H' a (.dK l)),
  bk:=λ σ' H'=>H' a=some (.frz o (.frz o (.dK l)))/\D.bk σ' (upd H' a (.dK l)),ct:=λ σ' H'=>H' a=some (.frz o (.frz o (.dK l)))/\D.ct σ' (upd H' a (.dK l))} σ (upd H a (.frz o (.frz o (.dK l))))
theorem zT{st:Stmt}{t:TS}(h:PS X st t):PS X st (af2 t):=by
 intro pins s σ H D I ⟨a,l,ha,q⟩;obtain⟨o,I1⟩:=Inv.ahQ I ha;refine thn (h pins s σ _ _ I1 (q o)) λ f s1 hf=>?_;cases f with
 | next=>obtain⟨σ',H',I2,e,q2⟩:=hf;exact⟨σ',_,Inv.again I ha I2 e,q2⟩
 | brk=>obtain⟨σ',H',I2,e,q2⟩:=hf;exact⟨σ',_,Inv.again I ha I2 e,q2⟩
 | cont=>obtain⟨σ',H',I2,e,q2⟩:=hf;exact⟨σ',_,Inv.again I ha I2 e,q2⟩
 | ret u=>obtain⟨v,σ',H',I2,r,e,q2⟩:=hf;exact⟨v,σ',_,Inv.again I ha I2 e,r,q2⟩
def vN(t:TSd)(D:Ed)(τ:DS)(M:MH):Prop:=∃ a kvs,M a=some (.dic kvs)/\t
 {nx:=λ τ' M'=>M' a=some (.fdic kvs)/\D.nx τ' (bf M' a (.dic kvs)),rt:=λ w M'=>M' a=some (.fdic kvs)/\D.rt w (bf M' a (.dic kvs)),
  bk:=λ τ' M'=>M' a=some (.fdic kvs)/\D.bk τ' (bf M' a (.dic kvs)),ct:=λ τ' M'=>M' a=some (.fdic kvs)/\D.ct τ' (bf M' a (.dic kvs))} τ (bf M a (.fdic kvs))
theorem Abs.back(h:H a=some (.frz o (.frz o (.dK l))))(A:Abs K H σ τ M)(e:M a=some (.fdic kvs)):Abs K (upd H a (.dK l)) σ τ (bf M a (.dic kvs)):=
 ⟨A.len,λ i w q=>let ⟨v,q1,r⟩:=A.val i w q; ⟨v,q1,aE.back h r⟩,cq.back h A.mem e⟩
def aiE(te:TD)(tl th:TOd)(τ:DS)(M:MH)(Q:QD):Prop:=te τ M λ w M1=>tl τ M1 λ lo M2=>th τ M2 λ hi M3=>∃ ds,abr M3 w ds/\Q (.d (.list (cutD ds lo hi))) M3
theorem sX(r:aQ K H ws vs):∀ n:Nat,aQ K H (List.replicate n ws).flatten (List.replicate n vs).flatten
 | 0=>.nil
 | n+1=>by rw[List.replicate_succ,List.replicate_succ,List.flatten_cons,List.flatten_cons];exact r.append (sX r n)
end
theorem uw{st:Stmt}{t:TSd}(h:Jd (PSd X st t)):Jd (PSd X st (vN t)):=⟨have h:=h.h;qH (zT h) λ D σ H hq96=>by
 obtain⟨τ,M,Dd,A,⟨a,kvs,hm,q⟩,k1,k2,k3,k4⟩:=hq96;obtain⟨l,e,pr⟩:=A.mem _ _ hm;refine⟨a,l,e,λ o=>?_⟩;have kp:Kp H (upd H a (.frz o (.frz o (.dK l)))):=Kp.set e (λ _ z=>nomatch z) (λ _ _ z=>nomatch z);have m1:cq X.K (upd H a (.frz o (.frz o (.dK l)))) (bf M a (.fdic kvs)):=A.mem.put (mo:=.fdic kvs) kp ⟨o,l,au,Paired.gF pr λ p q z=>⟨z.1,z.2.keep kp⟩⟩;have kpb:∀ H',Kp (upd H a (.frz o (.frz o (.dK l)))) H'->Kp H (upd H' a (.dK l)):=λ H' kp'=>⟨λ b xs z=>by
   have hb:b≠a:=λ y=>by rw[y,e] at z;cases z
   rw[aq hb];exact kp'.tup b xs (by rw[aq hb];exact z),λ b ob u z=>by
   have hb:b≠a:=λ y=>by rw[y,e] at z;cases z
   rw[aq hb];exact kp'.frz b ob u (by rw[aq hb];exact z)⟩
 refine⟨τ,_,_,A.go kp m1,q,?_,?_,?_,?_⟩
 ·rintro σ' H' τ' M' kp' A' ⟨h1,q1⟩;have e':=kp'.frz a o _ au;exact⟨e',k1 _ _ _ _ (kpb H' kp') (Abs.back e' A' h1) q1⟩
 ·rintro v H' w M' kp' r' m' ⟨h1,q1⟩;have e':=kp'.frz a o _ au;exact⟨e',k2 _ _ _ _ (kpb H' kp') (aE.back e' r') (cq.back e' m' h1) q1⟩
 ·rintro σ' H' τ' M' kp' A' ⟨h1,q1⟩;have e':=kp'.frz a o _ au;exact⟨e',k3 _ _ _ _ (kpb H' kp') (Abs.back e' A' h1) q1⟩
 ·rintro σ' H' τ' M' kp' A' ⟨h1,q1⟩;have e':=kp'.frz a o _ au;exact⟨e',k4 _ _ _ _ (kpb H' kp') (Abs.back e' A' h1) q1⟩⟩
theorem uJ{te:TD}{lo hi:Option Expr}{tl th:TOd}{pos p2:Pos}(he:Jd (PD X e te))(hl:Jd (POd X lo tl))(hu:Jd (POd X hi th)):Jd (PD X (.Subscript e (.Slice lo hi none p2) pos) (aiE te tl th)):=⟨have he:=he.h;have hl:=hl.h;have hu:=hu.h;
 ft (vV (nU qF he hl hu)) λ σ H Q h=>by obtain⟨τ,M,Qd,A,h,k⟩:=h;refine⟨τ,M,_,A,h,λ v H1 w M1 kp1 r1 m1 q1=>⟨τ,M1,_,A.go kp1 m1,q1,λ lo H2 M2 kp2 m2 q2=>⟨τ,M2,_,A.go (kp1.trans kp2) m2,q2,λ hi H3 M3 kp3 m3 hq97=>?_⟩⟩⟩;obtain⟨ds,g,q⟩:=hq97;have kp:=(kp1.trans kp2).trans kp3;have r:=r1.keep (kp2.trans kp3);obtain⟨a,vs,e1,hs,ra⟩:=g.sound r m3;exact⟨a,vs,e1,hs,λ p hp=>.inr (jX hp (a9.cut ra lo hi) m3 q (kgo k kp))⟩⟩
end D
namespace S
open PySem PySem.W PyProof.Rows
def PR(N:Nat)(p:Array Nat):Prop:=p.Perm (List.toArray (List.range N))
end S
namespace D
open L2 S
section
variable {X:Cx}{K:FG}
end
def Tw(H H':Hp):Prop:=Kp H H'/\∀ b vs,H b=some (.lst vs)->H' b=some (.lst vs)\/∃ o,H' b=some (.frz o (.lst vs))
def agW(M:MH):Nat->W->PyData->Prop
 | 0,w,d=>w=.d d
 | n+1,w,d=>w=.d d\/(∃ a ws ds,w=.m a/\M a=some (.lst ws)/\d=.list ds/\Paired (agW M n) ws ds)\/∃ a ws ds,w=.m a/\M a=some (.tup ws)/\d=.tuple ds/\Paired (agW M n) ws ds
theorem agW.d:∀ {n:Nat},agW M n (.d x) x
 | 0=>rfl
 | _+1=>.inl rfl
section
variable {X:Cx}{K:FG}
end
theorem tM(I:Inv X pins σ H s)(h:H a=some (.lst l)):(∀ xs,X.H₀ a≠some (.tup xs))/\(∀ o v,X.H₀ a≠some (.frz o v))/\∀ ps,X.H₀ a≠some (.tbl ps):=by
 refine⟨λ xs e=>?_,λ o v e=>?_,λ ps e=>?_⟩
 ·have:=I.base.tups a xs e;rw[h] at this;cases this
 ·have:=I.base.frzs a o v e;rw[h] at this;cases this
 ·obtain⟨m,this⟩:=I.base.tbls a ps e;rw[h] at this;cases this
theorem Inv.abq(I:Inv X pins σ H s)(h:H a=some (.lst l)):∃ o,Inv X pins σ (upd H a (.frz o (.frz o (.lst l)))) s:=by have f:Fz (.lst l):=trivial;obtain⟨o,ho⟩:=(I.hok a _ h).obj f;obtain⟨b1,b2,b3⟩:=tM I h;exact⟨o,Inv.swap I h (λ _ z=>nomatch z) (λ _ z=>nomatch z) b1 b2 b3 ⟨ho,ho,(I.hok a _ h).aeC f⟩⟩
theorem Inv.afG(I0:Inv X pins σ0 H0 s0)(h0:H0 a=some (.lst l))(I:Inv X pins σ H s)(h:H a=some (.frz o (.frz o (.lst l)))):Inv X pins σ (upd H a (.lst l)) s:=by have f:Fz (.lst l):=trivial;obtain⟨b1,b2,b3⟩:=tM I0 h0;exact Inv.swap I h (λ _ z=>nomatch z) (λ _ z=>nomatch z) b1 b2 b3 ((I.hok a _ h).2.2.aeC f)
def acM(t:TE):TE:=λ σ H Q=>∃ a l,H a=some (.lst l)/\∀ o,t σ (upd H a (.frz o (.frz o (.lst l)))) λ v H'=>H' a=some (.frz o (.frz o (.lst l)))/\Q v (upd H' a (.lst l))
theorem xK(h:PE X e t):PE X e (acM t):=by intro pins s σ H Q I ⟨a,l,ha,q⟩;obtain⟨o,I1⟩:=Inv.abq I ha;exact thn (h pins s σ _ _ I1 (q o)) λ v s1 ⟨x,H',I2,r,e,q2⟩=>⟨x,_,Inv.afG I ha I2 e,r,q2⟩
section
variable {K:FG}{H:Hp}{a:Addr}{o:Obj}{l:List V}
theorem Kp.cR(h:H a=some (.frz o (.frz o (.lst l)))):(∀ b xs,H b=some (.tup xs)->upd H a (.lst l) b=some (.tup xs))/\(∀ b ob ys,H b=some (.frz ob (.lst ys))->upd H a (.lst l) b=some (.frz ob (.lst ys)))/\∀ b ob ys,H b=some (.frz ob (.dK ys))->upd H a (.lst l) b=some (.frz ob (.dK ys)):=by
 refine⟨λ b xs e=>?_,λ b ob ys e=>?_,λ b ob ys e=>?_⟩<;>
 ·rw[aq (λ z=>by rw[z,h] at e;cases e)];exact e
theorem SqT.cR(h:H a=some (.frz o (.frz o (.lst l))))(r:SqT K H b vs):SqT K (upd H a (.lst l)) b vs:=by
 rcases r with (r | ⟨ob,r⟩) | r
 ·exact .inl (.inl ((Kp.cR h).1 _ _ r))
 ·refine .inl (.inr ⟨ob,?_⟩);rw[aq (λ z=>by rw[z,h] at r;cases r)];exact r
 ·exact .inr r
theorem SqF.cR(h:H a=some (.frz o (.frz o (.lst l))))(r:SqF K H b vs):SqF K (upd H a (.lst l)) b vs:=by
 rcases r with ⟨ob,r⟩ | r
 ·exact .inl ⟨ob,(Kp.cR h).2.1 _ _ _ r⟩
 ·exact .inr r
mutual
theorem aA.cR(h:H a=some (.frz o (.frz o (.lst l)))):∀ {d:PyData} {v:V},aA K H d v->aA K (upd H a (.lst l)) d v
 | .none,v,r=>by simp only[aA] at r ⊢;exact r
 | .bool b,v,r=>by simp only[aA] at r ⊢;exact r
 | .int i,v,r=>by simp only[aA] at r ⊢;exact r
 | .str x,v,r=>by simp only[aA] at r ⊢;exact r
 | .list ds,v,r=>by simp only[aA] at r ⊢;obtain⟨b,vs,e,q,r⟩:=r;exact⟨b,vs,e,SqF.cR h q,a9.cR h r⟩
 | .tuple ds,v,r=>by simp only[aA] at r ⊢;obtain⟨b,vs,e,q,r⟩:=r;exact⟨b,vs,e,SqT.cR h q,a9.cR h r⟩
 | .dict kvs,v,r=>by simp only[aA] at r ⊢;obtain⟨b,ob,m,e,q,r⟩:=r;exact⟨b,ob,m,e,(Kp.cR h).2.2 _ _ _ q,gW.cR h r⟩
theorem a9.cR(h:H a=some (.frz o (.frz o (.lst l)))):∀ {ds:List PyData} {vs:List V},a9 K H ds vs->a9 K (upd H a (.lst l)) ds vs
 | [],vs,r=>by simp only[a9] at r ⊢;exact r
 | d::ds,vs,r=>by simp only[a9] at r ⊢;obtain⟨v,q,e,h1,h2⟩:=r;exact⟨v,q,e,aA.cR h h1,a9.cR h h2⟩
theorem gW.cR(h:H a=some (.frz o (.frz o (.lst l)))):∀ {ds:List (PyData×PyData)} {m:List (Key×V)},gW K H ds m->gW K (upd H a (.lst l)) ds m
 | [],m,r=>by simp only[gW] at r ⊢;exact r
 | (key,d)::ds,m,r=>by simp only[gW] at r ⊢;obtain⟨k',v,q,e,ek,h1,h2⟩:=r;exact⟨k',v,q,e,ek,aA.cR h h1,gW.cR h h2⟩
end
theorem aE.cR(h:H a=some (.frz o (.frz o (.lst l)))):∀ {w:W} {v:V},aE K H w v->aE K (upd H a (.lst l)) w v
 | .d _,_,r=>aA.cR h r
 | .m _,_,r=>r
 | .t _,_,r=>r
theorem cq.cR(h:H a=some (.frz o (.frz o (.lst l))))(m:cq K H M)(e:M a=some (.flst ws0)):cq K (upd H a (.lst l)) (bf M a (.lst ws0)):=λ b mo q=>by
 by_cases hb:b=a
 ·subst hb;rw[ag] at q;cases q;obtain⟨o',l',e',pr⟩:=m _ _ e;rw[h] at e';cases e';exact⟨l,au,Paired.gF pr λ _ _ z=>aE.cR h z⟩
 ·rw[aj hb] at q;have r:=m b mo q;cases mo with
  | lst ws=>obtain⟨vs,e,r⟩:=r;exact⟨vs,by rw[aq hb];exact e,Paired.gF r λ _ _ z=>aE.cR h z⟩
  | dic kvs=>obtain⟨l,e,r⟩:=r;exact⟨l,by rw[aq hb];exact e,Paired.gF r λ p q z=>⟨z.1,aE.cR h z.2⟩⟩
  | dct kvs=>obtain⟨l,e,r⟩:=r;exact⟨l,by rw[aq hb];exact e,Paired.gF r λ p q z=>⟨z.1,aE.cR h z.2⟩⟩
  | fdic kvs=>obtain⟨o,l,e,r⟩:=r;exact⟨o,l,by rw[aq hb];exact e,Paired.gF r λ p q z=>⟨z.1,aE.cR h z.2⟩⟩
  | ins C fs=>obtain⟨dx,l,e,r⟩:=r;exact⟨dx,l,by rw[aq hb];exact e,Paired.gF r λ p q z=>⟨z.1,aE.cR h z.2⟩⟩
  | tup ws=>obtain⟨vs,e,r⟩:=r;exact⟨vs,by rw[aq hb];exact e,Paired.gF r λ _ _ z=>aE.cR h z⟩
  | flst ws=>obtain⟨o,vs,e,r⟩:=r;exact⟨o,vs,by rw[aq hb];exact e,Paired.gF r λ _ _ z=>aE.cR h z⟩
  | exc C fs =>
   obtain⟨φ,dct,e,p,r⟩:=r;refine⟨φ,dct,by rw[aq hb];exact e,p,?_⟩;rcases r with r | ⟨dx,o',l',e1,e2,r⟩
   ·exact .inl r
   ·exact .inr ⟨dx,o',l',e1,by rw[aq (λ z=>by rw[z,h] at e2;cases e2)];exact e2,Paired.gF r λ p q z=>⟨z.1,aE.cR h z.2⟩⟩
  | code q pos =>
   obtain⟨ps,e,ht,hc⟩:=r;refine⟨ps,by rw[aq hb];exact e,ht,?_⟩;rcases hc with hc | ⟨c,o',vs,t,e1,e2,e3⟩
   ·exact .inl hc
   ·exact .inr ⟨c,o',vs,t,e1,by rw[aq (λ z=>by rw[z,h] at e2;cases e2)];exact e2,e3⟩
end
def xM(t:TD)(τ:DS)(M:MH)(Q:QD):Prop:=∃ a ws,M a=some (.lst ws)/\t τ (bf M a (.flst ws)) λ v M'=>M' a=some (.flst ws)/\Q v (bf M' a (.lst ws))
theorem zi(e:H a=some (.lst l))(kp':Kp (upd H a (.frz o (.frz o (.lst l)))) H'):Kp H (upd H' a (.lst l)):=⟨λ b xs z=>by
  have hb:b≠a:=λ y=>by rw[y,e] at z;cases z
  rw[aq hb];exact kp'.tup b xs (by rw[aq hb];exact z),λ b ob u z=>by
  have hb:b≠a:=λ y=>by rw[y,e] at z;cases z
  rw[aq hb];exact kp'.frz b ob u (by rw[aq hb];exact z)⟩
abbrev gB(o:Obj)(l:List V):HO:=.frz o (.frz o (.lst l))
theorem il(ok:HOk P w H h)(e:H a=some (gB o l)):∃ its:List Value,Vals l its/\h.IsList a its.toArray:=by obtain⟨ho,_,z,its,n,r,h1⟩:=ok a _ e;exact⟨its,r,⟨_,h1,rfl,n,rfl⟩⟩
def Itf(a:Addr)(o:Obj)(l:List V):It:=
 ⟨λ i H=>H a=some (gB o l)/\i<l.length,λ i H x H'=>H'=H/\l[i]? =some x,λ i H=>H a=some (gB o l)/\l.length<=i⟩
theorem lX{P:Program}{w:World}{K:FG}{tg:Expr}(a it:Addr)(o:Obj)(l:List V):Turn P w K tg (Itf a o l) [it] it (λ i h=>h.IsListIter it a i) where
 mem:=by simp
 obj:=λ i h st b hb=>by
  have e:b=it:=by simpa using hb
  subst e;obtain⟨o,e,c,d⟩:=st;exact⟨o,e,λ v z=>by rw[d] at z;cases z⟩
 keep:=λ i h h' st k=>st.at λ o e=>k it (by simp) o e
 item:=by intro X hP hw hK hc i pins s σ H E I hf st ⟨hg,hi⟩;subst hP hw hK;obtain⟨its,rv,p⟩:=il I.hok hg;obtain⟨u,hu,ru⟩:=rv.get (List.getElem?_eq_getElem hi);obtain⟨f0,f1,f2,f3,f4,f5⟩:=hf it (by simp);refine wpAny_pyNext_list_item st p (x:=u) (by simpa using hu) λ h' st' sb=>?_;have I1:Inv X pins σ H {s with heap:=h'}:=I.turned (t':=s.toks) (λ b o hb e=>(sb.2 b hb).trans e) f0 f1 f3 f4 f5;obtain⟨o,e,c,d⟩:=id st';exact⟨u,rfl,wt (s:={s with heap:=h'}) e c d (by decide) ⟨_,H,I1,ru,⟨rfl,List.getElem?_eq_getElem hi⟩,st',λ b hb=>(hf b hb).1⟩⟩
 done:=by intro X hP hw hK hc i pins s σ H E I hf st ⟨hg,hi⟩;subst hP hw hK;obtain⟨its,rv,p⟩:=il I.hok hg;obtain⟨f0,f1,f2,f3,f4,f5⟩:=hf it (by simp);have hl:=rv.length;exact wpAny_pyNext_list_end (I.ok.hd hc) st p (by simp;omega) λ h' eb=>⟨rfl,I.turned (t':=s.toks) (λ b o hb e=>eb b o hb e) f0 f1 f3 f4 f5⟩
 self:=λ _ _ _ _ _ st h=>wpAny_pyIter_listiter st h
def ago(td:TE):TI:=λ σ H R=>td σ H λ x H1=>∃ a o l,x=.ref a/\H1 a=some (gB o l)/\R (Itf a o l) H1
theorem zw{td:TE}(ho:PE X o td):PI X tg o (ago td):=by
 intro pins s σ H R I h;refine thn (ho pins s σ H _ I h) λ v s1 hq100=>?_;obtain⟨x,H1,I1,r1,a,ob,l,ex,hg,q⟩:=hq100;subst ex;cases r1;obtain⟨its,rv,p⟩:=il I1.hok hg;refine wpAny_pyIter_list p ?_;refine⟨s1.heap.objs.size,[s1.heap.objs.size],_,_,H1,rfl,I1.kept (t':=s1.toks) λ b o e=>Heap.get?_push_of_some _ e,lX a _ ob l,⟨_,Heap.get?_push_size _ rfl,rfl,rfl⟩,λ b hb=>?_,q⟩;have e:b=s1.heap.objs.size:=by simpa using hb
 subst e;exact I1.mB (Nat.le_refl _) (I1.hok.fresh (Nat.le_refl _))
def yz(td:TD)(τ:DS)(M:MH)(R:List W->MH->Prop):Prop:=td τ M λ w M1=>∃ a ws,w=.m a/\M1 a=some (.flst ws)/\R ws M1
end D
namespace D
open L2
theorem uW(h:Jd (PD X e t)):Jd (PD X e (xM t)):=⟨have h:=h.h;ft (xK h) λ σ H Q hq98=>by obtain⟨τ,M,Qd,A,⟨a,ws,hm,q⟩,k⟩:=hq98;obtain⟨l,e,pr⟩:=A.mem _ _ hm;refine⟨a,l,e,λ o=>?_⟩;have kp:Kp H (upd H a (.frz o (.frz o (.lst l)))):=Kp.set e (λ _ z=>nomatch z) (λ _ _ z=>nomatch z);have m1:cq X.K (upd H a (.frz o (.frz o (.lst l)))) (bf M a (.flst ws)):=A.mem.put (mo:=.flst ws) kp ⟨o,l,au,aQ.keep kp pr⟩;refine⟨τ,_,_,A.go kp m1,q,λ v H' w M' kp' r' m' hq99=>?_⟩;obtain⟨h1,q1⟩:=hq99;have e':=kp'.frz a o _ au;exact⟨e',k _ _ w _ (zi e kp') (aE.cR e' r') (cq.cR e' m' h1) q1⟩⟩
theorem qV(ho:Jd (PD X o td)):Jd (PId X tg o (yz td)):=⟨have ho:=ho.h;adt (zw ho) λ σ H R hq101=>by obtain⟨τ,M,Rd,A,h,k⟩:=hq101;refine⟨τ,M,_,A,h,λ v H1 w M1 kp r m hq102=>?_⟩;obtain⟨a,ws,ew,hm,q⟩:=hq102;subst ew;obtain⟨ob,l,e,pr⟩:=m _ _ hm;refine⟨a,ob,l,r,e,k _ H1 _ M1 kp m (λ H2 kp2 i=>?_) q⟩;have hl:=pr.length;have e2:=kp2.frz a ob _ e;refine⟨λ hi=>⟨e2,by omega⟩,λ hi=>⟨e2,by omega⟩,λ x H' hi hq103=>?_⟩;obtain⟨eH,ex⟩:=hq103;subst eH;have hi2:i<ws.length:=hi;obtain⟨x',ex',rx⟩:=aQ.get (aQ.keep kp2 pr) (List.getElem?_eq_getElem hi2);rw[ex'] at ex;cases ex;exact⟨Kp.refl _,λ M m=>m,ws[i],List.getElem?_eq_getElem hi2,rx⟩⟩
theorem rP(hN:X.N.Nodup)(hi':X.N[i]? =some x)(hx:Loc X.env.scope x)(hc:X.calm=true)(L:lY X sc own fr)(hi:PId X tg iter di)
  (hg:∀ cl C s H ex pl,PGd (blk X sc (lcN X own fr) cl C s H ex pl) tg g)(ht:∀ cl C s H ex pl,uH (blk X sc (lcN X own fr) cl C s H ex pl) ifs tt)(he:∀ cl C s H ex pl,PD (blk X sc (lcN X own fr) cl C s H ex pl) elt te)
  (hsw:swapsWith (.ListComp elt [⟨tg,iter,ifs,0⟩] sc pos) (some (.Name x pos')) spos.line X.env=pure true:=by rfl)
  (hs:∀ x,foldedSetIterable iter X.env x=pure x:=by intro _;rfl)(hf:X.fn x=true\/X.env.scope.names.lookup x=some .local:=by first | exact .inl rfl | exact .inr rfl | assumption) :
  PSd X (.Assign [.Name x pos'] (.ListComp elt [⟨tg,iter,ifs,0⟩] sc pos) spos) (cf (ad8 di g tt te own.length fr) (gN i)):=qH (tV hN hi' hx hc L hi hg ht he hsw hs hf) λ D σ H hq104=>by
 obtain⟨τ,M,Dd,A,h,k1,_⟩:=hq104;have z:up X.K (ad8 di g tt te own.length fr) σ H (λ v H'=>D.nx (σ.set i (some v)) H'):=⟨τ,M,_,A,h,λ v H1 w M1 kp r m q=>k1 _ H1 _ M1 kp ((A.go kp m).set i r) q⟩;exact ady z
theorem ki(hN:X.N.Nodup)(hi':X.N[i]? =some x)(hx:Loc X.env.scope x)(hc:X.calm=true)(L:lY X sc own fr)(hi:Jd (PId X tg iter di))
  (hg:∀ cl C s H ex pl,Jd (PGd (blk X sc (lcN X own fr) cl C s H ex pl) tg g))(ht:∀ cl C s H ex pl,Jd (uH (blk X sc (lcN X own fr) cl C s H ex pl) ifs tt))(he:∀ cl C s H ex pl,Jd (PD (blk X sc (lcN X own fr) cl C s H ex pl) elt te))
  (hsw:swapsWith (.ListComp elt [⟨tg,iter,ifs,0⟩] sc pos) (some (.Name x pos')) spos.line X.env=pure true:=by rfl)
  (hs:∀ x,foldedSetIterable iter X.env x=pure x:=by intro _;rfl)(hf:X.fn x=true\/X.env.scope.names.lookup x=some .local:=by first | exact .inl rfl | exact .inr rfl | assumption) :
  Jd (PSd X (.Assign [.Name x pos'] (.ListComp elt [⟨tg,iter,ifs,0⟩] sc pos) spos) (cf (ad8 di g tt te own.length fr) (gN i))):=⟨D.rP hN hi' hx hc L hi.h (λ cl C s H ex pl=>(hg cl C s H ex pl).h) (λ cl C s H ex pl=>(ht cl C s H ex pl).h) (λ cl C s H ex pl=>(he cl C s H ex pl).h) hsw hs hf⟩
theorem ah0(h:us.length=0):us=[]:=by exact List.eq_nil_of_length_eq_zero h
theorem gH(h:us.length=1):∃ a1:Value,us=[a1]:=by
 cases us with
 | nil=>simp at h
 | cons a r =>
  have e:r=[]:=ah0 (by simpa using h);subst e;exact⟨a,rfl⟩
theorem ka(h:us.length=2):∃ a1 a2:Value,us=[a1,a2]:=by
 cases us with
 | nil=>simp at h
 | cons a r =>
  obtain⟨b1,e⟩:=gH (us:=r) (by simpa using h);subst e;exact⟨a,b1,rfl⟩
theorem zx(h:us.length=3):∃ a1 a2 a3:Value,us=[a1,a2,a3]:=by
 cases us with
 | nil=>simp at h
 | cons a r =>
  obtain⟨b1,b2,e⟩:=ka (us:=r) (by simpa using h);subst e;exact⟨a,b1,b2,rfl⟩
section
variable {X:Cx}{K:FG}
end
section
variable {X:Cx}{K:FG}
end
section
variable {X:Cx}{K:FG}
end
section
variable {K:FG}
variable {X:Cx}{sc:Scope}{own:List Str}{fr:List Nat}{di:TId}{g:TGd}{tt:TTd}{te:TD}{tg iter elt:Expr}{ifs:List Expr}{pos:Pos}
end
section
variable {X:Cx}{tg iter elt:Expr}{pos:Pos}{sc:Scope}{own:List Str}{fr:List Nat}{di:TId}{g:TGd}{tt:TTd}{te:TD}{ifs:List Expr}
end
end D
namespace XO
open PySem.W Builtin.ObjectAttr
def rL:List Value:=[.type "ValueError",.type "Exception",.type "BaseException",.type "object"]
def dJ:List Value->Bool
 | .ref _::r=>dJ r
 | l=>l==rL
theorem n8{l:List Value}(h:dJ l=true):l.isEmpty=false:=by
 cases l with
 | nil=>exact absurd h (by decide)
 | cons _ _=>rfl
theorem mJ{l:List Value}(h:dJ l=true):(∃ a r,l=.ref a::r/\dJ r=true)\/l=rL:=by
 cases l with
 | nil=>exact absurd h (by decide)
 | cons v r =>
  cases v<;>first | exact .inl ⟨_,_,rfl,h⟩ | exact .inr (eq_of_beq (by simpa only[dJ] using h))
theorem nX(T:String)(hT:rL.contains (.type T)=true):∀ {l:List Value},dJ l=true->l.contains (.type T)=true:=by
 intro l
 induction l with
 | nil=>intro h;exact absurd h (by decide)
 | cons v r ih =>
  intro h;rcases mJ h with ⟨a,r',e,q⟩ | e
  ·cases e;rw[List.contains_cons,ih q,Bool.or_true]
  ·rw[e];exact hT
theorem rJ(self:Value):∀ {l:List Value},dJ l=true->refuseLoop self "__setattr__" l=pure ():=by
 intro l
 induction l with
 | nil=>intro h;exact absurd h (by decide)
 | cons v r ih =>
  intro h;rcases mJ h with ⟨a,r',e,q⟩ | e
  ·cases e;rw[refuseLoop_ref];exact ih q
  ·rw[e];exact PySem.F.store_ValueError.passes self
def aa0(K:Frag)(C:Addr):Bool:=(clsIn K C).any λ cd=>cd.hasDict&&dJ cd.mro
theorem fC{K:Frag}{C:Addr}(h:aa0 K C=true):∃ cd,clsIn K C=some cd/\cd.hasDict=true/\dJ cd.mro=true:=by obtain⟨cd,e,q⟩:=any_some h;simp only[Bool.and_eq_true] at q;exact⟨cd,e,q.1,q.2⟩
section
variable {prog:Program}{w:World}{A:Around}{E:VP}{s:Shared}{K:Frag}{x C:Addr}{name:Str}{v:Value}
theorem aiJ{M:Model}{h:Heap}{ox:Obj}{od:Option Obj}(X:K.In h)(c:aa0 K C=true)(I:W.InstAt h x ox C od){T:String}(hT:rL.contains (.type T)=true):Looks M h (isInstance (.ref x) (.type T)) true:=by obtain⟨cd,hc,_,hm⟩:=fC c;refine I.type.andThen (looks_mroIn X ?_);unfold mroIn;rw[hc,Option.bind_some,if_neg (by rw[n8 hm];decide),nX T hT hm]
theorem aji{R:Result->Shared->Prop}{ox:Obj}{od:Option Obj}{tk:Tok}(X:K.In s.heap)(I:W.InstAt s.heap x ox C od)(c:aa0 K C=true)(na:findIn K (.ref C) name=some none)
  (h:∀ b,wpAny (model prog w) A.in1 (storeInOwnDict (.ref x) (.ref C) (.str name tk) name v b)
   (λ fin s'=>match fin with | .done f=>R (.ok f) s' | .again c'=>c'.quiet=true/\codeAny (model prog w) A c' R s') (λ e s'=>R (.error e) s') s) :
  codeAny (model prog w) A (.call (.builtin "object.__setattr__") ⟨[.ref x,.str name tk,v],[]⟩) R s:=by
 obtain⟨cd,hc,_,hm⟩:=fC c;have S:=PySem.F.store_object;refine codeAny_call_builtin S.slot.plain S.entry (@check_slot (model prog w) _ _ s "object.__setattr__" "object" "__setattr__" (.ref x) [.str name tk,v] [] _ S.kind S.split (aiJ X c I (by decide)) (S.args (.ref x) (.str name tk) v) ?_);rw[osa_eq,refuse_eq];have hm':Looks (model prog w) s.heap (mroOf (.ref C)) cd.mro:=(looks_clsIn X hc).andThen .now;refine wpAny_bind (wpAny_bind (I.type.here (wpAny_bind (hm'.here ?_))));rw[rJ _ hm];refine wpAny_pure ?_;exact wpAny_bind (I.type.here (wpAny_bind ((looks_findIn X na).here (wpAny_bind (wpAny_pure (h _))))))
theorem ahh{Q:Unit->Shared->Prop}{vs:Array Value}{sl:Array (Option Value)}(X:K.In s.heap)(c:aa0 K C=true)(sa:findIn K (.ref C) "__setattr__" = some (some (.builtin "object.__setattr__")))
  (na:findIn K (.ref C) name=some none)(hx:s.heap.get? x=some ⟨.ref C,none,.fields vs,sl⟩)
  (h:∀ h' tk dx,s.heap.objs.size<=dx->dx≠x->h'.get? x=some ⟨.ref C,some dx,.fields vs,sl⟩->h'.Ns1 dx (λ y=>if y=name then some v else none)->(∀ b o,b≠x->s.heap.get? b=some o->h'.get? b=some o)->Q () {s with heap:=h',toks:=tk}) :
  wpAny (model prog w) A (setAttr (.ref x) name v) Q E s:=by
 have I:W.InstAt s.heap x ⟨.ref C,none,.fields vs,sl⟩ C none:=⟨hx,rfl,rfl,True.intro⟩;refine set_plain X I sa (aji (s:={s with toks:=s.toks+1}) X I c na λ b=>?_);obtain⟨cd,hc,hd,_⟩:=fC c;refine wpAny_bind (wpAny_pure (wpAny_bind (wpAny_bind (wpAny_loadPart hx (wpAny_bind (W.Looks.here (s:={s with toks:=s.toks+1}) (looks_clsIn X hc) ?_))))));rw[hd];have lx:x<s.heap.objs.size:=Heap.lt_size hx;have ne:s.heap.objs.size≠x:=Nat.ne_of_gt lx;refine wpAny_bind (wpAny_alloc' (wpAny_bind (wpAny_update' (Heap.get?_push_of_some _ hx) (wpAny_pure ?_))));have e1:((s.heap.push {cls:=.type "dict",data:=.dict #[]}).update x λ o=>{o with dict:=some s.heap.objs.size}).get? s.heap.objs.size=some {cls:=.type "dict",data:=.dict #[]}:=
  (Heap.get?_update_ne _ _ _ _ ne).trans (Heap.get?_push_at rfl rfl)
 have e2:((s.heap.push {cls:=.type "dict",data:=.dict #[]}).update x λ o=>{o with dict:=some s.heap.objs.size}).get? x=some ⟨.ref C,some s.heap.objs.size,.fields vs,sl⟩:=
  Heap.get?_update_self _ (Heap.get?_push_of_some _ hx) rfl
 have e3:((s.heap.push {cls:=.type "dict",data:=.dict #[]}).update x λ o=>{o with dict:=some s.heap.objs.size}).Ns s.heap.objs.size (λ _=>none):=⟨_,#[],_,e1,rfl,λ _ z=>absurd z (by simp),λ _=>rfl⟩;refine wpAny_bind (wpAny_pure (wpAny_bind (wpAny_nsSet1 (Heap.Ns1.of_empty e3) λ h2 n2 sb=>?_)));obtain⟨oD,esD,epD,g1,g2,g3⟩:=n2.count (PySem.Within.cons name v PySem.Within.nil);refine wpAny_bind (wpAny_lookBehind g1 (by rw[g2];exact pastItsLine_dict (Nat.le_trans g3 (by rw[List.length_cons,List.length_nil,sizeLine_eq];omega))) (wpAny_pure ?_));exact h h2 _ _ (Nat.le_refl _) ne ((sb.2 x (Ne.symm ne)).trans e2) n2 λ b o hb z=>(sb.2 b (Nat.ne_of_lt (Heap.lt_size z))).trans ((Heap.get?_update_ne _ _ _ _ hb).trans (Heap.get?_push_of_some _ z))
end
section
variable {prog:Program}{w:World}{A:Around}{E:VP}{s:Shared}{K:Frag}{x C:Addr}{name:Str}{v:Value}{ox:Obj}{od:Option Obj}
theorem ab8:builtinKind "BaseException.__getattribute__" = some .slot:=by decide +kernel
theorem zC:splitId "BaseException.__getattribute__" = some ("BaseException", "__getattribute__"):=by decide +kernel
structure XC(K:Frag)(C:Addr):Prop where
 x:aa0 K C=true
 sa:findIn K (.ref C) "__setattr__" = some (some (.builtin "object.__setattr__"))
 ga:findIn K (.ref C) "__getattribute__" = some (some (.builtin "BaseException.__getattribute__"))
 gt:findIn K (.ref C) "__getattr__" = some none
 cl:findIn K (.ref C) "__class__" = some (some (.builtin "object.__class__"))
 cg:specialIn K (.builtin "object.__class__") "__get__" = some (some (.builtin "getset_descriptor.__get__"))
 ct:takesIn K (.builtin "object.__class__")=some true
theorem xby{fill expr:Bool}{tk:Tok}{Q:VP}(X:K.In s.heap)(c:XC K C)(I:W.InstAt s.heap x ox C od)
  (h:wpAny (model prog w) A.in1 (Builtin.«object.__getattribute__» ⟨[.ref x,.str name tk],[]⟩)
   (λ fin s'=>match fin with | .done (.ret v)=>wpAny (model prog w) A (handedOut v) Q E s' | _=>False) (λ _ _=>False) s) :
  wpAny (model prog w) A (getAttrBy (.ref x) (.str name tk) fill expr) Q E s:=by
 unfold getAttrBy;refine wpAny_holding (wpAny_bind (I.type.here (wpAny_bind ((looks_findIn X c.ga).here ?_))));have e1:(onTheHeap (Value.ref C)&&(Value.builtin "BaseException.__getattribute__" == Value.builtin "object.__getattribute__"))=false:=by rw[show(Value.builtin "BaseException.__getattribute__" == Value.builtin "object.__getattribute__")=false from by decide,Bool.and_false]
 dsimp only;rw[if_neg (by rw[e1];decide)];unfold getAttrByItsOwn hookBefore;refine wpAny_bind ?_;rw[if_pos (show onTheHeap (Value.ref C)=true from rfl)];refine(looks_findIn X c.gt).here ?_;refine wpAny_bind (wpAny_attempt (wpAny_holding ?_));unfold callGetattribute;rw[if_neg (by rw[show onTheHeap (Value.builtin "BaseException.__getattribute__")=false from rfl,Bool.and_false];decide)];unfold boundAndCalled;rw[PySem.F.excAttr_ValueError.ga.bind];refine wpAny_bind (wpAny_pure ?_);refine wpAny_call (codeAny_call_builtin PySem.F.excAttr_ValueError.ga.plain PySem.F.entry_bexc_ga (@check_slot (model prog w) _ _ s _ "BaseException" "__getattribute__" (.ref x) [.str name tk] [] _ ab8 zC (aiJ X c.x I (by decide)) (PySem.F.args_bexc_ga _ _) ?_));refine wpAny_mono h (λ fin s' z=>?_) λ _ _ z=>z.elim;rcases fin with (_ | _ | _ | _) | _<;>first | exact z | exact z.elim
theorem ajh{expr:Bool}{Q:VP}(X:K.In s.heap)(c:XC K C)(I:W.InstAt s.heap x ox C od)(hf:findObj K C od name=some (.value v))(hh:handedIn v=true)(h:Q v {s with toks:=s.toks+1}) :
  wpAny (model prog w) A (getAttr (.ref x) name expr) Q E s:=by
 unfold getAttr;refine wpAny_bind (wpAny_mkText (xby (s:={s with toks:=s.toks+1}) X c I ?_));refine wpAny_bind (wpAny_pure (wpAny_bind (wpAny_pure (wpAny_bind (W.Looks.here (s:={s with toks:=s.toks+1}) I.type (wpAny_bind (W.Looks.here (s:={s with toks:=s.toks+1}) (looks_find X I hf) ?_)))))));refine wpAny_pure ?_;show wpAny _ _ (handedOut v) _ _ _;rw[handedOut_of hh];exact wpAny_pure h
theorem XC.mro(c:XC K C):mroIn K C (.type "object")=some true:=by obtain⟨cd,hc,_,hm⟩:=fC c.x;unfold mroIn;rw[hc,Option.bind_some,if_neg (by rw[n8 hm];decide),nX "object" (by decide) hm]
theorem XC.at(c:XC K C):∃ cd o dd sl,K.lookup C=some ⟨o,dd,.cls cd,sl⟩:=by
 obtain⟨cd,hc,_,_⟩:=fC c.x;unfold clsIn at hc
 split at hc
 ·rename_i ho;exact⟨_,_,_,_,ho⟩
 ·cases hc
theorem XC.look{M:Model}{h:Heap}(c:XC K C)(X:K.In h):Looks M h (isType (.ref C)) true:=by obtain⟨cd,o,dd,sl,ho⟩:=c.at;refine λ A' Q' E' s' k q=>?_;unfold isType loadHead;exact wpAny_bind (wpAny_loadPart (k _ _ (X _ _ ho)) (wpAny_pure q))
theorem afC{Q:Option Value->Shared->Prop}(X:K.In s.heap)(c:XC K C)(I:W.InstAt s.heap x ox C od)(h:Q (some (.ref C)) {s with toks:=s.toks+1}):wpAny (model prog w) A (getAttr? (.ref x) "__class__") Q E s:=by
 obtain⟨cd,hc,_,hm⟩:=fC c.x;have hf:findObj K C od "__class__" = some (.bind (.builtin "getset_descriptor.__get__") (.builtin "object.__class__")):=by
  unfold findObj;rw[hc,Option.bind_some,c.cl,Option.bind_some];simp[c.cg,c.ct]
 unfold getAttr? getAttrBy?;refine wpAny_bind (wpAny_mkText (wpAny_bind (wpAny_attempt (xby (s:={s with toks:=s.toks+1}) X c I ?_))));refine wpAny_bind (wpAny_pure (wpAny_bind (wpAny_pure (wpAny_bind (W.Looks.here (s:={s with toks:=s.toks+1}) I.type (wpAny_bind (W.Looks.here (s:={s with toks:=s.toks+1}) (looks_find X I hf) ?_)))))));show wpAny _ _ (holding [Value.builtin "object.__class__"] (call (.builtin "getset_descriptor.__get__") [.builtin "object.__class__",.ref x,.ref C]) >>= ret) _ _ _;refine wpAny_bind (wpAny_holding (wpAny_call (class_get (s:={s with toks:=s.toks+1}) X I c.mro ?_)));exact wpAny_pure (handed_on rfl (wpAny_pure h))
theorem aa8(c:XC K C):KitX K (.ref x) (.ref C) (λ h=>W.InstAt h x ox C od) where
 ty:=λ _ _ _ I=>I.type
 it:=λ _ _ X _=>c.look X
 ne:=λ h tp dd its n sl X htp=>by obtain⟨cd,o,d',s',e⟩:=c.at;refine Bool.eq_false_iff.mpr λ q=>?_;cases Value.ref.inj (beq_iff_eq.mp q);have z:=(X _ _ e).symm.trans htp;cases z
 ca:=λ X I k=>afC X c I k
end
def xmk(K:Frag)(C:Addr):Bool:=match K.lookup C with
 | some ⟨.type "type",_,.cls cd,sl⟩=>(match cd.mro,sl.toList with
  | .ref D::bm,[_,_,_,_,some (.builtin n),_]=>D==C&&n == "ValueError.__new__" && !cd.hasDel&&tailIn K rL bm
  | _,_=>false)
 | _=>false
theorem abz{K:Frag}{C:Addr}{h:Heap}(X:K.In h)(e:xmk K C=true):∃ nm q N bs bm hdct sn sub ab col dd k0 k1 k2 k3 k5,
  h.get? C=some (excClassObj nm q C N bs bm hdct sn sub ab col dd k0 k1 k2 k3 k5 "ValueError.__new__")/\OwnTail h rL bm:=by
 unfold xmk at e
 split at e
 ·rename_i dd cd sl ho
  split at e
  ·rename_i D bm a0 a1 a2 a3 n a5 hm hs
   simp only[Bool.and_eq_true,beq_iff_eq,Bool.not_eq_true'] at e;obtain⟨⟨⟨h1,h2⟩,h3⟩,h4⟩:=e;subst h1 h2;obtain⟨c1,c2,c3,c4,c5,c6,c7,c8,c9,c10,c11⟩:=cd;dsimp only at hm h3;subst hm h3;obtain⟨l⟩:=sl;simp only at hs;subst hs;exact⟨_,_,_,_,_,_,_,_,_,_,_,_,_,_,_,_,X _ _ ho,tail_of_in X h4⟩
  ·cases e
 ·cases e
abbrev ve(C t:Addr):Obj:={cls:=.ref C,data:=.fields #[.ref t,.none,.none,.none,.bool false,.none]}
section
variable {prog:Program}{w:World}{A:Around}{E:VP}{K:Frag}{C f:Addr}{h:Heap}{g:Array GenState}{d:Drawn}{t:Nat}{os:OsState}
theorem ahN{us:List Value}{Q:PySem.Fin->Shared->Prop}(X:K.In h)(c:XC K C)(q:xmk K C=true)(hi:findIn K (.ref C) "__init__" = some (some (.ref f)))(hf:typeIn K (.ref f)=some (.type "function"))(hz:us.length<=sizeLine)
  (k:wpAny (model prog w) A (call (.ref f) (.ref (h.objs.size+1)::us)) (λ r s'=>r=.none/\Q (.done (.ret (.ref (h.objs.size+1)))) s') E
   ⟨(h.push {cls:=.type "tuple",data:=.seq us.toArray}).push (ve C h.objs.size),g,d,t,os⟩) :
  wpAny (model prog w) A (Builtin.«type.__call__» ⟨.ref C::us,[]⟩) Q E ⟨h,g,d,t,os⟩:=by
 obtain⟨nm,q',N,bs,bm,hdct,sn,sub,ab,col,dd,k0,k1,k2,k3,k5,hC,T⟩:=abz X q;have B:=PySem.F.excBase_ValueError
 repeat (first | with_reducible refine wpAny_loadPart_at hC ?_ | with_reducible refine wpAny_madeBy_exc hC ?_ | wp_step)
 refine codeAny_call_builtin_code (Code.quiet_builtin _ B.quiet) (wpAny_check_new_subT B T hC (codeAny_exc_new_subT B T hC ?_ hz));show wpAny _ _ _ _ _ _;have kp:∀ b o,h.get? b=some o->((h.push {cls:=.type "tuple",data:=.seq us.toArray}).push (ve C h.objs.size)).get? b=some o:=λ b o z=>Heap.get?_push_of_some _ (Heap.get?_push_of_some _ z);have X1:=X.keeps kp;have eg:((h.push {cls:=.type "tuple",data:=.seq us.toArray}).push (ve C h.objs.size)).get? (h.objs.size+1)=some (ve C h.objs.size):=by heap_get
 have I:W.InstAt ((h.push {cls:=.type "tuple",data:=.seq us.toArray}).push (ve C h.objs.size)) (h.objs.size+1) (ve C h.objs.size) C none:=⟨eg,rfl,rfl,True.intro⟩;obtain⟨cd,hc,_,hm⟩:=fC c.x;have hsub:Looks (model prog w) ((h.push {cls:=.type "tuple",data:=.seq us.toArray}).push (ve C h.objs.size)) (isInstance (.ref (h.objs.size+1)) (.ref C)) true:=by refine I.type.andThen (λ A' Q' E' s' k' z=>?_);exact wpAny_isSubtype_exc (h:=s'.heap) (g:=s'.gens) (d:=s'.drawn) (t:=s'.toks) (os:=s'.os) (k' _ _ (kp _ _ hC)) (by rw[show(Value.ref C::bm).contains (Value.ref C)=true from by simp];exact z)
 refine wpAny_bind (hsub.here ?_);rw[if_neg (by decide)];refine wpAny_bind (wpAny_holding (special_fn (s:=⟨_,g,d,t,os⟩) X1 I hi hf (wpAny_mono k (λ r s' z=>?_) λ _ _ z=>z)));obtain⟨rfl,z⟩:=z;exact wpAny_pure z
theorem ahW{us:List Value}{Q:VP}(X:K.In h)(c:XC K C)(q:xmk K C=true)(hi:findIn K (.ref C) "__init__" = some (some (.ref f)))(hf:typeIn K (.ref f)=some (.type "function"))(hz:us.length<=sizeLine)
  (k:wpAny (model prog w) (A.under (.builtin "type.__call__" ⟨.ref C::us,[]⟩)) (call (.ref f) (.ref (h.objs.size+1)::us)) (λ r s'=>r=.none/\Q (.ref (h.objs.size+1)) s') E
   ⟨(h.push {cls:=.type "tuple",data:=.seq us.toArray}).push (ve C h.objs.size),g,d,t,os⟩) :
  wpAny (model prog w) A (call (.ref C) us) Q E ⟨h,g,d,t,os⟩:=by
 obtain⟨nm,q',N,bs,bm,hdct,sn,sub,ab,col,dd,k0,k1,k2,k3,k5,hC,T⟩:=abz X q;have l1:=tc_lookup;have l2:=tc_bind (.ref C);have l3:(⟨h,g,d,t,os⟩:Shared).TypeIs (.ref C) "type":= ⟨_,hC,rfl⟩;refine wpAny_call (codeAny_of_tree ?_);show wpAny _ _ (callAny (.ref C) ⟨us,[]⟩) _ _ _
 repeat (any_goals (first | with_reducible refine wpAny_loadPart_at hC ?_ | assumption | wp_step))
 exact⟨rfl,codeAny_call_builtin_at (Code.quiet_builtin _ (by decide +kernel)) entry_typeCall (wpAny_check_type_call_sub hC (ahN X c q hi hf hz k))⟩
end
abbrev qJ(C:Addr)(dct:Option Addr)(vs:Array Value):Obj:={cls:=.ref C,dict:=dct,data:=.fields vs}
def Tb(h:Heap)(e:Addr)(vs:Array Value):Prop:=vs[1]? =some .none\/∃ T oT ts,vs[1]? =some (.ref T)/\T≠e/\h.get? T=some oT/\oT.data=.fields ts/\ts[3]? =some .none
theorem Tb.size{h:Heap}{e:Addr}{vs:Array Value}(t:Tb h e vs):1<vs.size:=by
 rcases t with z | ⟨_,_,_,z,_⟩<;>exact(Array.getElem?_eq_some_iff.mp z).1
structure Seen(fs:List Addr)(e:Addr)(h h':Heap):Prop where
 keep:∀ b o,b≠e->b ∉ fs->h.get? b=some o->h'.get? b=some o
 slot:∀ b o,b∈fs->h.get? b=some o->∃ sl,h'.get? b=some {o with slots:=sl}
theorem zV{Q:Unit->Shared->Prop}(hfr:A.frames=some (env::outer))(hl:s.heap.FunFrames base (env::outer))(hf:env.frame=some L)(he:s.heap.get? e=some (qJ C dct vs))(tb:Tb s.heap e vs)
  (q:∀ h' vs',h'.get? e=some (qJ C dct vs')->Tb h' e vs'->vs'[1]? ≠ some .none->vs'[2]? =vs[2]? -> Seen ((env::outer).filterMap (·.frame)) e s.heap h'->Q () {s with heap:=h'}) :
  wpAny M A (noteFrame (.ref e) env) (λ _ s1=>wpAny M A (setFlight (.ref e) none) Q E s1) E s:=by
 have nfr:∀ b o us,s.heap.get? b=some o->o.data=.fields us->b ∉ (env::outer).filterMap (·.frame):=λ b o us z zd hm=>by obtain⟨_,o',ho,hn⟩:=hl.mem hm;rw[z] at ho;cases ho;exact hn us zd
 have main:∀ (head:Value) (had:Bool),wpAny M A (do let a <- frameOf env;let pl <- entryPlaceOf L had;let b <- EntryCells.newEntry head a .none (rawInt L) .none pl;setField (.ref e) 1 b) (λ _ s1=>wpAny M A (setFlight (.ref e) none) Q E s1) E s:=by
  intro head had;refine wpAny_bind (wpAny_frameOf_fun hfr hl hf λ h1 so=>wpAny_bind (wpAny_entryPlaceOf λ pl hpl=>?_));unfold EntryCells.newEntry newFields;refine wpAny_bind (wpAny_newObj_type ?_ (hpl.sizeOk5 _ _ _ _ _));have e1:h1.get? e=some (qJ C dct vs):=(so.2.1 e (nfr e _ vs he rfl)).trans he;generalize hts:([head,Value.ref L,.none,rawInt L,.none]++(if pl.isEmpty then List.replicate 6 Value.none else pl)).toArray=ts;have hts3:3<ts.size:=by rw[<- hts];simp only[List.size_toArray,List.length_append,List.length_cons,List.length_nil]<;>omega
  have e2:=Heap.get?_push_of_some (h:=h1) {cls:=.type "traceback",dict:=none,data:=.fields ts} e1;refine wpAny_setField e2 rfl tb.size ?_;have ne:h1.objs.size≠e:=Nat.ne_of_gt (Heap.lt_size e1);have e3:((h1.push {cls:=.type "traceback",dict:=none,data:=.fields ts}).update e (Obj.mapFields (·.setIfInBounds 1 (Value.ref h1.objs.size)))).get? e=some (qJ C dct (vs.setIfInBounds 1 (Value.ref h1.objs.size))):=
   Heap.get?_update_self _ e2 rfl
  have e4:((h1.push {cls:=.type "traceback",dict:=none,data:=.fields ts}).update e (Obj.mapFields (·.setIfInBounds 1 (Value.ref h1.objs.size)))).get? h1.objs.size=some {cls:=.type "traceback",dict:=none,data:=.fields ts}:=
   (Heap.get?_update_other _ _ (Ne.symm ne)).trans (Heap.get?_push_size h1 rfl)
  have v1:(vs.setIfInBounds 1 (Value.ref h1.objs.size))[1]? =some (Value.ref h1.objs.size):=by simp[tb.size]
  unfold setFlight;refine wpAny_bind (wpAny_field e3 rfl v1 ?_);rw[if_pos (show(Value.ref h1.objs.size != Value.none)=true from by simp)];refine wpAny_setField e4 rfl hts3 (q _ (vs.setIfInBounds 1 (Value.ref h1.objs.size)) ?_ (.inr ⟨h1.objs.size,_,ts.setIfInBounds 3 .none,v1,ne,Heap.get?_update_self _ e4 rfl,rfl,by simp[hts3]⟩) (by rw[v1];intro z;cases z) (by simp) ?_)
  ·rw[Heap.get?_update_other _ _ ne];exact e3
  ·have kp:∀ b o,b≠e->h1.get? b=some o->(((h1.push {cls:=.type "traceback",dict:=none,data:=.fields ts}).update e (Obj.mapFields (·.setIfInBounds 1 (Value.ref h1.objs.size)))).update h1.objs.size
     (Obj.mapFields (·.setIfInBounds 3 ((none:Option Addr).elim Value.none λ f=>rawInt f)))).get? b=some o:=λ b o hb z=>by
    rw[Heap.get?_update_other _ _ (Nat.ne_of_gt (Heap.lt_size z)),Heap.get?_update_other _ _ (Ne.symm hb)];exact Heap.get?_push_of_some _ z
   refine⟨λ b o hb hm z=>kp b o hb ((so.2.1 b hm).trans z),λ b o hm z=>?_⟩;obtain⟨sl,z2⟩:=so.2.2 b o z;exact⟨sl,kp b _ (λ w=>nfr e _ vs he rfl (w ▸ hm)) z2⟩
 unfold noteFrame;simp only[hf];rcases tb with z | ⟨T,oT,ts,z1,z2,z3,z4,z5⟩
 ·refine wpAny_bind (wpAny_field he rfl z ?_);rw[if_neg (by decide)];exact main _ _
 ·refine wpAny_bind (wpAny_field he rfl z1 ?_);rw[if_pos (show(Value.ref T != Value.none)=true from by simp)];refine wpAny_bind (wpAny_field z3 z4 z5 ?_);rw[if_neg (show ¬ ((Value.none==rawInt L)=true) from by simp[rawInt])];refine wpAny_bind (wpAny_setField z3 z4 (Array.getElem?_eq_some_iff.mp z5).1 ?_);rw[Heap.update_setField_same s.heap T oT ts 3 .none z3 z4 z5];exact main _ _
end XO
namespace L2
open XO
def XF(e C:Addr)(dct:Option Addr)(cc:Bool):Heap->Prop:=λ h=>∃ vs,h.get? e=some (qJ C dct vs)/\(cc=true->vs[2]? =some .none)
def DX(dx:Addr)(l:List (Str×V)):Heap->Prop:=λ h=>∃ mA,h.Ns1 dx mA/\(∀ f,oh (l.lookup f) (mA f))/\PySem.Within mA (l.map (·.1))
def Air(H:Hp)(h:Heap)(e:Addr):Prop:=∃ C dct vs cc,H e=some (.ext (XF e C dct cc))/\h.get? e=some (qJ C dct vs)/\Tb h e vs/\(cc=true->vs[2]? =some .none)
theorem aeu(z:h.get? e=some (qJ C dct vs))(c:cc=true->vs[2]? =some .none):cF P w H h e (.ext (XF e C dct cc)):=
 ⟨⟨vs,z,c⟩,⟨_,z⟩,λ h1 h2 ⟨us,e1,c⟩ k=>⟨us,k _ e1,c⟩⟩
theorem ahb(z:DX dx l h):cF P w H h dx (.ext (DX dx l)):=
 ⟨z,let ⟨_,⟨o,_,_,e,_⟩,_⟩:=z; ⟨o,e⟩,λ h1 h2 ⟨mA,n,r⟩ k=>⟨mA,n.at k,r⟩⟩
theorem Inv.seen(I:Inv X pins σ H s)(e:H a=some (.ext (XF a C dct cc)))(he:h'.get? a=some (qJ C dct vs))(hc:cc=true->vs[2]? =some .none)(sn:Seen (frs X.stack) a s.heap h'):Inv X pins σ H {s with heap:=h'}:=by
 have nfs:∀ b u,H b=some u->b ∉ frs X.stack:=λ b u z hb=>by rw[I.nk b hb] at z;cases z
 refine I.call (g':=s.gens) (t':=s.toks) (d':=s.drawn) (ch:=[]) ⟨λ b o z n hb _=>sn.keep b o (λ w=>by rw[w,e] at n;cases n) hb z,λ b o z _ hb _=>sn.slot b o hb z,λ _ _ _ n _=>n,λ b o z _=>?_,λ _ _ z=>z,λ _ _ _ z=>z,λ _ ps z=>⟨#[],by rw[z];simp⟩⟩ (λ b o z=>?_) I.bare (λ b z=>absurd z (by simp))
 ·by_cases hb:b=a
  ·subst hb;exact⟨_,he⟩
  ·by_cases hm:b∈frs X.stack
   ·obtain⟨sl,q⟩:=sn.slot b o hm z;exact⟨_,q⟩
   ·exact⟨o,sn.keep b o hb hm z⟩
 ·by_cases hb:b=a
  ·subst hb;rw[e] at z;cases z;exact aeu he hc
  ·refine(I.hok b o z).qx (λ c u hc q=>sn.keep c u ?_ ?_ q) (λ _ q=>q) λ _ _ q=>q
   ·rcases hc with w | w
    ·rw[w];exact hb
    ·intro y;rw[y,e] at w;cases w
   ·rcases hc with w | w
    ·rw[w];exact nfs b o z
    ·exact nfs c _ w
theorem Inv.zV(I:Inv X pins σ H s)(hA:A.frames=some X.stack)(hst:X.stack=X.env::X.outer)(hf:X.env.frame=some X.env.locals)(air:Air H s.heap a)
  (q:∀ s',Inv X pins σ H s'->Air H s'.heap a->Q () s'):wpAny (model X.prog X.w) A (noteFrame (.ref a) X.env) (λ _ s1=>wpAny (model X.prog X.w) A (setFlight (.ref a) none) Q E s1) E s:=by
 obtain⟨C,dct,vs,cc,e1,e2,e3,e4⟩:=air;have st:=I.stack;rw[hst] at st hA;refine XO.zV hA st hf e2 e3 λ h' vs' g1 g2 _ g4 g3=>q _ (I.seen e1 g1 (λ z=>by rw[g4];exact e4 z) ?_) ⟨C,dct,vs',cc,e1,g1,g2,λ z=>by rw[g4];exact e4 z⟩;rw[hst];exact g3
def CXE(P:Program)(w:World):CXT:=λ outer H s E e s'=>∃ a H',e=.ref a/\s'.os=s.os/\AllBare s'.gens/\Un (frs outer) [] H H' s.heap s'.heap/\HOk P w H' s'.heap/\Air H' s'.heap a/\E e none H'
theorem xq(F:bW X.prog X.w X.K X.mg X.base CX k f fd ps sp)(hr:cY k X.A)(hb:Binds X.K fd ps [])(I:Inv X pins σ H s)(r:Vals vs us)(h:sp vs H Q E)(hx:∀ e s',CX X.stack H s E e s'->X.xe e s') :
  wpAny (model X.prog X.w) X.A (call (.ref f) us) (EP X pins σ Q) X.xe s:=by
 have hl:(us++[]).length=ps.length:=by rw[List.append_nil,<- r.length];exact F.len _ _ _ _ h
 have b:=hb s us I.kIn hl;rw[List.append_nil] at b;refine wpAny_call (codeAny_mono (F.run X.A X.stack s H ⟨us,[]⟩ us vs Q E hr I.aeb b r h) λ r s' hq=>?_);cases r with
 | error e=>exact hx e s' hq
 | ok fl=>cases fl<;>first | exact I.after hq | exact False.elim hq
theorem wF(M:Mk X.K C f)(F:bW X.prog X.w X.K X.mg X.base CX k f fd ps sp)(hr:cY (k+1) X.A)(hb:Binds X.K fd ps [])(I:Inv X pins σ H s)(r:Vals vs us)
  (h:∀ x dx,H x=none->H dx=none->dx≠x->sp (.ref x::vs) (upd (upd H dx (.own x)) x (.ins C dx [])) (λ v H2=>v=.non/\Q (.ref x) H2) E)
  (hx:∀ H2 s2 e s',Inv X pins σ H2 s2->CX X.stack H2 s2 E e s'->X.xe e s'):wpAny (model X.prog X.w) X.A (call (.ref C) us) (EP X pins σ Q) X.xe s:=by
 have q:=h (s.heap.objs.size+1) s.heap.objs.size (I.hok.fresh (Nat.le_succ _)) (I.hok.fresh (Nat.le_refl _)) (Nat.ne_of_lt (Nat.lt_succ_self _));have J:=Inv.made (C:=C) I;have r2:Vals (V.ref (s.heap.objs.size+1)::vs) (Value.ref (s.heap.objs.size+1)::us):=.cons rfl r;have hl:((Value.ref (s.heap.objs.size+1)::us)++[]).length=ps.length:=by rw[List.append_nil,<- r2.length];exact F.len _ _ _ _ q
 have b:=hb _ _ J.kIn hl;rw[List.append_nil] at b;refine wpAny_call (mR (f:=f) I.kIn M.makes M.init (beq_iff_eq.mp M.fn) (codeAny_mono (F.run _ X.stack _ _ ⟨Value.ref (s.heap.objs.size+1)::us,[]⟩ _ _ _ E (hr.make C us []) (J.aeb.make C us []) b r2 q) λ r s' hq=>?_));cases r with
 | error e=>exact hx _ _ e s' J hq
 | ok fl =>
  cases fl with
  | ret u =>
   obtain⟨v,H',I3,rv,ev,q3⟩:=J.after hq;subst ev;exact⟨rv,⟨V.ref (s.heap.objs.size+1),H',I3,rfl,q3⟩⟩
  | next=>exact False.elim hq
  | brk=>exact False.elim hq
  | cont=>exact False.elim hq
end L2
namespace D
open L2 XO
abbrev XQ:=Addr->MH->Prop
abbrev XE:=Addr->DS->MH->Prop
abbrev SpX:=List W->MH->QD->XQ->Prop
def er(K:FG)(sp:SpX):Sp:=λ vs H Q E=>∃ ws M Qd Ed,aQ K H ws vs/\cq K H M/\sp ws M Qd Ed/\Kont K H Qd Q/\∀ a H' M',Kp H H'->cq K H' M'->Ed a M'->E (.ref a) none H'
def Lk(X:Cx)(E:XE):Prop:=∀ (pins:PN) (σ:St) (H:Hp) (s:Shared) (a:Addr) (τ:DS) (M:MH),Inv X pins σ H s->Air H s.heap a->Abs X.K H σ τ M->E a τ M->X.xe (.ref a) s
section
variable {P:Program}{w:World}{K:FG}{mg:Str->Option Value}{base:Heap}
theorem abj{N:List Str}{qual:Str}{scope:Scope}{cd:Value}{outer:List Env}{Ed:XQ}(he:∀ a H' M',Kp H H'->cq K H' M'->Ed a M'->E (.ref a) none H') :
  Lk (qT (CXE P w) P w K mg base N qual scope f cd A outer s H E) λ a _ M=>Ed a M:=by
 intro pins σ H1 s1 a τ M I air ab e;show wpAny _ _ (leaving _ _) _ _ _;unfold leaving;refine wpAny_bind (I.zV I.ok.frames rfl rfl air λ s2 J air2=>?_);exact⟨a,H1,rfl,J.os,J.bare,J.base,J.hok,air2,he a H1 M (Kp.un J.base) ab.mem e⟩
theorem jJ{x qual:Str}{st:Stmt}{N ps:List Str}{k:Nat}{sp:SpX}{t:XE->TSd}(F:Fun K x qual st f fd)(S:aP N ps (ai st))(len:∀ ws M Q E,sp ws M Q E->ws.length=ps.length)
  (hbody:∀ (cdv:Value) (A:Around) (outer:List Env) (s:Shared) (H:Hp) (E:XK) (Ed:XE),cY k (A.deeper (envOfC qual (ai st) s.heap.objs.size f cdv))->Lk (qT (CXE P w) P w K mg base N qual (ai st) f cdv A outer s H E) Ed ->
   PassesOwn (model P w) (A.deeper (envOfC qual (ai st) s.heap.objs.size f cdv)) (envOfC qual (ai st) s.heap.objs.size f cdv) (qT (CXE P w) P w K mg base N qual (ai st) f cdv A outer s H E).xe ->
   lp (qT (CXE P w) P w K mg base N qual (ai st) f cdv A outer s H E) (aG st) (t Ed))
  (read:∀ ws M Q E,sp ws M Q E->t (λ a _ M=>E a M) {nx:=λ _ M'=>Q (.d .none) M',rt:=Q} (bc N ws) M):bW P w K mg base (CXE P w) (k+1) f fd ps (er K sp):=by
 obtain⟨oc,od,kV,doc,pm,an,cdv,ct,osl,rfl,lk,hcd⟩:=F.ex;refine zZ lk hcd S (λ vs H Q E h=>?_) λ A outer s H vs Q E hr h=>?_
 ·obtain⟨ws,M,Qd,Ed,r,_,q,_⟩:=h;rw[<- r.length];exact len _ _ _ _ q
 ·obtain⟨ws,M,Qd,Ed,r,m,q,kk,ke⟩:=h;refine⟨_,hbody cdv A outer s H E (λ a _ M=>Ed a M) hr (abj ke) PassesOwn.leaving,bc N ws,M,_,iA r m,read ws M Qd Ed q,λ σ' H' τ' M' kp A' q'=>?_,λ v H' w' M' kp r' m' q'=>?_,λ σ' H' τ' M' kp A' q'=>q'.elim,λ σ' H' τ' M' kp A' q'=>q'.elim⟩
  ·exact kk _ H' _ M' kp (by simp[aE,aA]) A'.mem q'
  ·exact kk v H' w' M' kp r' m' q'
end
theorem wC(L:Lk X E)(I:Inv X pins σ H s)(ab:Abs X.K H σ τ M)(hE:∀ v H',E' v none H'->∃ a M',v=.ref a/\Kp H H'/\cq X.K H' M'/\E a τ M')
  (h:CXE X.prog X.w X.stack H s E' u s'):X.xe u s':=by
 obtain⟨a,H',rfl,os,br,un,hok,air,q⟩:=h;obtain⟨a',M',e,kp,m',q'⟩:=hE _ _ q;cases e;exact L pins σ H' s' a τ M' (I.zB os un hok br (λ b z=>absurd z (by simp))) air (ab.go kp m') q'
def sI(sp:SpX)(E:XE)(t:TAd)(τ:DS)(M:MH)(Q:QD):Prop:=t τ M λ ws M1=>sp ws M1 Q λ a M'=>E a τ M'
def mL(C:Addr)(m:Str)(sp:SpX)(E:XE)(td:TD)(t:TAd)(τ:DS)(M:MH)(Q:QD):Prop:=td τ M λ w M1=>∃ a fs,w=.m a/\M1 a=some (.ins C fs)/\fs.lookup m=none/\t τ M1 λ ws M2=>sp (w::ws) M2 Q λ a M'=>E a τ M'
end D
namespace XO
open PySem.W
section
variable {prog:Program}{w:World}{A:Around}{E:VP}{s:Shared}{K:Frag}{env:PySem.Env}
theorem agP(hh:A.handled=none)
  (h:wpAny (model prog w) A x (λ v s1=>∃ e C dct vs,v=.ref e/\K.In s1.heap/\aa0 K C=true/\typeIn K (.ref C)=some (.type "type")/\s1.heap.get? e=some (qJ C dct vs)/\vs[1]? =some .none/\E (.ref e) s1) E s) :
  wpAny (model prog w) A (raiseStmt env (some x) none) Q E s:=by
 unfold raiseStmt;refine wpAny_bind (wpAny_mono h (λ v s1 z=>?_) λ _ _ z=>z);obtain⟨e,C,dct,vs,rfl,X,c,ty,he,h1,q⟩:=z;obtain⟨hp,g,d,tk,os⟩:=s1;have L:Looks (model prog w) hp (isType (.ref e)) false:=λ A' Q' E' s' k q=>by
  unfold isType loadHead;exact wpAny_bind (wpAny_loadPart (k _ _ he) (wpAny_pure q))
 have T:Looks (model prog w) hp (typeOf (.ref e)) (.ref C):=(Looks.ld he).andThen .now;obtain⟨cd,hc,_,hm⟩:=fC c;have S:Looks (model prog w) hp (isInstance (.ref e) (.type "BaseException")) true:=T.andThen (looks_mroIn X (by
  unfold mroIn;rw[hc,Option.bind_some,if_neg (by rw[n8 hm];decide),nX "BaseException" (by decide) hm]))
 have N:Looks (model prog w) hp (isExcClass (.ref e)) false:=L.andThen .now;have Y:=looks_typeIn (M:=model prog w) X ty;have R:Looks (model prog w) hp (raisedInstance (.ref e)) (.ref e):=T.andThen (Y.andThen (by rw[if_pos (by decide)];exact .now));have Z:Looks (model prog w) hp (excFromValue (.ref e) "exceptions must derive from BaseException") (.ref e):=by
  unfold excFromValue;refine N.andThen ?_;rw[if_neg Bool.false_ne_true];refine S.andThen ?_;rw[if_pos rfl];exact .now
 refine wpAny_bind (wpAny_pure (wpAny_bind (wpAny_holding (Z.at ?_))));dsimp only;refine wpAny_bind (L.at ?_);rw[if_neg Bool.false_ne_true];refine wpAny_bind (R.at ?_);unfold setFlight;refine wpAny_bind (wpAny_bind (wpAny_field he rfl h1 ?_));rw[if_neg (by decide)];exact wpAny_pure (wpAny_raiseNew_none hh q)
end
end XO
namespace L2
open XO
def XV(e C:Addr)(dct:Option Addr)(vs:Array Value):Heap->Prop:=λ h=>h.get? e=some (qJ C dct vs)
theorem aeQ(z:h.get? e=some (qJ C dct vs)):cF P w H h e (.ext (XV e C dct vs)):=⟨z,⟨_,z⟩,λ h1 h2 e1 k=>k _ e1⟩
theorem Inv.wr2(I:Inv X pins σ H s)(e:H a=some (.ext φ))(hp:s.heap.objs.size<=dx)(kp:∀ b o,b≠a->s.heap.get? b=some o->h'.get? b=some o)
  (o1:cF X.prog X.w (upd (upd H dx u) a (.ext φ')) h' a (.ext φ'))(o2:cF X.prog X.w (upd (upd H dx u) a (.ext φ')) h' dx u):Inv X pins σ (upd (upd H dx u) a (.ext φ')) {s with heap:=h',toks:=t'}:=by
 have hn:H dx=none:=I.hok.fresh hp;have ne:dx≠a:=λ z=>by rw[z,e] at hn;cases hn
 have at_:∀ b,b≠a->b≠dx->(upd (upd H dx u) a (.ext φ')) b=H b:=λ b h1 h2=>by rw[aq h1,aq h2]
 have nd:∀ b v,H b=some v->b≠dx:=λ b v z w=>by rw[w,hn] at z;cases z
 have na:∀ b v,H b=some v->(∀ ψ,v ≠ .ext ψ)->b≠a:=λ b v z q w=>by rw[w,e] at z;cases z;exact q _ rfl
 refine I.un ⟨λ b o z n _ _=>kp b o (λ w=>by rw[w,e] at n;cases n) z,λ b o z n _ _=>⟨o.slots,kp b o (λ w=>by rw[w,e] at n;cases n) z⟩,λ b o z n _=>?_,λ b o z _=>?_,λ b xs z=>?_,λ b o v z=>?_,λ b ps z=>⟨#[],?_⟩⟩ (λ b o z=>?_)
 ·rw[at_ b (λ w=>by rw[w,e] at n;cases n) (Nat.ne_of_lt (Nat.lt_of_lt_of_le (Heap.lt_size z) hp))];exact n
 ·by_cases hb:b=a
  ·subst hb;exact o1.2.1
  ·exact⟨o,kp b o hb z⟩
 ·rw[at_ b (na b _ z λ _ w=>nomatch w) (nd b _ z)];exact z
 ·rw[at_ b (na b _ z λ _ w=>nomatch w) (nd b _ z)];exact z
 ·rw[at_ b (na b _ z λ _ w=>nomatch w) (nd b _ z),z];simp
 ·by_cases hb:b=a
  ·subst hb;rw[au] at z;cases z;exact o1
  ·rw[aq hb] at z
   by_cases hb2:b=dx
   ·subst hb2;rw[au] at z;cases z;exact o2
   ·rw[aq hb2] at z;refine(I.hok b o z).qx (λ c v hc q=>kp c v ?_ q) (λ c q=>?_) λ c xs q=>?_
    ·rcases hc with w | w
     ·rw[w];exact hb
     ·exact na c _ w λ _ y=>nomatch y
    ·rw[at_ c (na c _ q λ _ w=>nomatch w) (nd c _ q)];exact q
    ·rw[at_ c (na c _ q λ _ w=>nomatch w) (nd c _ q)];exact q
def sX0(C:Addr)(ta tv:TE)(f:Str):TS:=λ D σ H=>tv σ H λ y H1=>ta σ H1 λ x H2=>∃ a vs,x=.ref a/\H2 a=some (.ext (XV a C none vs))/\∀ dx,H2 dx=none->dx≠a->D.nx σ (upd (upd H2 dx (.ext (DX dx [(f,y)]))) a (.ext (XV a C (some dx) vs)))
theorem ahe(c:XC X.K C)(n:cJ X.K C f)(ha:PE X o ta)(hv:PE X value tv)(hs:swapsWith value (some (.Attribute o f pos')) pos.line X.env=pure false:=by rfl):PS X (.Assign [.Attribute o f pos'] value pos) (sX0 C ta tv f):=by
 intro pins s σ H D I h;refine plainObj_wpAny_Assign_Attribute (thn (hv pins s σ H _ I h) λ u s1 ⟨y,H1,I1,ry,q⟩=>thn (ha pins s1 σ H1 _ I1 q) λ ov s2 ⟨x,H2,I2,rx,a,vs,ex,ea,q2⟩=>?_) hs;subst ex;obtain rfl:ov=Value.ref a:=rx;have hx:s2.heap.get? a=some (qJ C _ vs):=(I2.hok a _ ea).1;refine ahh I2.kIn c.x c.sa n hx λ h' tk dx g1 g2 g3 g4 g5=>?_;refine⟨σ,_,I2.wr2 ea g1 g5 (aeQ g3) (ahb ⟨_,g4,λ g=>?_,λ g hg=>?_⟩),q2 dx (I2.hok.fresh g1) g2⟩
 ·by_cases e:g=f
  ·subst e;simp only[List.lookup,beq_self_eq_true,if_true];exact ry
  ·simp only[List.lookup,beq_eq_false_iff_ne.mpr e,if_neg e];exact True.intro
 ·by_cases e:g=f
  ·rw[e];simp
  ·exact absurd (by show(if g=f then some u else none)=none;rw[if_neg e]) hg
def uP(C:Addr)(fs:List Str):Sp:=λ vs H Q _=>∃ e ys us,vs=.ref e::ys/\ys.length=fs.length/\H e=some (.ext (XV e C none us))/\∀ dx,H dx=none->dx≠e->Q .non (upd (upd H dx (.ext (DX dx (fs.zip ys)))) e (.ext (XV e C (some dx) us)))
section
variable {P:Program}{w:World}{K:FG}{mg:Str->Option Value}{base:Heap}{C f:Addr}{fd:FuncData}{qual:Str}{st:Stmt}
theorem agw(F:Fun K "__init__" qual st f fd)(S:aP ["self",p] ["self",p] (ai st))(c:XC K C)(n:cJ K C g)
  (hb:aG st=[.Assign [.Attribute (.Name "self" p1) g p2] (.Name p p3) p4])(hs:∀ env,swapsWith (.Name p p3) (some (.Attribute (.Name "self" p1) g p2)) p4.line env=pure false)(hp:(p==("__debug__" : Str))=false)(hc:(p==("__classdict__" : Str))=false):bW P w K mg base CX0 1 f fd ["self",p] (uP C [g]):=by
 refine F.ok (k:=0) S (λ vs H Q E ⟨e,ys,us,h1,h2,_⟩=>by rw[h1,List.length_cons,h2];rfl) λ cdv A outer s H vs Q E hr h=>?_;obtain⟨e,ys,us,rfl,h2,h3,q⟩:=h;obtain⟨y,rfl⟩:∃ y,ys=[y]:=by
  match ys,h2 with
  | [y],_=>exact⟨y,rfl⟩
 rw[hb];have v1:=S.par "self" (by simp);have v2:=S.par p (by simp);refine⟨_,vz (ahe c n (vA (i:=0) rfl (v1.elim .inl λ z=>.inr (.inl z)) (by decide) (by decide)) (vA (i:=1) rfl (v2.elim .inl λ z=>.inr (.inl z)) hp hc) (hs _)),?_⟩;exact⟨y,rfl,.ref e,rfl,e,us,rfl,h3,λ dx hd ne=>q dx hd ne⟩
end
end L2
namespace D
open L2 XO
theorem tP{K:FG}{H:Hp}:∀ (fs:List Str) {ws:List W} {vs:List V},aQ K H ws vs->Paired (λ(p:Str×W) (q:Str×V)=>p.1=q.1/\aE K H p.2 q.2) (fs.zip ws) (fs.zip vs)
 | [],_,_,_=>.nil
 | _::_,_,_,.nil=>.nil
 | f::fs,_,_,.cons r t=>.cons ⟨rfl,r⟩ (tP fs t)
def tq(C:Addr)(fs:List Str)(E:XE)(t:TAd)(_:Ed)(τ:DS)(M:MH):Prop:=t τ M λ ws M1=>ws.length=fs.length/\ws.length<=1000/\∀ a,M1 a=none->E a τ (bf M1 a (.exc C (fs.zip ws)))
structure Xm(K:FG)(C f:Addr):Prop where
 xc:XC K C
 xm:xmk K C=true
 ty:W.typeIn K (.ref C)=some (.type "type")
 hi:W.findIn K (.ref C) "__init__" = some (some (.ref f))
 hf:W.typeIn K (.ref f)=some (.type "function")
 kp:W.keepIn K (.ref C)=true
end D
namespace L2
open XO
def qy(H₀ H:Hp):Hp:=λ b=>match H b with
 | some (.tup xs)=>some (.tup xs)
 | some (.frz o u)=>some (.frz o u)
 | _=>H₀ b
theorem xh(h:H b=some (.tup xs)):qy H₀ H b=some (.tup xs):=by unfold qy;rw[h]
theorem v9(h:H b=some (.frz o u)):qy H₀ H b=some (.frz o u):=by unfold qy;rw[h]
theorem wU(h:qy H₀ H b=some v):H₀ b=some v\/H b=some v:=by
 unfold qy at h
 split at h
 ·rename_i e;rw[e];exact .inr h
 ·rename_i e;rw[e];exact .inr h
 ·exact .inl h
theorem nJ(h:qy H₀ H b=none):H₀ b=none:=by
 unfold qy at h
 split at h
 ·cases h
 ·cases h
 ·exact h
theorem oq(h:H₀ b=none)(h2:H b=none):qy H₀ H b=none:=by
 unfold qy;rw[h2];exact h
abbrev Cx.mD(X:Cx)(H0:Hp)(pn:PN)(xe:VP):Cx:={X with H₀:=H0,pn:=pn,xe:=xe}
abbrev Cx.gy(X:Cx)(a:Addr):Cx:={X with A:=X.A.mark (some (.ref a)),calm:=false,xe:=λ _ _=>False}
theorem Inv.aeD(I:Inv X pins σ H s):∀ b∈X.fs,H b=none:=λ b hb=>by obtain⟨_,o,ho,_⟩:=I.ok.nL.mem hb;exact I.base.free b o ho (I.ok.frf b hb) λ z=>I.ok.exfs b z hb
theorem Inv.ag3(I:Inv X pins σ H s):Inv (X.mD (qy X.H₀ H) (X.pn++pins) xe) [] σ H s:=by
 refine⟨⟨I.ok.mod,I.ok.kind,I.ok.glob,I.ok.blt,I.ok.above,I.ok.inj,I.ok.has,I.ok.cab,I.ok.hd,I.ok.frames,I.ok.stk,I.ok.exf,λ b o e=>⟨(I.ok.bs b o e).1,oq (I.ok.bs b o e).2 (I.bs b o e).2⟩,I.ok.bsz,I.ok.noex,I.ok.exfs,I.ok.nL,λ b hb=>oq (I.ok.frf b hb) (I.aeD b hb)⟩,
  I.os,I.bare,⟨λ b o e n hb hx=>I.base.keep b o e (nJ n) hb hx,λ b o e n hb hx=>I.base.slot b o e (nJ n) hb hx,λ b o e n hx=>I.base.free b o e (nJ n) hx,I.base.there,λ b xs e=>?_,λ b o u e=>?_,λ b ps e=>?_⟩,
  I.loc,I.cell,I.free,I.freeC,λ p hp=>I.pin p (by simpa using hp),I.hok,I.len⟩
 ·rcases wU e with z | z
  ·exact I.base.tups b xs z
  ·exact z
 ·rcases wU e with z | z
  ·exact I.base.frzs b o u z
  ·exact z
 ·rcases wU e with z | z
  ·exact I.base.tbls b ps z
  ·exact⟨#[],by rw[z];simp⟩
theorem Inv.vJ(I:Inv X pins σ H s)(J:Inv (X.mD (qy X.H₀ H) (X.pn++pins) xe) pins' σ' H' s'):Inv X pins σ' H' s':=by
 have nn:∀ b o,X.s₀.heap.get? b=some o->X.H₀ b=none->b ∉ X.ex->qy X.H₀ H b=none:=λ b o e n hx=>oq n (I.base.free b o e n hx);exact⟨I.ok,J.os,J.bare,⟨λ b o e n hb hx=>J.base.keep b o e (nn b o e n hx) hb hx,λ b o e n hb hx=>J.base.slot b o e (nn b o e n hx) hb hx,λ b o e n hx=>J.base.free b o e (nn b o e n hx) hx,J.base.there,λ b xs e=>J.base.tups b xs (xh (I.base.tups b xs e)),λ b o u e=>J.base.frzs b o u (v9 (I.base.frzs b o u e)),λ b ps e=>by obtain⟨m1,e1⟩:=I.base.tbls b ps e;refine J.base.tbls b ps ?_;show qy X.H₀ H b=_;unfold qy;rw[e1];exact e⟩,J.loc,J.cell,J.free,J.freeC,λ p hp=>J.pin p (List.mem_append_left _ hp),J.hok,J.len⟩
theorem Inv.gy(I:Inv X pins σ H s)(a:Addr):Inv (X.gy a) pins σ H s:=
 ⟨⟨I.ok.mod,I.ok.kind,I.ok.glob,I.ok.blt,I.ok.above,I.ok.inj,I.ok.has,I.ok.cab,(λ z=>nomatch z),I.ok.frames,I.ok.stk,I.ok.exf,I.ok.bs,I.ok.bsz,I.ok.noex,I.ok.exfs,I.ok.nL,I.ok.frf⟩,I.os,I.bare,I.base,I.loc,I.cell,I.free,I.freeC,I.pin,I.hok,I.len⟩
theorem Inv.uncaught(ok:X.Ok)(I:Inv (X.gy a) pins σ H s):Inv X pins σ H s:=⟨ok,I.os,I.bare,I.base,I.loc,I.cell,I.free,I.freeC,I.pin,I.hok,I.len⟩
theorem Inv.gone(I:Inv X pins σ H s)(hn:h'.Ns X.env.locals m')(sb:Heap.SameBut X.env.locals s.heap h'):Inv X pins (List.replicate σ.length none) H {s with heap:=h',toks:=t'}:=by
 have ne:∀ b o,X.s₀.heap.get? b=some o->b≠X.env.locals:=λ b o e=>Nat.ne_of_lt (Nat.lt_of_lt_of_le (Heap.lt_size e) I.ok.above);refine⟨I.ok,I.os,I.bare,⟨λ b o e n hb hx=>(sb.2 b (ne b o e)).trans (I.base.keep b o e n hb hx),λ b o e n hb hx=>?_,I.base.free,λ b o e hx=>?_,I.base.tups,I.base.frzs,I.base.tbls⟩,⟨m',hn,λ i x v e1 e2 e3=>?_⟩,λ x c e=>?_,I.free,I.freeC,λ p hp=>?_,λ b o e=>?_,by rw[List.length_replicate];exact I.len⟩
 ·obtain⟨sl,z⟩:=I.base.slot b o e n hb hx;exact⟨sl,(sb.2 b (ne b o e)).trans z⟩
 ·obtain⟨o',z⟩:=I.base.there b o e hx;exact⟨o',(sb.2 b (ne b o e)).trans z⟩
 ·rw[List.getElem?_replicate] at e2
  split at e2<;>cases e2
 ·obtain⟨v,z⟩:=I.cell x c e;exact⟨v,z.sameBut sb (I.cne x c e)⟩
 ·obtain⟨z,n,nl,nf,d⟩:=I.pin p hp;exact⟨(sb.2 p.1 nl).trans z,n,nl,nf,d⟩
 ·refine(I.hok b o e).qx (λ c u hc q=>(sb.2 c λ z=>?_).trans q) (λ _ q=>q) λ _ _ q=>q;rcases hc with y | y
  ·rw[z] at y;rw[<- y,I.free] at e;cases e
  ·rw[z,I.free] at y;cases y
theorem Air.afU(air:Air H s.heap a)(q:Q () s):wpAny M A (setFlight (.ref a) none) Q E s:=by
 obtain⟨C,dct,vs,cc,e1,e2,tb,_⟩:=air;unfold setFlight;rcases tb with z | ⟨T,oT,ts,z1,z2,z3,z4,z5⟩
 ·refine wpAny_bind (wpAny_field e2 rfl z ?_);rw[if_neg (by decide)];exact wpAny_pure q
 ·refine wpAny_bind (wpAny_field e2 rfl z1 ?_);rw[if_pos (show(Value.ref T != Value.none)=true from by simp)];refine wpAny_setField z3 z4 (Array.getElem?_eq_some_iff.mp z5).1 ?_;rw[show((none:Option Addr).elim Value.none λ f=>rawInt f)=Value.none from rfl,Heap.update_setField_same s.heap T oT ts 3 .none z3 z4 z5];exact q
end L2
namespace D
open L2 XO
theorem Abs.forget{K:FG}{H:Hp}{σ:St}{τ:DS}{M:MH}(h:Abs K H σ τ M):Abs K H (List.replicate σ.length none) (List.replicate τ.length none) M:=by
 refine⟨by simp[h.len],λ i w e=>?_,h.mem⟩;rw[List.getElem?_replicate] at e
 split at e<;>cases e
section
variable {X:Cx}{pos np hpos:Pos}{body suite:List Stmt}{b0:Stmt}{hs:List ExceptHandler}{h0:ExceptHandler}{tb:XE->TSd}{th rest:Addr->TSd}{ts:TSd}
def PHd(X:Cx)(hs:List ExceptHandler)(th:Addr->TSd):Prop:=∀ (pins:PN) (σ:St) (H:Hp) (s:Shared) (a:Addr) (D:Ends),Inv X pins σ H s->Air H s.heap a->upS X.K (th a) D σ H->wpAny (model X.prog X.w) X.A (handleBy (.ref a) X.env hs) (SP X pins D) X.xe s
def aib(tb:XE->TSd)(th:Addr->TSd)(D:Ed)(τ:DS)(M:MH):Prop:=tb (λ a τ' M'=>th a D τ' M') D τ M
theorem ab4(hst:X.stack=X.env::X.outer)(hf:X.env.frame=some X.env.locals)
  (hb:∀ (H0:Hp) (pn:PN) (xe:VP) (E:XE),Lk (X.mD H0 pn xe) E->PassesOwn (model X.prog X.w) X.A X.env xe->lp (X.mD H0 pn xe) body (tb E))(hh:PHd X (h0::hs) th):PSd X (.Try body (h0::hs) [] [] pos) (aib tb th):=by
 intro pins s σ H D I h;obtain⟨τ,M,Dd,A,h,k1,k2,k3,k4⟩:=h;refine wpAny_Try_except ?_;refine wpAny_mono (hb (qy X.H₀ H) (X.pn++pins) (λ e s1=>wpAny (model X.prog X.w) X.A (noteFrame e X.env) (λ _ s2=>wpAny (model X.prog X.w) X.A (setFlight e none) (λ _ s3=>wpAny (model X.prog X.w) X.A (handleBy e X.env (h0::hs)) (SP X pins D) X.xe s3) X.xe s2) X.xe s1)
  (λ a τ' M'=>th a Dd τ' M') (λ pins' σ' H' s' a τ' M' J air ab e=>?_) PassesOwn.looking [] s σ H D I.ag3 ⟨τ,M,Dd,A,h,k1,k2,k3,k4⟩) (λ f s1 q=>?_) λ _ _ z=>z
 ·have J2:=I.vJ J;have kp:Kp H H':=⟨λ b xs z=>J.base.tups b xs (xh z),λ b o u z=>J.base.frzs b o u (v9 z)⟩;refine J2.zV J2.ok.frames hst hf air λ s3 J3 air3=>hh pins σ' H' s3 a D J3 air3 ⟨τ',M',Dd,ab,e,λ σ2 H2 τ2 M2 k=>k1 σ2 H2 τ2 M2 (kp.trans k),λ v H2 w M2 k=>k2 v H2 w M2 (kp.trans k),λ σ2 H2 τ2 M2 k=>k3 σ2 H2 τ2 M2 (kp.trans k),λ σ2 H2 τ2 M2 k=>k4 σ2 H2 τ2 M2 (kp.trans k)⟩
 ·cases f with
  | next=>obtain⟨σ',H',J,q⟩:=q;exact wpAny_execs_nil ⟨σ',H',I.vJ J,q⟩
  | brk=>obtain⟨σ',H',J,q⟩:=q;exact⟨σ',H',I.vJ J,q⟩
  | cont=>obtain⟨σ',H',J,q⟩:=q;exact⟨σ',H',I.vJ J,q⟩
  | ret u=>obtain⟨v,σ',H',J,r,q⟩:=q;exact⟨v,σ',H',I.vJ J,r,q⟩
def ac8(tab:Addr->Option Bool)(i:Nat)(ts:TSd)(rest:Addr->TSd)(a:Addr)(D:Ed)(τ:DS)(M:MH):Prop:=∃ C fs b,M a=some (.exc C fs)/\tab C=some b /\
 if b=true then ts {nx:=λ τ2 M2=>D.nx (List.replicate τ2.length none) M2,rt:=D.rt,bk:=λ τ2 M2=>D.bk (List.replicate τ2.length none) M2,ct:=λ τ2 M2=>D.ct (List.replicate τ2.length none) M2} (τ.set i (some (.m a))) M else rest a D τ M
theorem Air.cls{K:FG}{H:Hp}{h:Heap}{a C:Addr}{M:MH}{fs:List (Str×W)}(air:Air H h a)(m:cq K H M)(e:M a=some (.exc C fs)):∃ dct vs,h.get? a=some (qJ C dct vs):=by obtain⟨C',dct,vs,cc,e1,e2,_,cd⟩:=air;obtain⟨φ,dct',g1,g2,_⟩:=m a _ e;rw[e1] at g1;cases g1;obtain⟨vs',e3,_⟩:=g2 h ⟨vs,e2,cd⟩;exact⟨_,vs',e3⟩
theorem ab6(I:Inv X pins σ H s)(hg:Gl X x)(hm:X.mg x=some (.ref D))(he:s.heap.get? a=some (qJ C dct vs))
  (ht:W.exmOne X.K (.ref C) (.ref D)=some b)(hdb:ND x)(q:R (.ok (if b then .brk else .next)) s) :
  codeAny (model X.prog X.w) (X.A.mark (some (.ref a))) (.handlers (.ref a) [.ExceptHandler (some (.Name x np)) none [] hpos] X.env) R s:=by
 refine codeAny_handlers_test (fX (X:=X.gy a) (I.gy a) hg hm ?_ hdb);exact(W.exm_one (M:=model X.prog X.w) I.kIn ((W.Looks.ld he).andThen .now) ht).here q
theorem ahs(hg:Gl X x)(hm:X.mg x=some (.ref Dc))(ht:∀ C b,tab C=some b->W.exmOne X.K (.ref C) (.ref Dc)=some b)(hN:X.N.Nodup)(hi:X.N[i]? =some n)(hl:X.env.scope.names.lookup n=some .local)(hk:X.env.scope.kind=.function)
  (hsu:∀ a,lp (X.gy a) (b0::suite) ts)(hr:PHd X hs rest)(hdb:ND x:=by decide):PHd X (.ExceptHandler (some (.Name x np)) (some n) (b0::suite) hpos::hs) (ac8 tab i ts rest):=by
 intro pins σ H s a Dn I air h;obtain⟨τ,M,Dd,A,⟨C,fs,b,hma,htb,h⟩,k1,k2,k3,k4⟩:=h;obtain⟨dct,vs,he⟩:=Air.cls air A.mem hma;refine wpAny_handleBy_cons (ab6 I hg hm he (ht C b htb) hdb ?_) (by intro q;cases q);cases b with
 | false=>exact hr pins σ H s a Dn I air ⟨τ,M,Dd,A,h,k1,k2,k3,k4⟩
 | true =>
  rw[if_pos rfl] at h;refine codeAny_handlers_suite_as (air.afU ?_);refine nz (X:=X.gy a) (i:=i) (v:=.ref a) (I.gy a) hN hi (.inl hl) rfl (λ s2 J=>?_) (.inr hl);have gone:∀ {σ3:St} {H3:Hp} {s3:Shared} {Q:Unit->Shared->Prop},Inv (X.gy a) pins σ3 H3 s3->(∀ s4,Inv X pins (List.replicate σ3.length none) H3 s4->Q () s4)->wpAny (model X.prog X.w) X.A (do bindName X.env n .none;unbindBehindTheSuite X.env n hpos) Q X.xe s3:=λ {σ3 H3 s3 Q} J3 q=>by obtain⟨m,hn,_⟩:=J3.loc;refine wpAny_nameGoes hl hn (by rw[hk];rfl) λ h' m' hn' sb=>q _ ((J3.uncaught I.ok).gone hn' sb)
  have ab2:=A.set i (v:=.ref a) (w:=.m a) rfl;refine wpAny_mono (hsu a pins s2 _ H {nx:=λ σ2 H2=>Dn.nx (List.replicate σ2.length none) H2,rt:=Dn.rt,bk:=λ σ2 H2=>Dn.bk (List.replicate σ2.length none) H2,ct:=λ σ2 H2=>Dn.ct (List.replicate σ2.length none) H2} J ⟨_,M,_,ab2,h,λ σ2 H2 τ2 M2 kp A2 q=>?_,λ v H2 w M2 kp r m q=>k2 v H2 w M2 kp r m q,λ σ2 H2 τ2 M2 kp A2 q=>?_,λ σ2 H2 τ2 M2 kp A2 q=>?_⟩) (λ f s3 q=>?_) λ _ _ z=>z.elim
  ·exact k1 _ H2 _ M2 kp A2.forget q
  ·exact k3 _ H2 _ M2 kp A2.forget q
  ·exact k4 _ H2 _ M2 kp A2.forget q
  ·cases f with
   | next=>obtain⟨σ3,H3,J3,q⟩:=q;exact gone J3 λ s4 J4=>⟨_,H3,J4,q⟩
   | brk=>obtain⟨σ3,H3,J3,q⟩:=q;exact gone J3 λ s4 J4=>⟨_,H3,J4,q⟩
   | cont=>obtain⟨σ3,H3,J3,q⟩:=q;exact gone J3 λ s4 J4=>⟨_,H3,J4,q⟩
   | ret u=>obtain⟨v,σ3,H3,J3,r,q⟩:=q;exact gone J3 λ s4 J4=>⟨v,_,H3,J4,r,q⟩
end
theorem abD(I:Inv X pins σ H s)(m:cq X.K H M)(e:M a=some (.exc C fs)) :
  (∃ ox od,W.InstAt s.heap a ox C od)/\(∀ w,fs.lookup f=some w->∃ v u ox od,aE X.K H w v/\RelV v u/\W.InstAt s.heap a ox C (some od)/\W.lookIn f od=some (some u)):=by
 obtain⟨φ,dct,e1,e2,e3⟩:=m a _ e;obtain⟨vs,hx,_⟩:=e2 s.heap (I.hok a _ e1).1;rcases e3 with ⟨rfl,rfl⟩ | ⟨dx,o,l,rfl,e4,pr⟩
 ·exact⟨⟨_,none,hx,rfl,rfl,True.intro⟩,λ w z=>nomatch z⟩
 ·obtain⟨ho,mA,n1,r1⟩:=I.hok dx _ e4;refine⟨⟨_,some o,hx,rfl,rfl,ho⟩,λ w z=>?_⟩;have g:=d9 f pr;rw[z] at g;obtain⟨v,eb,rb⟩:=OR.some_of g;obtain⟨u,hu,ru⟩:=oh.some_of (v:=v) (o:=mA f) (by rw[<- eb];exact r1 f);obtain⟨od,g1,g2⟩:=pz n1;exact⟨v,u,_,od,rb,ru,⟨hx,rfl,rfl,g1⟩,by rw[g2,hu]⟩
def abS(cs:List Addr)(td:TD)(f:Str)(τ:DS)(M:MH)(Q:QD):Prop:=td τ M λ w M1=>∃ a C fs v,w=.m a/\M1 a=some (.exc C fs)/\C∈cs/\fs.lookup f=some v/\Q v M1
theorem adh(hc:∀ C∈cs,XC X.K C/\cJ X.K C f)(he:PD X o td)(hb:attributeBase o f X.env (eval o X.env)=eval o X.env:=by rfl):PD X (.Attribute o f pos) (abS cs td f):=by
 intro pins s σ H Q I h;obtain⟨τ,M,Qd,A,h,k⟩:=h;refine yu hb (thn (he pins s σ H (λ x H1=>∃ w M1,Kp H H1/\aE X.K H1 w x/\cq X.K H1 M1/\∃ a C fs v,w=.m a/\M1 a=some (.exc C fs)/\C∈cs/\fs.lookup f=some v/\Qd v M1) I ⟨τ,M,_,A,h,λ v H1 w M1 kp r m q=>⟨w,M1,kp,r,m,q⟩⟩)
  λ u s1 ⟨x,H1,I1,rx,w,M1,kp,r1,m1,a,C,fs,v,ew,hma,hC,hl,q⟩=>?_)
 subst ew;cases (show x=.ref a from r1);obtain rfl:u=Value.ref a:=rx;obtain⟨v',u',ox,od,rv,ru,J,lo⟩:=(abD (f:=f) I1 m1 hma).2 v hl;obtain⟨xc,na⟩:=hc C hC;obtain⟨cd,hcd,hd,_⟩:=fC xc.x;refine ajh I1.kIn xc J (W.findObj_own (by unfold W.hasDictIn;rw[hcd];exact hd) na rfl lo) (qh ru) ?_;exact⟨v',H1,I1.tok _,ru,k v' H1 v M1 kp rv m1 q⟩
def ad4:V->Value
 | .ref a=>.ref a
 | .ty n=>.type n
 | _=>.none
def yq:V->Bool
 | .ref _=>true
 | .ty _=>true
 | _=>false
theorem wc:∀ {v:V} {u:Value},yq v=true->RelV v u->u=ad4 v
 | .ref _,_,_,r=>r
 | .ty _,_,_,r=>r
 | .non,_,h,_=>nomatch h
 | .bl _,_,h,_=>nomatch h
 | .int _,_,h,_=>nomatch h
 | .str _,_,h,_=>nomatch h
 | .byt _,_,h,_=>nomatch h
 | .flt _,_,h,_=>nomatch h
theorem sQ:∀ {cs:List V} {us:List Value},(∀ c∈cs,yq c=true)->Vals cs us->us=cs.map ad4
 | _,_,_,.nil=>rfl
 | _,_,h,.cons r t=>by rw[wc (h _ (by simp)) r,sQ (λ c hc=>h c (by simp[hc])) t];rfl
def IsC(H:Hp)(v:V)(cs:List V):Prop:=cs=[v]\/∃ t,v=.ref t/\H t=some (.tup cs)
def ajg(K:FG)(xs:List V)(H:Hp)(Q:VK):Prop:=∃ a C c cs b M fs,xs=[.ref a,c]/\cq K H M/\M a=some (.exc C fs)/\IsC H c cs/\(∀ c∈cs,yq c=true)/\XC K C/\W.kitAny K (.ref C) (cs.map ad4)=some b/\Q (.bl b) H
theorem zL:eP X (.builtin "isinstance") (ajg X.K):=by
 intro pins s σ H xs us Q I r h;obtain⟨a,C,c,cs,b,M,fs,rfl,m,e,hc,hcs,xc,kb,q⟩:=h;obtain⟨u,w,rfl,r1,r2⟩:=vals2 r;cases (show u=Value.ref a from r1);obtain⟨⟨ox,od,J⟩,_⟩:=abD (f:= "") I m e;have fin:∀ tk,EP X pins σ Q (.bool b) {s with toks:=tk}:=λ tk=>⟨.bl _,H,I.tok _,rfl,q⟩;rcases hc with rfl | ⟨t,rfl,ht⟩
 ·have e1:=wc (hcs c (by simp)) r2;subst e1;have e2:W.kitOne X.K (.ref C) (ad4 c)=some b:=by
   simp only[List.map_cons,List.map_nil,W.kitAny] at kb
   split at kb
   ·rename_i z;rw[z,kb]
   ·rename_i z;rw[z,kb]
   ·cases kb
  exact W.kia_one (aa8 xc) I.kIn J e2 (λ z=>nomatch z) fin
 ·cases (show w=Value.ref t from r2);obtain⟨_,its,rv,⟨o,g1,g2,_,n,g3⟩⟩:=I.hok t _ ht;have e1:=sQ hcs rv;subst e1;obtain⟨c1,c2,c3,c4⟩:=o;cases g2;cases g3;exact W.kia_tup (aa8 xc) I.kIn J g1 kb (λ z=>nomatch z) fin
def adu(tab:Addr->Option Bool)(td:TD)(τ:DS)(M:MH)(Q:QD):Prop:=td τ M λ w M1=>∃ a C fs b,w=.m a/\M1 a=some (.exc C fs)/\tab C=some b/\Q (.d (.bool b)) M1
def CTm(cs:List V)(tc:TE):Prop:=∀ σ H (Q:VK),(∀ v H',(∀ b u,H b=some u->H' b=some u)->IsC H' v cs->Q v H')->tc σ H Q
theorem xS(v:V):CTm [v] (tC v):=λ σ H Q h=>h v H (λ _ _ z=>z) (.inl rfl)
theorem adx(h:∀ σ H (Q:List V->Hp->Prop),Q cs H->t σ H Q)(hz:cs.length<=1000):CTm cs (aiC t):=λ σ H Q k=>h σ H _ ⟨by have:=s16;omega,λ p hp=>k (.ref p) _ (λ b u z=>by rw[aq (aS z hp)];exact z) (.inr ⟨p,rfl,au⟩)⟩
theorem xf(ht:∀ C b,tab C=some b->XC X.K C/\W.kitAny X.K (.ref C) (cs.map ad4)=some b)(hcs:(cs.all yq)=true)(hg:Gl X "isinstance")(hm:X.mg "isinstance" = none)(ho:PD X o td)(hc:PE X ce tc)(ct:CTm cs tc)
  (h1:eh o=false:=by rfl)(h2:eh ce=false:=by rfl):PD X (.Call (.Name "isinstance" p) [o,ce] [] pos) (adu tab td):=by
 refine ft (oe zL hg hm bZ (gP ho (gP hc mx (bN ce [] X.env h2)) (bN o [ce] X.env h1)) (by decide) (by decide) (bN o [ce] X.env h1) (cI pos X.env [ce] (by simp[h2]))) λ σ H Q h=>?_;obtain⟨τ,M,Qd,A,h,k⟩:=h;refine⟨τ,M,_,A,h,λ v H1 w M1 kp r m hq105=>?_⟩;obtain⟨a,C,fs,b,ew,hma,htb,q⟩:=hq105;subst ew;cases (show v=.ref a from r);refine ct σ H1 _ λ c H2 st ic=>?_;obtain⟨xc,kb⟩:=ht C b htb;have kp2:Kp H1 H2:=⟨λ b xs z=>st b _ z,λ b o u z=>st b _ z⟩;have m2:cq X.K H2 M1:=λ b mo z=>(m b mo z).keep kp2 λ u y=>st b u y;exact⟨a,C,c,cs,b,M1,fs,rfl,m2,hma,ic,λ c hc=>List.all_eq_true.mp hcs c hc,xc,kb,k (.bl b) H2 (.d (.bool b)) M1 (kp.trans kp2) rfl m2 q⟩
theorem mU:bootBuiltins "ValueError" = some (.type "ValueError"):=by decide +kernel
structure Xi(K:FG)(C:Addr)(qual:Str)(st:Stmt)(ps:List Str)(f:Addr)(fd:FuncData):Prop where
 fn:Fun K "__init__" qual st f fd
 xm:Xm K C f
 bd:L2.Binds K fd ps []
theorem agI{K:FG}{C:Addr}{qual:Str}{st:Stmt}{ps:List Str}{f:Addr}{oc:Value}{od an:Option Addr}{osl:Array (Option Value)}{kV doc pm cdv ct:Value}(xc:XC K C)(a:W.findIn K (.ref C) "__init__" = some (some (.ref f)))(i:W.typeIn K (.ref f)=some (.type "function"))
  (l:K.lookup f=some ⟨oc,od,.func (W.fnOf "__init__" qual (aN st) (aG st) (ai st) .none kV doc pm an cdv ct),osl⟩)(c:W.codeIn K cdv qual=true)(k:W.keepIn K (.ref f)=true)(m:xmk K C=true)(ty:W.typeIn K (.ref C)=some (.type "type"))(kc:W.keepIn K (.ref C)=true)
  (b:∀ (kV doc pm:Value) (an:Option Addr) (cdv ct:Value) (us:List Value),us.length=ps.length->bindArgs (W.fnOf "__init__" qual (aN st) (aG st) (ai st) .none kV doc pm an cdv ct) ⟨us,[]⟩=pure (ps.zip us)) :
  Xi K C qual st ps f (W.fnOf "__init__" qual (aN st) (aG st) (ai st) .none kV doc pm an cdv ct):=
 have F:=wZ (st:=st) l c k
 ⟨F,⟨xc,m,ty,a,i,kc⟩,F.binds b⟩
def yD(l:List (Addr×Bool))(C:Addr):Option Bool:=l.lookup C
inductive pY(P:Addr->Bool->Prop):List (Addr×Bool)->Prop
 | nil:pY P []
 | cons {a:Addr} {b:Bool} {l:List (Addr×Bool)}:P a b->pY P l->pY P ((a,b)::l)
theorem pY.of(h:pY P l):∀ C b,yD l C=some b->P C b:=by
 induction h with
 | nil=>intro C b z;cases z
 | @cons a b l p _ ih =>
  intro C b' z;unfold yD at z ih;rw[List.lookup_cons] at z
  split at z
  ·rename_i e
   cases z;rw[beq_iff_eq.mp e];exact p
  ·exact ih C b' z
inductive aaU(P:Addr->Prop):List Addr->Prop
 | nil:aaU P []
 | cons {a:Addr} {l:List Addr}:P a->aaU P l->aaU P (a::l)
theorem aaU.of(h:aaU P l):∀ C∈l,P C:=by
 induction h with
 | nil=>intro C z;cases z
 | cons p _ ih =>
  intro C z;rcases List.mem_cons.mp z with e | e
  ·rw[e];exact p
  ·exact ih C e
def PCs(X:Cx)(es:List Expr)(cs:List V):Prop:=(∃ t,PA X es t/\∀ σ H (Q:List V->Hp->Prop),Q cs H->t σ H Q)/\(cs.all yq)=true
theorem adE:PCs X [] []:=⟨⟨_,mx,λ σ H Q q=>q⟩,rfl⟩
theorem t7(hg:Gl X x)(hm:X.mg x=some (.ref C))(r:PCs X es cs)(hd:ND x:=by decide):PCs X (.Name x p::es) (.ref C::cs):=by obtain⟨⟨t,h1,h2⟩,h3⟩:=r;exact⟨⟨_,gP (rD (v:=.ref C) hg hm rfl hd) h1,λ σ H Q q=>h2 σ H _ q⟩,by rw[List.all_cons,h3];rfl⟩
theorem jv:Lk X (λ _ _ _=>False):=λ _ _ _ _ _ _ _ _ _ _ h=>h.elim
section
variable {X:Cx}{pos p p' apos cpos np hpos:Pos}{k:Nat}{f C:Addr}{fd:FuncData}{ps fs:List Str}{sp:SpX}{x m n:Str}{e o:Expr}{es:List Expr}{t:TAd}{td:TD}{E:XE}
theorem ah7(L:Lk X E)(F:bW X.prog X.w X.K X.mg X.base (CXE X.prog X.w) k f fd ps (er X.K sp))(hr:cY k X.A)(hg:Gl X x)(hm:X.mg x=some (.ref f))(hk:W.keepIn X.K (.ref f)=true)(hb:L2.Binds X.K fd ps [])
  (ha:Jd (PAd X (e::es) t))(hdb:ND x:=by decide)(h1:eh e=false:=by rfl)(h2:(es.all λ e=>!eh e)=true:=by rfl) :
  Jd (PD X (.Call (.Name x p) (e::es) [] pos) (sI sp E t)):=⟨have ha:=ha.h;by
 intro pins s σ H Q I h;obtain⟨τ,M,Qd,A,h,k⟩:=h;refine wpAny_Call_Name_kw (fX I hg hm ?_ hdb);refine W.callWith_K (h₀:=X.base) I.ok.mod.kin hk (thn (ha pos pins s σ H (λ vs H1=>∃ ws M1,Kp H H1/\aQ X.K H1 ws vs/\cq X.K H1 M1/\sp ws M1 Qd λ a M'=>E a τ M') I ⟨τ,M,_,A,h,λ vs H1 ws M1 kp r m q=>⟨ws,M1,kp,r,m,q⟩⟩) λ us s1 ⟨vs,H1,I1,r,ws,M1,kp,rw,m1,q⟩=>⟨I1.kIn,?_⟩) (bN e es X.env h1) (cI pos X.env es h2);refine xq (E:=λ v _ H'=>∃ a M',v=.ref a/\Kp H1 H'/\cq X.K H' M'/\E a τ M') F hr hb I1 r ⟨ws,M1,Qd,_,rw,m1,q,kgo k kp,λ a H' M' kp' m' e'=>⟨a,M',rfl,kp',m',e'⟩⟩ λ u s' hx=>wC L I1 (A.go kp m1) (λ v H' z=>z) hx⟩
theorem aem(L:Lk X E)(he:Jd (PD X o td))(c:Cls X.K C)(hm:Meth X.K C m f)(F:bW X.prog X.w X.K X.mg X.base (CXE X.prog X.w) k f fd ps (er X.K sp))(hr:cY k X.A)(hb:L2.Binds X.K fd ps [])(ha:Jd (PAd X (e::es) t))
  (ht:eval (.Call (.Attribute o m apos) (e::es) [] pos) X.env=(do
   let ov <- eval o X.env
   standAt apos.atName
   let (f,first) <- holding [ov] (getMethod ov m pl)
   callWith pos f first (backTo pos (starEach (e::es) X.env)) (backToKw pos (keywordEach [] X.env))):=by rfl)
  (h1:eh e=false:=by rfl)(h2:(es.all λ e=>!eh e)=true:=by rfl):Jd (PD X (.Call (.Attribute o m apos) (e::es) [] pos) (mL C m sp E td t)):=⟨have he:=he.h;have ha:=ha.h;by
 intro pins s σ H Q I h;obtain⟨τ,M,Qd,A,h,k⟩:=h;refine W.methodCall_KW (pl:=pl) (thn (he pins s σ H (λ x H1=>∃ w M1,Kp H H1/\aE X.K H1 w x/\cq X.K H1 M1/\∃ a fs,w=.m a/\M1 a=some (.ins C fs)/\fs.lookup m=none/\t τ M1 λ ws M2=>sp (w::ws) M2 Qd λ a M'=>E a τ M') I ⟨τ,M,_,A,h,λ v H1 w M1 kp r m q=>⟨w,M1,kp,r,m,q⟩⟩)
  λ u s1 ⟨y,H1,I1,ry,w,M1,kp1,r1,m1,a,fs,ew,hma,hl,q1⟩=>?_) ht
 subst ew;obtain⟨dx,l,e1,pr⟩:=m1 _ _ hma;cases (show y=.ref a from r1);obtain rfl:u=Value.ref a:=ry;have g:=d9 m pr;rw[hl] at g;refine iY I1 e1 c hm (OR.none_of g) ?_;refine W.callWith_K (first:=[.ref a]) (h₀:=X.base) I.ok.mod.kin hm.kp (thn (ha pos pins s1 σ H1 (λ vs H2=>∃ ws M2,Kp H1 H2/\aQ X.K H2 ws vs/\cq X.K H2 M2/\sp (.m a::ws) M2 Qd λ a M'=>E a τ M') I1 ⟨τ,M1,_,A.go kp1 m1,q1,λ vs H2 ws M2 kp r m q=>⟨ws,M2,kp,r,m,q⟩⟩)
  λ us s2 ⟨vs,H2,I2,r,ws,M2,kp2,rw,m2,q⟩=>⟨I2.kIn,?_⟩) (bN e es X.env h1) (cI pos X.env es h2)
 exact xq (us:=.ref a::us) (vs:=.ref a::vs) (E:=λ v _ H'=>∃ a M',v=.ref a/\Kp H2 H'/\cq X.K H' M'/\E a τ M') F hr hb I2 (.cons rfl r) ⟨.m a::ws,M2,Qd,_,.cons rfl rw,m2,q,kgo (kgo k kp1) kp2,λ a H' M' kp' m' e'=>⟨a,M',rfl,kp',m',e'⟩⟩ λ u s' hx=>wC L I2 ((A.go kp1 m1).go kp2 m2) (λ v H' z=>z) hx⟩
theorem iL(L:Lk X E)(c:Xm X.K C f)(F:bW X.prog X.w X.K X.mg X.base CX0 k f fd ps (uP C fs))(hr:cY (k+1) X.A)(hg:Gl X x)(hm:X.mg x=some (.ref C))(hb:L2.Binds X.K fd ps [])(ha:Jd (PAd X (e::es) t))
  (hdb:ND x:=by decide)(h1:eh e=false:=by rfl)(h2:(es.all λ e=>!eh e)=true:=by rfl):Jd (PSd X (.Raise (some (.Call (.Name x p) (e::es) [] cpos)) none pos) (tq C fs E t)):=⟨have ha:=ha.h;by
 intro pins s σ H D I h;obtain⟨τ,M,Dd,A,h,_⟩:=h;rw[arm_exec_Raise];refine wpAny_bind (wpAny_standAt (agP (K:=X.K) hr.hd (wpAny_bind ?_)));refine wpAny_Call_Name_kw (fX I hg hm ?_ hdb);refine W.callWith_K (h₀:=X.base) I.ok.mod.kin c.kp (thn (ha cpos pins s σ H (λ vs H1=>∃ ws M1,Kp H H1/\aQ X.K H1 ws vs/\cq X.K H1 M1/\ws.length=fs.length/\ws.length<=1000/\∀ a,M1 a=none->E a τ (bf M1 a (.exc C (fs.zip ws)))) I
  ⟨τ,M,_,A,h,λ vs H1 ws M1 kp r m q=>⟨ws,M1,kp,r,m,q⟩⟩) λ us s1 ⟨vs,H1,I1,r,ws,M1,kp,rw1,m1,hl,hz,q⟩=>⟨I1.kIn,?_⟩) (bN e es X.env h1) (cI cpos X.env es h2)
 have hlv:vs.length=fs.length:=by rw[<- rw1.length];exact hl
 have e0:H1 (s1.heap.objs.size+1)=none:=I1.hok.fresh (Nat.le_succ _);have J:Inv X pins σ (upd H1 (s1.heap.objs.size+1) (.ext (XV (s1.heap.objs.size+1) C none #[.ref s1.heap.objs.size,.none,.none,.none,.bool false,.none]))) {s1 with heap:=(s1.heap.push {cls:=.type "tuple",data:=.seq us.toArray}).push (ve C s1.heap.objs.size)}:=by
  have I2:=I1.kept (t':=s1.toks) (h':=s1.heap.push {cls:=.type "tuple",data:=.seq us.toArray}) λ b u z=>Heap.get?_push_of_some _ z;refine I2.laid (t':=s1.toks) (λ b u z=>Heap.get?_push_of_some _ z) (by show(s1.heap.push _).objs.size<=_;rw[Heap.size_push];exact Nat.le_refl _) (aeQ ?_);have:=Heap.get?_push_size (s1.heap.push {cls:=.type "tuple",data:=.seq us.toArray}) (o:=ve C s1.heap.objs.size) rfl
  rwa[Heap.size_push] at this
 have r2:Vals (V.ref (s1.heap.objs.size+1)::vs) (Value.ref (s1.heap.objs.size+1)::us):=.cons rfl r;refine ahW (h:=s1.heap) (g:=s1.gens) (d:=s1.drawn) (t:=s1.toks) (os:=s1.os) I1.kIn c.xc c.xm c.hi c.hf (by show us.length<=_;have:=r.length;have:=rw1.length;have:=s16;omega) ?_;have hq:=F.len (V.ref (s1.heap.objs.size+1)::vs) (upd H1 (s1.heap.objs.size+1) (.ext (XV (s1.heap.objs.size+1) C none #[.ref s1.heap.objs.size,.none,.none,.none,.bool false,.none])))
  (λ v H3=>v=.non/\∃ dx,(upd H1 (s1.heap.objs.size+1) (.ext (XV (s1.heap.objs.size+1) C none #[.ref s1.heap.objs.size,.none,.none,.none,.bool false,.none]))) dx=none/\dx≠s1.heap.objs.size+1 /\
   H3=upd (upd (upd H1 (s1.heap.objs.size+1) (.ext (XV (s1.heap.objs.size+1) C none #[.ref s1.heap.objs.size,.none,.none,.none,.bool false,.none]))) dx (.ext (DX dx (fs.zip vs)))) (s1.heap.objs.size+1) (.ext (XV (s1.heap.objs.size+1) C (some dx) #[.ref s1.heap.objs.size,.none,.none,.none,.bool false,.none]))) E0
  ⟨_,vs,_,rfl,hlv,au,λ dx hd ne=>⟨rfl,dx,hd,ne,rfl⟩⟩
 have bnd:=hb {s1 with heap:=(s1.heap.push {cls:=.type "tuple",data:=.seq us.toArray}).push (ve C s1.heap.objs.size)} (Value.ref (s1.heap.objs.size+1)::us) J.kIn (by rw[List.append_nil,<- r2.length];exact hq);rw[List.append_nil] at bnd;refine wpAny_call (codeAny_mono (F.run _ X.stack {s1 with heap:=(s1.heap.push {cls:=.type "tuple",data:=.seq us.toArray}).push (ve C s1.heap.objs.size)} _ ⟨Value.ref (s1.heap.objs.size+1)::us,[]⟩ _ _ (λ v H3=>v=.non/\∃ dx,(upd H1 (s1.heap.objs.size+1) (.ext (XV (s1.heap.objs.size+1) C none #[.ref s1.heap.objs.size,.none,.none,.none,.bool false,.none]))) dx=none/\dx≠s1.heap.objs.size+1 /\
   H3=upd (upd (upd H1 (s1.heap.objs.size+1) (.ext (XV (s1.heap.objs.size+1) C none #[.ref s1.heap.objs.size,.none,.none,.none,.bool false,.none]))) dx (.ext (DX dx (fs.zip vs)))) (s1.heap.objs.size+1) (.ext (XV (s1.heap.objs.size+1) C (some dx) #[.ref s1.heap.objs.size,.none,.none,.none,.bool false,.none]))) E0
  (hr.make C us []) (J.aeb.make C us []) bnd r2 ⟨_,vs,_,rfl,hlv,au,λ dx hd ne=>⟨rfl,dx,hd,ne,rfl⟩⟩) λ rr s' hq'=>?_)
 cases rr with
 | error e=>exact False.elim hq'
 | ok fl =>
  cases fl with
  | next=>exact False.elim hq'
  | brk=>exact False.elim hq'
  | cont=>exact False.elim hq'
  | ret u =>
   obtain⟨v,H3,I3,rv,ev,dx,hd,ne,eH⟩:=J.after hq';subst ev;refine⟨rv,wpAny_bind (wpAny_standAt (wpAny_pure ?_))⟩;generalize ha0:s1.heap.objs.size+1=a at *;generalize hu0:(#[.ref s1.heap.objs.size,.none,.none,.none,.bool false,.none]:Array Value)=u0 at *;have e3a:H3 a=some (.ext (XV a C (some dx) u0)):=by rw[eH,au]
   have e3d:H3 dx=some (.ext (DX dx (fs.zip vs))):=by rw[eH,aq ne,au]
   have oa:s'.heap.get? a=some (qJ C (some dx) u0):=(I3.hok a _ e3a).1;obtain⟨⟨mA,n1,r1,w1⟩,⟨od,hod⟩,_⟩:=I3.hok dx _ e3d;have I4:=I3.write (x:=dx) (e:=dx) (o:=.frz od (.xd (fs.zip vs))) (h':=s'.heap) (t':=s'.toks) (by rw[e3d];exact True.intro) (.inl rfl) (λ b q _ z=>z) ⟨od,hod⟩ ⟨hod,mA,n1,r1⟩;have e4a:(upd H3 dx (.frz od (.xd (fs.zip vs)))) a=some (.ext (XV a C (some dx) u0)):=by rw[aq (Ne.symm ne)];exact e3a
   have I5:=I4.write (x:=a) (e:=a) (o:=.ext (XF a C (some dx) true)) (h':=s'.heap) (t':=s'.toks) (by rw[e4a];exact True.intro) (.inl rfl) (λ b q _ z=>z) ⟨_,oa⟩ (aeu oa λ _=>by rw[<- hu0];rfl);have hdx:H1 dx=none:=by rw[aq ne] at hd;exact hd
   have at5:∀ b,b≠a->b≠dx->(upd (upd H3 dx (.frz od (.xd (fs.zip vs)))) a (.ext (XF a C (some dx) true))) b=H1 b:=λ b z1 z2=>by rw[aq z1,aq z2,eH,aq z1,aq z2,aq z1]
   have st:∀ b u,H1 b=some u->(upd (upd H3 dx (.frz od (.xd (fs.zip vs)))) a (.ext (XF a C (some dx) true))) b=some u:=λ b u z=>by rw[at5 b (λ y=>by rw[y,e0] at z;cases z) (λ y=>by rw[y,hdx] at z;cases z)];exact z
   have k5:Kp H1 (upd (upd H3 dx (.frz od (.xd (fs.zip vs)))) a (.ext (XF a C (some dx) true))):=⟨λ b xs z=>st b _ z,λ b o u z=>st b _ z⟩;have m5:cq X.K (upd (upd H3 dx (.frz od (.xd (fs.zip vs)))) a (.ext (XF a C (some dx) true))) (bf M1 a (.exc C (fs.zip ws))):=λ b mo z=>by
    by_cases hb:b=a
    ·subst hb;rw[ag] at z;cases z;exact⟨_,some dx,au,λ h ⟨vs,y,c⟩=>⟨vs,y,λ _=>c rfl⟩,.inr ⟨dx,od,fs.zip vs,rfl,by rw[aq ne,au],tP fs (rw1.keep k5)⟩⟩
    ·rw[aj hb] at z;exact(m1 b mo z).keep k5 λ u y=>st b u y
   refine⟨a,C,some dx,u0,rfl,I5.kIn,c.xc.x,c.ty,oa,by rw[<- hu0];rfl,?_⟩;exact L pins σ _ s' a τ _ I5 ⟨C,some dx,u0,true,au,oa,.inl (by rw[<- hu0];rfl),λ _=>by rw[<- hu0];rfl⟩ (A.go (kp.trans k5) m5) (q a (m1.free e0))⟩
variable {body suite:List Stmt}{b0:Stmt}{hs:List ExceptHandler}{h0:ExceptHandler}{tb:XE->TSd}{th rest:Addr->TSd}{ts:TSd}
theorem zo(hst:X.stack=X.env::X.outer)(hf:X.env.frame=some X.env.locals)
  (hb:∀ (H0:Hp) (pn:PN) (xe:VP) (E:XE),Lk (X.mD H0 pn xe) E->PassesOwn (model X.prog X.w) X.A X.env xe->Jd (lp (X.mD H0 pn xe) body (tb E)))(hh:Jd (PHd X (h0::hs) th)):Jd (PSd X (.Try body (h0::hs) [] [] pos) (aib tb th)):=
 ⟨D.ab4 hst hf (λ H0 pn xe E l p=>(hb H0 pn xe E l p).h) hh.h⟩
theorem zq:Jd (PHd X hs (λ _ _ _ _=>False)):=⟨λ pins σ H s a D I air ⟨τ,M,Dd,_,h,_⟩=>h.elim⟩
theorem afF(hg:Gl X x)(hm:X.mg x=some (.ref Dc))(ht:pY (λ C b=>W.exmOne X.K (.ref C) (.ref Dc)=some b) l)(hN:X.N.Nodup)(hi:X.N[i]? =some n)(hl:X.env.scope.names.lookup n=some .local)(hk:X.env.scope.kind=.function)
  (hsu:∀ a,Jd (lp (X.gy a) (b0::suite) ts))(hr:Jd (PHd X hs rest))(hdb:ND x:=by decide):Jd (PHd X (.ExceptHandler (some (.Name x np)) (some n) (b0::suite) hpos::hs) (ac8 (yD l) i ts rest)):=
 ⟨D.ahs hg hm ht.of hN hi hl hk (λ a=>(hsu a).h) hr.h hdb⟩
theorem zJ{f:Str}{cs:List Addr}(hc:aaU (λ C=>XC X.K C/\cJ X.K C f) cs)(he:Jd (PD X o td))(hb:attributeBase o f X.env (eval o X.env)=eval o X.env:=by rfl):Jd (PD X (.Attribute o f pos) (abS cs td f)):=⟨D.adh hc.of he.h hb⟩
theorem aak(hm:X.mg "isinstance" = none)(ht:pY (λ C b=>XC X.K C/\W.kitAny X.K (.ref C) [.ref Dc]=some b) l)(hg:Gl X x)(hx:X.mg x=some (.ref Dc))(ho:Jd (PD X o td))(hgi:Gl X "isinstance":= by rfl)
  (hdb:ND x:=by decide)(h1:eh o=false:=by rfl):Jd (PD X (.Call (.Name "isinstance" p) [o,.Name x p'] [] pos) (adu (yD l) td)):=
 ⟨D.xf (cs:=[.ref Dc]) ht.of rfl hgi hm ho.h (rD (v:=.ref Dc) hg hx rfl hdb) (xS _) h1 rfl⟩
theorem yT(hm:X.mg "isinstance" = none)(ht:pY (λ C b=>XC X.K C/\W.kitAny X.K (.ref C) [.type T]=some b) l)(hg:Gl X x)(hx:X.mg x=none)(hv:bootBuiltins x=some (.type T))(ho:Jd (PD X o td))(hgi:Gl X "isinstance":= by rfl)
  (hn:x ≠ "__name__":= by decide)(hdb:ND x:=by decide)(h1:eh o=false:=by rfl):Jd (PD X (.Call (.Name "isinstance" p) [o,.Name x p'] [] pos) (adu (yD l) td)):=
 ⟨D.xf (cs:=[.ty T]) ht.of rfl hgi hm ho.h (w6 (v:=.ty T) hg hx hv rfl hn hdb) (xS _) h1 rfl⟩
theorem yN{x1}(hm:X.mg "isinstance" = none)(ht:pY (λ C b=>XC X.K C/\W.kitAny X.K (.ref C) (cs.map ad4)=some b) l)(hc:PCs X es cs)(ho:Jd (PD X o td))(hz:cs.length<=1000:=by decide)(hgi:Gl X "isinstance":= by rfl)
  (h1:eh o=false:=by rfl):Jd (PD X (.Call (.Name "isinstance" p) [o,.Tuple es x1 p'] [] pos) (adu (yD l) td)):=by
 obtain⟨⟨t,g1,g2⟩,g3⟩:=hc;exact⟨D.xf (cs:=cs) ht.of g3 hgi hm ho.h (abB g1) (adx g2 hz) h1 rfl⟩
end
section
variable {X:Cx}{K:FG}
end
section
variable {X:Cx}{K:FG}
def vc(d:PyData)(ds:List PyData):Bool:=lA d&&lA (.list ds)
theorem yA(hr:lO k A)(h:SeqAt.shaped d=true):A.units+1+min (PyData.depthAll ds) d.depth<cLine:=by have h1:=SeqAt.depth_of_shaped h;have h2:min (PyData.depthAll ds) d.depth<=d.depth:=Nat.min_le_right _ _;have:=hr.un;omega
def aeM(K:FG):V->List V->Hp->VK->Prop:=λ x vs H Q=>∃ y d ds,vs=[y]/\oO K H (.list ds) x/\oO K H d y/\vc d ds=true/\Q (.int (ds.countP λ y=>PyData.eqv y d:Nat)) H
theorem aam(hr:cY k X.A):MtM X "list.count" (aeM X.K):=by
 intro pins s σ H x vs v us Q I rx rv h;obtain⟨y,d,ds,rfl,h1,h2,o,q⟩:=h;obtain⟨u,rfl,ru⟩:=rv.one;simp only[vc,lA,Bool.and_eq_true,Bool.not_eq_true'] at o;obtain⟨⟨o1,o2⟩,o3,o4⟩:=o;obtain⟨as,r2⟩:=dy I d h2 ru o2;obtain⟨bs,r1⟩:=dy I (.list ds) h1 rx o4;have c3:PyData.canLayAll0 ds=true:=SeqAt.canLay_of_shaped o3;cases r1 with
 | @list a ob its n _ as1 e1 e2 e3 e4 =>
  obtain⟨cls,dd,data,sl⟩:=ob;simp only at e2 e3;subst e2 e3;refine call_meets F.slot_list_count ⟨_,e1,rfl⟩ F.entry_list_count (F.args_list_count_2 _ _) (SeqAt.list_countAt a its n dd sl u λ z=>PyData.eqv (SeqAt.readOf s.heap z) d) ⟨e1,SeqAt.items_eqAt e4 r2 c3 (SeqAt.canLay_of_shaped o1) (yA hr.h o1),?_⟩;refine⟨.int _,H,I.tok _,⟨_,rfl⟩,?_⟩;have e:its.toList.countP (λ z=>PyData.eqv (SeqAt.readOf s.heap z) d)=ds.countP λ y=>PyData.eqv y d:=by rw[<- SeqAt.readsAll_map ds _ _ c3 e4,List.countP_map];rfl
  rw[e];exact q
def aaV(td te:TD)(τ:DS)(M:MH)(Q:QD):Prop:=td τ M λ w M1=>∃ ds,w=.d (.list ds)/\te τ M1 λ y M2=>∃ d,y=.d d/\vc d ds=true/\Q (.d (.int (ds.countP λ y=>PyData.eqv y d:Nat))) M2
end
theorem xw(hr:cY k X.A)(ho:Jd (PD X o td))(he:Jd (PD X e te))
  (hbase:attributeBase o "count" X.env (eval o X.env)=eval o X.env:=by rfl)
  (hfew:((backTo cpos (starEach [e] X.env)).all (λ x=>!x.1)&&(backToKw cpos (keywordEach [] X.env)).all (λ x=>x.1.isSome)
   && decide (([e]:List Expr).length+([]:List Keyword).length+(if ([]:List Keyword).isEmpty then 0 else 1)<30))=true:=by rfl)
  (hline:(apos.endLine==cpos.line)=true:=by rfl)(hs:eh e=false:=by rfl):Jd (PD X (.Call (.Attribute o "count" apos) [e] [] cpos) (aaV td te)):=⟨have ho:=ho.h;have he:=he.h;
 ft (zt PySem.F.plainAttrs_list PySem.F.slot_list_count PySem.F.type_list_count (aam hr) ho (pac he jU hs) hbase hfew hline (bN e [] X.env hs) rfl) λ σ H Q h=>by obtain⟨τ,M,Qd,A,h,k⟩:=h;refine⟨τ,M,_,A,h,λ x H1 w M1 kp1 r1 m1 hq106=>?_⟩;obtain⟨ds,ew,q1⟩:=hq106;subst ew;have r1':=r1;simp only[aE,aA] at r1';obtain⟨a,vs,ex,hsq,ra⟩:=r1';subst ex;refine⟨.inl ⟨rfl,vs,hsq.sq⟩,τ,M1,agV (λ y M2=>∃ d,y=.d d/\vc d ds=true/\Qd (.d (.int (ds.countP λ y=>PyData.eqv y d:Nat))) M2),A.go kp1 m1,q1,λ ys H2 wys M2 kp2 r2 m2 q2=>?_⟩;obtain⟨y,ey,d,ed,ok,q4⟩:=rn q2;subst ey ed;obtain⟨v,ev,rv⟩:=e9 r2;subst ev;exact⟨v,d,ds,rfl,.inl (r1.keep kp2),.inl rv,ok,k _ _ (.d (.int _)) _ (kp1.trans kp2) (by simp[aE,aA]) m2 q4⟩⟩
def ai7(td:TE):TI:=λ σ H R=>td σ H λ x H1=>∃ a l,x=.ref a/\H1 a=some (.lst l)/\∀ ob,R (Itf a ob l) (upd H1 a (gB ob l))
theorem aed(ho:PE X o td):PI X tg o (ai7 td):=by
 intro pins s σ H R I h;refine thn (ho pins s σ H _ I h) λ v s1 hq107=>?_;obtain⟨x,H1,I0,r1,a,l,ex,hg0,q⟩:=hq107;subst ex;cases r1;obtain⟨ob,I1⟩:=Inv.abq I0 hg0;have hg:upd H1 a (gB ob l) a=some (gB ob l):=au;obtain⟨its,rv,p⟩:=il I1.hok hg;refine wpAny_pyIter_list p ?_;refine⟨s1.heap.objs.size,[s1.heap.objs.size],_,_,upd H1 a (gB ob l),rfl,I1.kept (t':=s1.toks) λ b o e=>Heap.get?_push_of_some _ e,lX a _ ob l,⟨_,Heap.get?_push_size _ rfl,rfl,rfl⟩,λ b hb=>?_,q ob⟩;have e:b=s1.heap.objs.size:=by simpa using hb
 subst e;exact I1.mB (Nat.le_refl _) (I1.hok.fresh (Nat.le_refl _))
def wW(td:TD)(τ:DS)(M:MH)(R:List W->MH->Prop):Prop:=td τ M λ w M1=>∃ a ws,w=.m a/\M1 a=some (.lst ws)/\R ws (bf M1 a (.flst ws))
def ahO(te:TD)(tl th:TOd)(τ:DS)(M:MH)(Q:QD):Prop:=te τ M λ w M1=>tl τ M1 λ lo M2=>th τ M2 λ hi M3=>∃ a ws,w=.m a/\M3 a=some (.lst ws)/\∀ p,M3 p=none->Q (.m p) (bf M3 p (.lst (cutD ws lo hi)))
theorem aQ.cut{K:FG}{H:Hp}{ws:List W}{vs:List V}(r:aQ K H ws vs)(lo hi:Option Int):aQ K H (cutD ws lo hi) (xB vs lo hi):=by
 unfold cutD xB;have hl:=r.length;rw[hl];have dr:∀ (n:Nat) {ws:List W} {vs:List V},aQ K H ws vs->aQ K H (ws.drop n) (vs.drop n):=by
  intro n
  induction n with
  | zero=>intro ws vs h;exact h
  | succ n ih =>
   intro ws vs h;cases h with
   | nil=>exact .nil
   | cons a b=>exact ih b
 have tk:∀ (n:Nat) {ws:List W} {vs:List V},aQ K H ws vs->aQ K H (ws.take n) (vs.take n):=by
  intro n
  induction n with
  | zero=>intro ws vs h;exact .nil
  | succ n ih =>
   intro ws vs h;cases h with
   | nil=>exact .nil
   | cons a b=>exact .cons a (ih b)
 exact tk _ (dr _ r)
theorem mv{te:TD}{lo hi:Option Expr}{tl th:TOd}{pos p2:Pos}(he:Jd (PD X e te))(hl:Jd (POd X lo tl))(hu:Jd (POd X hi th)):Jd (PD X (.Subscript e (.Slice lo hi none p2) pos) (ahO te tl th)):=⟨have he:=he.h;have hl:=hl.h;have hu:=hu.h;
 ft (nU qF he hl hu) λ σ H Q h=>by obtain⟨τ,M,Qd,A,h,k⟩:=h;refine⟨τ,M,_,A,h,λ x H1 w M1 kp1 r1 m1 q1=>⟨τ,M1,_,A.go kp1 m1,q1,λ lo' H2 M2 kp2 m2 q2=>⟨τ,M2,_,A.go (kp1.trans kp2) m2,q2,λ hi' H3 M3 kp3 m3 hq111=>?_⟩⟩⟩;obtain⟨a,ws,ew,hm,q3⟩:=hq111;subst ew;obtain⟨vs,e,ra⟩:=m3 _ _ hm;refine⟨a,vs,r1,.of e,λ p hp=>?_⟩;have kp4:Kp H3 (upd H3 p (.lst (xB vs lo' hi'))):=Kp.new hp;exact k _ _ (.m p) _ (((kp1.trans kp2).trans kp3).trans kp4) rfl (m3.put (mo:=.lst (cutD ws lo' hi')) kp4 ⟨_,au,aQ.keep kp4 (aQ.cut ra lo' hi')⟩) (q3 p (m3.free hp))⟩
theorem qK(ho:Jd (PD X o td)):Jd (PId X tg o (wW td)):=⟨have ho:=ho.h;adt (aed ho) λ σ H R hq108=>by obtain⟨τ,M,Rd,A,h,k⟩:=hq108;refine⟨τ,M,_,A,h,λ v H1 w M1 kp r m hq109=>?_⟩;obtain⟨a,ws,ew,hm,q⟩:=hq109;subst ew;obtain⟨l,e,pr⟩:=m _ _ hm;refine⟨a,l,r,e,λ ob=>?_⟩;have kp1:Kp H1 (upd H1 a (gB ob l)):=Kp.set e (λ _ z=>nomatch z) (λ _ _ z=>nomatch z);have pr1:aQ X.K (upd H1 a (gB ob l)) ws l:=aQ.keep kp1 pr;refine k _ _ _ (bf M1 a (.flst ws)) (kp.trans kp1) (m.put (mo:=.flst ws) kp1 ⟨ob,l,au,pr1⟩) (λ H2 kp2 i=>?_) q;have hl:=pr1.length;have e2:=kp2.frz a ob _ au;refine⟨λ hi=>⟨e2,by omega⟩,λ hi=>⟨e2,by omega⟩,λ x H' hi hq110=>?_⟩;obtain⟨eH,ex⟩:=hq110;subst eH;have hi2:i<ws.length:=hi;obtain⟨x',ex',rx⟩:=aQ.get (aQ.keep kp2 pr1) (List.getElem?_eq_getElem hi2);rw[ex'] at ex;cases ex;exact⟨Kp.refl _,λ M m=>m,ws[i],List.getElem?_eq_getElem hi2,rx⟩⟩
def yk(v:Value):PyData->Bool
 | .str z=>match v with
  | .str x _=>decide (x=z)
  | _=>false
 | .int i=>match v with
  | .int j _=>decide (j=i)
  | _=>false
 | _=>false
def sL:List Value->List PyData->Bool
 | [],[]=>true
 | v::vs,d::ds=>yk v d&&sL vs ds
 | _,_=>false
def ahM(K:FG)(v:Value):PyData->Bool
 | .tuple ds=>match v with
  | .ref a=>match K.lookup a with
   | some o=>(match o.cls with
    | .type n=>decide (n = "tuple")
    | _=>false)&&o.dict.isNone&&(match o.data with
    | .seq its _=>decide (its.size<=100)&&sL its.toList ds
    | _=>false)
   | none=>false
  | _=>false
 | d=>yk v d
def vO(K:FG):List DictEntry->List (Str×PyData)->Bool
 | [],[]=>true
 | e::es,(k,d)::kvs=>yk e.key (.str k)&&ahM K e.val d&&vO K es kvs
 | _,_=>false
def aiS(K:FG)(a:Addr)(kvs:List (Str×PyData)):Bool:=match K.lookup a with
 | some o=>(match o.cls with
  | .type n=>decide (n = "dict")
  | _=>false)&&o.dict.isNone&&decide (o.slots.size=0)&&(match o.data with
  | .dict es _=>vO K es.toList kvs
  | _=>false)
 | none=>false
def hashesOf(K:FG)(a:Addr):Option (List Int):=match K.lookup a with
 | some o=>match o.data with
  | .dict es _=>some (es.toList.map (·.hash))
  | _=>none
 | none=>none
structure aiX(w:World)(K:FG)(a:Addr)(kvs:List (Str×PyData)):Prop where
 is:aiS K a kvs=true
 hs:hashesOf K a=some (kvs.map λ p=>PyData.keyHash w.params p.1)
 nd:(kvs.map (·.1)).Nodup
 ns:(a==sysModules)=false
end D
namespace PySem.SeqAt
open MeetsSeq MeetsSeq2 MeetsSeq3 SeqRoads2
end PySem.SeqAt
namespace ZT
abbrev TT(h:Heap)(j t:Addr)(k:Nat)(ys:Array Value):Prop:=h.IsTupleIter j t k/\h.IsTuple t ys
theorem zh(st:TT s.heap j t k ys)(hn:t≠j)(hy:ys[k]? =some y)
  (q:∀ h',TT h' j t (k+1) ys->Heap.SameBut j s.heap h'->Q y {s with heap:=h'}):wpAny (model prog w) A (Builtin.SmallTypes.nextOf (.ref j)) Q E s:=by
 obtain⟨jt,tt⟩:=st;obtain⟨oj,ej,cj,dj⟩:=id jt;obtain⟨ot,et,ct,nt,dt⟩:=id tt;unfold Builtin.SmallTypes.nextOf;refine wpAny_bind (wpAny_callSpecial?_slot (name:=Str.ofString "__next__") jt.typeIs F.slot_tuple_iterator_next (wpAny_call_entry F.slot_tuple_iterator_next jt.typeIs F.entry_tuple_iterator_next ?_ (F.args_tuple_iterator_next_1 _)));show wpAny _ _ (field (.ref j) 0 >>= _) _ _ s;refine wpAny_bind (wpAny_field ej dj (x:=.ref t) rfl ?_);show wpAny _ _ (if (Value.ref t==Value.none)=true then _ else _) _ _ s;rw[if_neg (show ¬ ((Value.ref t==Value.none)=true) from Bool.false_ne_true)];show wpAny _ _ (field (.ref j) 1 >>= _) _ _ s;refine wpAny_bind (wpAny_field ej dj (x:=.int k 0) rfl ?_);show wpAny _ _ (seqItems? (.ref t) >>= _) _ _ s;refine wpAny_bind (wpAny_seqItems et dt ?_);simp only[Int.toNat_natCast,hy];refine wpAny_bind (wpAny_setField ej dj (by simp) (wpAny_pure ⟨y,rfl,wpAny_pure (q _ ⟨?_,tt.extBut (Heap.SameBut.update ..).extBut hn⟩ (Heap.SameBut.update ..))⟩));exact⟨_,Heap.get?_update_self _ ej (Obj.isFreed_of_fields (Obj.data_mapFields dj _)),(Obj.cls_mapFields ..).trans cj,by rw[Obj.data_mapFields dj];simp[rawInt]⟩
theorem acU(hh:A.handled=none)(st:TT s.heap j t k ys)(hy:ys[k]? =none)
  (q:∀ h' x,Heap.ExtBut j s.heap h'->(∃ o,h'.get? x=some o/\o.cls=.type "StopIteration")->E (.ref x) {s with heap:=h'}):wpAny (model prog w) A (Builtin.SmallTypes.nextOf (.ref j)) Q E s:=by
 obtain⟨jt,tt⟩:=st;obtain⟨oj,ej,cj,dj⟩:=id jt;obtain⟨ot,et,ct,nt,dt⟩:=id tt;unfold Builtin.SmallTypes.nextOf;refine wpAny_bind (wpAny_callSpecial?_slot (name:=Str.ofString "__next__") jt.typeIs F.slot_tuple_iterator_next (wpAny_call_entry F.slot_tuple_iterator_next jt.typeIs F.entry_tuple_iterator_next ?_ (F.args_tuple_iterator_next_1 _)));show wpAny _ _ (field (.ref j) 0 >>= _) _ _ s;refine wpAny_bind (wpAny_field ej dj (x:=.ref t) rfl ?_);show wpAny _ _ (if (Value.ref t==Value.none)=true then _ else _) _ _ s;rw[if_neg (show ¬ ((Value.ref t==Value.none)=true) from Bool.false_ne_true)];show wpAny _ _ (field (.ref j) 1 >>= _) _ _ s;refine wpAny_bind (wpAny_field ej dj (x:=.int k 0) rfl ?_);show wpAny _ _ (seqItems? (.ref t) >>= _) _ _ s;refine wpAny_bind (wpAny_seqItems et dt ?_);simp only[Int.toNat_natCast,hy];refine wpAny_bind (wpAny_rule (wpAny_bind (wpAny_setField ej dj (by simp) ?_)));show wpAny _ _ (newExc (.type "StopIteration") [] >>= _) _ _ _;refine wpAny_bind ?_;simp only[newExc,newTuple];refine wpAny_bind (wpAny_newObj_type ?_ (by size_fits));refine wpAny_bind (m:=firstArgMember _ _) (wpAny_of_eq (a:=Value.none) (by first | rfl | (simp only[firstArgMember];rfl)) (wpAny_newObj_type ?_ (by size_fits)))
 simp only[raiseNew];refine wpAny_bind (wpAny_handled ?_)
 first | rw[show A.in1.handled=none from hh] | rw[hh]
 refine wpAny_bind (wpAny_pure (wpAny_throw (q _ _ (((Heap.SameBut.update ..).extBut.push _).push _) ⟨_,Heap.get?_push_size _ rfl,rfl⟩)))
def isIt(b:Bool)(h:Heap)(j t:Addr)(k:Nat):Prop:=match b with
 | true=>h.IsTupleIter j t k
 | false=>h.IsListIter j t k
def adP(b:Bool)(h:Heap)(t:Addr)(ys:Array Value):Prop:=match b with
 | true=>h.IsTuple t ys
 | false=>h.IsList t ys
theorem isIt.obj(x:isIt b h j t k):∃ o,h.get? j=some o/\o.data=.fields #[.ref t,.int k 0]:=by
 cases b<;>(obtain⟨o,e,_,d⟩:=x;exact⟨o,e,d⟩)
theorem isIt.at(x:isIt b h j t k)(f:∀ o,h.get? j=some o->h'.get? j=some o):isIt b h' j t k:=by
 cases b<;>(obtain⟨o,e,r⟩:=x;exact⟨o,f _ e,r⟩)
theorem adP.at(x:adP b h t ys)(f:∀ o,h.get? t=some o->h'.get? t=some o):adP b h' t ys:=by
 cases b<;>(obtain⟨o,e,r⟩:=x;exact⟨o,f _ e,r⟩)
theorem adP.lt(x:adP b h t ys):t<h.objs.size:=by
 cases b<;>(obtain⟨o,e,r⟩:=x;exact Heap.lt_size e)
abbrev TI(b:Bool)(h:Heap)(j t:Addr)(k:Nat)(ys:Array Value):Prop:=isIt b h j t k/\adP b h t ys
theorem TI.at(x:TI b h j t k ys)(f:∀ c o,(c=j\/c=t)->h.get? c=some o->h'.get? c=some o):TI b h' j t k ys:=⟨x.1.at λ o=>f _ o (.inl rfl),x.2.at λ o=>f _ o (.inr rfl)⟩
theorem oE(st:TI b s.heap j t k ys)(hn:t≠j)(hy:ys[k]? =some y)
  (q:∀ h',TI b h' j t (k+1) ys->Heap.SameBut j s.heap h'->Q y {s with heap:=h'}):wpAny (model prog w) A (Builtin.SmallTypes.nextOf (.ref j)) Q E s:=by
 cases b with
 | true=>exact zh st hn hy q
 | false=>exact wpAny_nextOf_list_item st.1 st.2 hy λ h' i sb=>q h' ⟨i,Heap.IsList.extBut st.2 sb.extBut hn⟩ sb
theorem xr(hh:A.handled=none)(st:TI b s.heap j t k ys)(hy:ys[k]? =none)
  (q:∀ h' x,Heap.ExtBut j s.heap h'->(∃ o,h'.get? x=some o/\o.cls=.type "StopIteration")->E (.ref x) {s with heap:=h'}):wpAny (model prog w) A (Builtin.SmallTypes.nextOf (.ref j)) Q E s:=by
 cases b with
 | true=>exact acU hh st hy q
 | false=>exact wpAny_nextOf_list_end hh st.1 st.2 hy q
structure Zs(p q:Bool)(h:Heap)(z T O i j a b:Addr)(f:Value)(k1 k2:Nat)(xs ys:Array Value)(u v:Value):Prop where
 z:IsZip h z T O f
 t:IsPair h T (.ref i) (.ref j)
 o:IsPair h O u v
 i:TI p h i a k1 xs
 j:TI q h j b k2 ys
theorem next_end(hh:A.handled=none)(D:ZipApart z T O i j a b)(Z:Zs p₁ p₂ s.heap z T O i j a b .none k k xs ys u v)(hx:xs[k]? =none\/ys[k]? =none)
  (q:∀ h',(∀ c o,c≠z->c≠O->c≠i->c≠j->s.heap.get? c=some o->h'.get? c=some o)->Q none {s with heap:=h'}):wpAny (model prog w) A (pyNext (.ref z)) Q E s:=by
 have hT:s.TypeIs (.ref z) "zip":= ⟨_,Z.z,rfl⟩;have fin:∀ h' x,(∀ c o,c≠z->c≠O->c≠i->c≠j->s.heap.get? c=some o->h'.get? c=some o)->(∃ o,h'.get? x=some o/\o.cls=.type "StopIteration") ->
   wpAny (model prog w) A (do if (<- PySem.isInstance (.ref x) (.type "StopIteration")) then pure none else throw (.ref x)) Q E {s with heap:=h'}:=λ h' x kp ⟨o,ho,hc⟩ =>
  wpAny_bind (wpAny_isInstance (T:= "StopIteration") (b:=true) ⟨o,ho,hc⟩ isSubtype_stop (wpAny_pure (q _ kp)))
 unfold pyNext;refine wpAny_bind (wpAny_attempt (wpAny_callSpecial?_slot (name:=Str.ofString "__next__") hT F.slot_zip_next (wpAny_call_entry F.slot_zip_next hT F.entry_zip_next ?_ (F.args_zip_next_1 _))));show wpAny _ _ (field (.ref z) 2 >>= _) _ _ _;refine wpAny_bind (wpAny_field Z.z rfl (x:=.bool false) rfl ?_);show wpAny _ _ (field (.ref z) 3 >>= _) _ _ _;refine wpAny_bind (wpAny_field Z.z rfl (x:=.ref T) rfl (wpAny_bind (wpAny_seqItems Z.t rfl ?_)));show wpAny _ _ (Builtin.SmallTypes.ownedTupleIsFree (.ref z) >>= _) _ _ _;refine wpAny_bind ?_;unfold Builtin.SmallTypes.ownedTupleIsFree;refine wpAny_bind (wpAny_field Z.z rfl (x:=.none) rfl (wpAny_pure ?_));simp only[if_true];refine wpAny_bind (wpAny_rule (wpAny_bind (wpAny_field Z.z rfl (x:=.ref O) rfl (wpAny_bind (wpAny_setField_rec Z.z (by simp) λ g1 z1 s1=>?_)))));replace z1:IsZip g1 z T O .ellipsis:=z1;refine wpAny_bind ?_;simp only[List.zipIdx_cons,List.zipIdx_nil,List.forIn_cons,List.forIn_nil];have i1:TI p₁ g1 i a k xs:=Z.i.at λ c o hc q=>s1.extBut _ _ (by rcases hc with rfl | rfl;exact D.i1z;exact D.l1z) q;have j1:TI p₂ g1 j b k ys:=Z.j.at λ c o hc q=>s1.extBut _ _ (by rcases hc with rfl | rfl;exact D.i2z;exact D.l2z) q;refine wpAny_bind (wpAny_bind (wpAny_onRaise ?_));show wpAny _ _ (Builtin.SmallTypes.nextOf (.ref i) >>= _) _ _ _;cases ex:xs[k]? with
 | none =>
  refine wpAny_bind (xr hh i1 ex λ g2 x s2 hq112=>?_);obtain⟨ox,hox,hcx⟩:=hq112;have z2:IsZip g2 z T O .ellipsis:=s2 _ _ D.i1z.symm z1;have hxz:x≠z:=λ e=>by subst e;rw[z2] at hox;cases hox;simp at hcx
  refine wpAny_setField_rec z2 (by simp) λ g3 _ s3=>fin g3 x (λ c o c1 _ c3 _ e=>s3.extBut _ _ c1 (s2 _ _ c3 (s1.extBut _ _ c1 e))) ⟨ox,s3.extBut _ _ hxz hox,hcx⟩
 | some x0 =>
  have ey:ys[k]? =none:=by rcases hx with h | h;rw[ex] at h;cases h;exact h
  refine wpAny_bind (oE i1 D.l1i1 ex λ g2 i2 s2=>wpAny_pure ?_);have o2:IsPair g2 O u v:=s2.extBut _ _ D.TOi1 (s1.extBut _ _ D.TOz Z.o);refine wpAny_bind (wpAny_seqItems o2 rfl (wpAny_bind (wpAny_updateSeq_pair o2 λ g3 o3 s3=>wpAny_bind (wpAny_letGo (wpAny_pure ?_)))));have j3:TI p₂ g3 j b k ys:=j1.at λ c o hc q=>s3.extBut _ _ (by rcases hc with rfl | rfl;exact D.TOi2.symm;exact D.l2TO) (s2.extBut _ _ (by rcases hc with rfl | rfl;exact D.i12.symm;exact D.l2i1) q);refine wpAny_bind (wpAny_bind (wpAny_onRaise ?_));show wpAny _ _ (Builtin.SmallTypes.nextOf (.ref j) >>= _) _ _ _;refine wpAny_bind (xr hh j3 ey λ g4 x s4 hq113=>?_);obtain⟨ox,hox,hcx⟩:=hq113;have z4:IsZip g4 z T O .ellipsis:=s4 _ _ D.i2z.symm (s3.extBut _ _ D.TOz.symm (s2.extBut _ _ D.i1z.symm z1));have hxz:x≠z:=λ e=>by subst e;rw[z4] at hox;cases hox;simp at hcx
  refine wpAny_setField_rec z4 (by simp) λ g5 _ s5=>fin g5 x (λ c o c1 c2 c3 c4 e=>s5.extBut _ _ c1 (s4 _ _ c4 (s3.extBut _ _ c2 (s2.extBut _ _ c3 (s1.extBut _ _ c1 e))))) ⟨ox,s5.extBut _ _ hxz hox,hcx⟩
def itN(b:Bool):String:=match b with
 | true => "tuple_iterator"
 | false => "list_iterator"
end ZT
namespace D
open L2
def SqB(b:Bool)(K:FG)(H:Hp)(a:Addr)(xs:List V):Prop:=match b with
 | true=>SqT K H a xs
 | false=>SqL K H a xs
theorem Inv.sqB(I:Inv X pins σ H s)(h:SqB b X.K H a xs):∃ its:List Value,Vals xs its/\ZT.adP b s.heap a its.toArray:=by
 cases b with
 | true=>obtain⟨its,r,p,_⟩:=I.tuple h;exact⟨its,r,p⟩
 | false=>obtain⟨its,r,p,_⟩:=I.list h;exact⟨its,r,p.isList⟩
theorem Inv.abM(I:Inv X pins σ H s)(h:SqB b X.K H a xs)(h':SqB b X.K H a ys):xs=ys:=by
 cases b with
 | true=>exact I.oR h h'
 | false=>exact I.oB h h'
section
variable {X:Cx}{K:FG}{a b:Expr}{p pos:Pos}{t:TAd}
def sqD(b:Bool)(ds:List PyData):PyData:=match b with
 | true=>.tuple ds
 | false=>.list ds
theorem adB{b:Bool}{ds:List PyData}{v:V}(r:aA K H (sqD b ds) v):∃ c xs,v=.ref c/\SqB b K H c xs/\(∀ H',Kp H H'->SqB b K H' c xs)/\a9 K H ds xs:=by
 cases b with
 | true =>
  simp only[sqD,aA] at r;obtain⟨c,xs,e,h1,h2⟩:=r;exact⟨c,xs,e,h1,λ H' k=>SqT.keep k h1,h2⟩
 | false =>
  simp only[sqD,aA] at r;obtain⟨c,xs,e,h1,h2⟩:=r;exact⟨c,xs,e,h1.sq,λ H' k=>(h1.keep k).sq,h2⟩
end
def ab0(ds:List PyData)(d:PyData)(j:Nat):Prop:=j<ds.length/\(∀ y,ds[j]? =some y->PyData.eqv y d=true)/\∀ m y,m<j->ds[m]? =some y->PyData.eqv y d=false
section
variable {X:Cx}{K:FG}
end
section
variable {X:Cx}{K:FG}
end
section
variable {X:Cx}{e st:Expr}{te:TE}{ts:TO}{pos p2:Pos}
end
section
variable {X:Cx}{K:FG}{e st:Expr}{te:TD}{ts:TOd}{pos p2:Pos}
end
section
variable {X:Cx}{e st:Expr}{a:Addr}{x:Str}{kvs:List (Str×PyData)}{pos p p2:Pos}{te:TD}{ts:TOd}
end
end D
namespace XO
open PySem.W
section
variable {prog:Program}{w:World}{A:Around}{E:VP}{K:Frag}{C:Addr}{h:Heap}{g:Array GenState}{d:Drawn}{t:Nat}{os:OsState}
end
end XO
namespace D
open L2 XO
section
variable {X:Cx}{pos p cpos np hpos:Pos}{k:Nat}{f C:Addr}{x:Str}{e:Expr}{es:List Expr}{t:TAd}{E:XE}
variable {body suite:List Stmt}{b0:Stmt}{hs:List ExceptHandler}{th rest:Addr->TSd}{ts:TSd}
end
section
variable {X:Cx}{K:FG}
variable {o e:Expr}{td te:TD}{apos cpos:Pos}
end
section
variable {X:Cx}{e st:Expr}{te:TE}{ts:TO}{pos p2:Pos}
end
section
variable {X:Cx}{e st:Expr}{te:TD}{ts:TOd}{pos p2:Pos}
end
section
variable {X:Cx}{K:FG}
end
section
variable {X:Cx}{pos p cpos apos np hpos p2:Pos}{k:Nat}{f C:Addr}{x y:Str}{e o st:Expr}{es:List Expr}{t:TAd}{E:XE}{body suite:List Stmt}{b0:Stmt}{hs:List ExceptHandler}{rest:Addr->TSd}{ts:TSd}{fd:FuncData}{ps:List Str}{sp:SpX}{td te:TD}{to:TOd}
end
end D
namespace ZS
structure Zs(h:Heap)(z T O i j b:Addr)(x:Str)(tk:Tok)(f:Value)(k1 k2:Nat)(ys:Array Value)(u v:Value):Prop where
 z:IsZip h z T O f
 t:IsPair h T (.ref i) (.ref j)
 o:IsPair h O u v
 i:h.IsStrIter i "str_ascii_iterator" x tk k1
 j:ZT.TI false h j b k2 ys
theorem next_item(D:ZipApart z T O i j b b)(Z:Zs s.heap z T O i j b x tk .none k k ys u v)(hx:x.cps[k]? =some c0)(hy:ys[k]? =some y)
  (q:∀ h',Zs h' z T O i j b x tk (rawInt s.heap.objs.size) (k+1) (k+1) ys (.str ⟨#[c0]⟩ s.toks) y->IsPair h' s.heap.objs.size (.str ⟨#[c0]⟩ s.toks) y ->
   (∀ c o,c≠z->c≠O->c≠i->c≠j->s.heap.get? c=some o->h'.get? c=some o)->Q (some (.ref s.heap.objs.size)) {s with heap:=h',toks:=s.toks+1}):wpAny (model prog w) A (pyNext (.ref z)) Q E s:=by
 have hT:s.TypeIs (.ref z) "zip":= ⟨_,Z.z,rfl⟩;unfold pyNext;refine wpAny_bind (wpAny_attempt (wpAny_callSpecial?_slot (name:=Str.ofString "__next__") hT F.slot_zip_next (wpAny_call_entry F.slot_zip_next hT F.entry_zip_next ?_ (F.args_zip_next_1 _))));show wpAny _ _ (field (.ref z) 2 >>= _) _ _ _;refine wpAny_bind (wpAny_field Z.z rfl (x:=.bool false) rfl ?_);show wpAny _ _ (field (.ref z) 3 >>= _) _ _ _;refine wpAny_bind (wpAny_field Z.z rfl (x:=.ref T) rfl (wpAny_bind (wpAny_seqItems Z.t rfl ?_)));show wpAny _ _ (Builtin.SmallTypes.ownedTupleIsFree (.ref z) >>= _) _ _ _;refine wpAny_bind ?_;unfold Builtin.SmallTypes.ownedTupleIsFree;refine wpAny_bind (wpAny_field Z.z rfl (x:=.none) rfl (wpAny_pure ?_));simp only[if_true];refine wpAny_bind (wpAny_rule (wpAny_bind (wpAny_field Z.z rfl (x:=.ref O) rfl (wpAny_bind (wpAny_setField_rec Z.z (by simp) λ g1 z1 s1=>?_)))));replace z1:IsZip g1 z T O .ellipsis:=z1;refine wpAny_bind ?_;simp only[List.zipIdx_cons,List.zipIdx_nil,List.forIn_cons,List.forIn_nil];have i1:g1.IsStrIter i "str_ascii_iterator" x tk k:=Z.i.extBut s1.extBut D.i1z;have j1:ZT.TI false g1 j b k ys:=Z.j.at λ c o hc q=>s1.extBut _ _ (by rcases hc with rfl | rfl;exact D.i2z;exact D.l2z) q;refine wpAny_bind (wpAny_bind (wpAny_onRaise ?_));show wpAny _ _ (Builtin.SmallTypes.nextOf (.ref i) >>= _) _ _ _;refine wpAny_bind (wpAny_nextOf_ascii_item i1 hx λ g2 i2 s2=>wpAny_pure ?_);have o2:IsPair g2 O u v:=s2.extBut _ _ D.TOi1 (s1.extBut _ _ D.TOz Z.o);refine wpAny_bind (wpAny_seqItems o2 rfl (wpAny_bind (wpAny_updateSeq_pair o2 λ g3 o3 s3=>wpAny_bind (wpAny_letGo (wpAny_pure ?_)))));replace o3:IsPair g3 O (.str ⟨#[c0]⟩ s.toks) v:=o3;have j3:ZT.TI false g3 j b k ys:=j1.at λ c o hc q=>s3.extBut _ _ (by rcases hc with rfl | rfl;exact D.TOi2.symm;exact D.l2TO) (s2.extBut _ _ (by rcases hc with rfl | rfl;exact D.i12.symm;exact D.l2i1) q);refine wpAny_bind (wpAny_bind (wpAny_onRaise ?_));show wpAny _ _ (Builtin.SmallTypes.nextOf (.ref j) >>= _) _ _ _;refine wpAny_bind (ZT.oE j3 D.l2i2 hy λ g4 j4 s4=>wpAny_pure ?_);have o4:IsPair g4 O (.str ⟨#[c0]⟩ s.toks) v:=s4.extBut _ _ D.TOi2 o3;refine wpAny_bind (wpAny_seqItems o4 rfl (wpAny_bind (wpAny_updateSeq_pair o4 λ g5 o5 s5=>wpAny_bind (wpAny_letGo (wpAny_pure (wpAny_pure ?_))))));replace o5:IsPair g5 O (.str ⟨#[c0]⟩ s.toks) y:=o5;refine wpAny_bind (wpAny_seqItems o5 rfl (wpAny_bind (wpAny_newTuple ?_)));have sz:g5.objs.size=s.heap.objs.size:=by rw[s5.1,s4.1,s3.1,s2.1,s1.1]
 have z5:IsZip g5 z T O .ellipsis:=s5.extBut _ _ D.TOz.symm (s4.extBut _ _ D.i2z.symm (s3.extBut _ _ D.TOz.symm (s2.extBut _ _ D.i1z.symm z1)));have k5:∀ c o,c≠z->c≠O->c≠i->c≠j->s.heap.get? c=some o->g5.get? c=some o:=λ c o c1 c2 c3 c4 e=>s5.extBut _ _ c2 (s4.extBut _ _ c4 (s3.extBut _ _ c2 (s2.extBut _ _ c3 (s1.extBut _ _ c1 e))));have i5:g5.IsStrIter i "str_ascii_iterator" x tk (k+1):=((i2.extBut s3.extBut D.TOi1.symm).extBut s4.extBut D.i12).extBut s5.extBut D.TOi1.symm;have j5:ZT.TI false g5 j b (k+1) ys:=j4.at λ c o hc q=>s5.extBut _ _ (by rcases hc with rfl | rfl;exact D.TOi2.symm;exact D.l2TO) q;have zlt:z<g5.objs.size:=Heap.lt_size z5;show wpAny _ _ (Builtin.SmallTypes.ownedTupleHandOut (.ref z) (.ref g5.objs.size) >>= _) _ _ _;refine wpAny_bind ?_;unfold Builtin.SmallTypes.ownedTupleHandOut;have z6:IsZip (g5.push {cls:=.type "tuple",data:=.seq #[.str ⟨#[c0]⟩ s.toks,y]}) z T O .ellipsis:=Heap.get?_push_of_some _ z5;refine wpAny_bind (wpAny_setField_rec z6 (by simp) λ g7 z7 s7=>?_);replace z7:IsZip g7 z T O (rawInt g5.objs.size):=z7;refine wpAny_setField_rec z7 (by simp) λ g8 z8 s8=>?_;replace z8:IsZip g8 z T O (rawInt g5.objs.size):=z8;have up:∀ c o,c≠z->g5.get? c=some o->g8.get? c=some o:=λ c o c1 e=>s8.extBut _ _ c1 (s7.extBut _ _ c1 (Heap.get?_push_of_some _ e));have t8:IsPair g8 g5.objs.size (.str ⟨#[c0]⟩ s.toks) y:=s8.extBut _ _ (Nat.ne_of_gt zlt) (s7.extBut _ _ (Nat.ne_of_gt zlt) (Heap.get?_push_size _ rfl));rw[sz] at z8 t8;refine wpAny_pure ⟨_,rfl,wpAny_pure ?_⟩;show Q (some (.ref g5.objs.size)) _;rw[sz];exact q g8 ⟨z8,up _ _ D.TIz (k5 T _ D.TIz D.TITO D.TIi1 D.TIi2 Z.t),up _ _ D.TOz o5,(let ⟨o,ho,r⟩:=i5; ⟨o,up _ o D.i1z ho,r⟩),j5.at λ c o hc q=>up _ o (by rcases hc with rfl | rfl;exact D.i2z;exact D.l2z) q⟩ t8 λ c o c1 c2 c3 c4 e=>up c o c1 (k5 c o c1 c2 c3 c4 e)
end ZS
namespace D
open L2
def gc(z:Str):List PyData:=z.cps.toList.map λ c=>.str ⟨#[c]⟩
section
variable {X:Cx}{K:FG}
end
end D
namespace RT
end RT
namespace D
open L2
mutual
def ig:PyData->Bool
 | .list ds=>jh ds
 | .tuple ds=>jh ds
 | .dict kvs=>kvs.all λ p=>ac7 p.2
 | _=>true
def jh:List PyData->Bool
 | []=>true
 | d::ds=>ig d&&jh ds
end
def qN:PyData->Str
 | .str z=>z
 | d=>d.shown
def gO(d:PyData):Bool:=d.showable&&decide (d.shown.length<=sizeLine)&&decide (d.depth<=60)&&ig d
theorem s4m:(4000000:Nat)<=sizeLine:=by rw[sizeLine_eq];decide
theorem yI(h:cO d=true)(hb:big d<=4000000)(hd:d.depth<=60)(hk:ig d=true):gO d=true:=by have h1:=iw d h;have h2:=shown_le d h;have h3:=s4m;simp only[gO,h1,hk,Bool.true_and,Bool.and_true,Bool.and_eq_true,decide_eq_true_eq];exact⟨by omega,hd⟩
theorem afe(I:Inv X pins σ H s)(e:s.heap.get? a=some o)(c:o.data=.seq its n):sysModules≠a:=by intro h;subst h;obtain⟨_,mm,o',es,ep,h1,h2,_⟩:=I.ok.mod.bm;have e2:=I.bk _ _ h1;rw[e] at e2;cases e2;rw[c] at h2;cases h2
mutual
theorem l8(I:Inv X pins σ H s):∀ (d:PyData) {x:V} {u:Value},aA X.K H d x->RelV x u->ig d=true->∃ as,Reads s.heap u d as/\sysModules ∉ as
 | .none,x,u,h,r,_=>⟨[],eZ rfl h r,List.not_mem_nil⟩
 | .bool b,x,u,h,r,_=>⟨[],eZ rfl h r,List.not_mem_nil⟩
 | .int i,x,u,h,r,_=>⟨[],eZ rfl h r,List.not_mem_nil⟩
 | .str z,x,u,h,r,_=>⟨[],eZ rfl h r,List.not_mem_nil⟩
 | .list ds,x,u,h,r,hd=>by simp only[aA] at h;obtain⟨a,vs,e,hs,ra⟩:=h;subst e;cases (show u=Value.ref a from r);obtain⟨its,rv,⟨o,n,e1,e2,e3,e4⟩,hz⟩:=I.list hs.sq;obtain⟨as,q,hn⟩:=gK I ds ra rv (by simpa only[ig] using hd);exact⟨_,.list e1 e2 e4 q,λ hm=>(List.mem_cons.mp hm).elim (afe I e1 e4) hn⟩
 | .tuple ds,x,u,h,r,hd=>by simp only[aA] at h;obtain⟨a,vs,e,hs,ra⟩:=h;subst e;cases (show u=Value.ref a from r);obtain⟨its,rv,⟨o,e1,e2,n,e4⟩,hz⟩:=I.tuple hs;obtain⟨as,q,hn⟩:=gK I ds ra rv (by simpa only[ig] using hd);exact⟨_,.tuple e1 e2 e4 q,hn⟩
 | .dict kvs,x,u,h,r,hd=>by simp only[aA] at h;obtain⟨a,o,l,e,ha,rk⟩:=h;subst e;cases (show u=Value.ref a from r);obtain⟨z,hs,vs,kv,o',es,ep,e1,e2,e3,e4,e5,e6⟩:=xO I.hok (.inr ⟨o,ha⟩);obtain⟨q1,q2⟩:=k8 (h:=s.heap) (by simpa only[ig] using hd) rk kv e5;refine⟨_,.dict e1 e2.1 e3 q1 q2,λ hm=>?_⟩;simp only[List.append_nil,List.mem_singleton] at hm;rw[<- hm] at hs;exact absurd hs (by decide)
theorem gK(I:Inv X pins σ H s):∀ (ds:List PyData) {xs:List V} {us:List Value},a9 X.K H ds xs->Vals xs us->jh ds=true->∃ as,ReadsAll s.heap us ds as/\sysModules ∉ as
 | [],xs,us,h,r,_=>by simp only[a9] at h;subst h;cases r;exact⟨_,.nil,List.not_mem_nil⟩
 | d::ds,xs,us,h,r,hd=>by
  simp only[a9] at h;obtain⟨v,vr,e,h1,h2⟩:=h;subst e;simp only[jh,Bool.and_eq_true] at hd;cases r with
  | cons r1 r2 =>
   obtain⟨as,q1,n1⟩:=l8 I d h1 r1 hd.1;obtain⟨bs,q2,n2⟩:=gK I ds h2 r2 hd.2;exact⟨_,.cons q1 q2,λ hm=>(List.mem_append.mp hm).elim n1 n2⟩
end
theorem pW(hr:lO k X.A):eP X (.type "str") (λ xs H Q=>∃ x d,xs=[x]/\aA X.K H d x/\gO d=true/\Q (.str (qN d)) H):=by
 intro pins s σ H xs us Q I r h;obtain⟨x,d,rfl,rd,ok,q⟩:=h;obtain⟨u,rfl,rx⟩:=vals1 r;have ok':=ok;simp only[gO,Bool.and_eq_true,decide_eq_true_eq] at ok';obtain⟨⟨⟨hs,hz⟩,hd⟩,hfl⟩:=ok';obtain⟨as,rr,hsm⟩:=l8 I d rd rx hfl;have hu:=hr.units;have go:∀ a,qN d=d.shown->Reads s.heap (.ref a) d as->wpAny (model X.prog X.w) X.A (call (.type "str") [.ref a]) (EP X pins σ Q) X.xe s:=λ a e rr=>str_of_reads rr hs (λ _=>hsm) hr.gd (by omega) (λ _ _ z=>z) (λ h' u tk hk=>⟨.str _,H,I.kept hk,⟨_,rfl⟩,by rw[<- e];exact q⟩) hz;cases rr with
 | none=>exact PySem.P.str_of_none ⟨.str _,H,I.tok _,⟨_,rfl⟩,by simpa [qN,PyData.shown] using q⟩
 | bool b=>exact PySem.P.str_of_bool ⟨.str _,H,I.tok _,⟨_,rfl⟩,by simpa [qN,PyData.shown] using q⟩
 | int i t =>
  refine PySem.P.str_of_int (by simpa [PyData.showable] using hs) ⟨.str _,H,I.tok _,⟨_,rfl⟩,?_⟩;rw[qN,PyData.shown] at q
  ·exact q
  ·exact λ z h=>nomatch h
 | str i t=>exact PySem.P.str_of_str ⟨.str _,H,I,⟨_,rfl⟩,q⟩
 | list e1 e2 e3 e4=>exact go _ rfl (.list e1 e2 e3 e4)
 | tuple e1 e2 e3 e4=>exact go _ rfl (.tuple e1 e2 e3 e4)
 | dict e1 e2 e3 e4 e5=>exact go _ rfl (.dict e1 e2 e3 e4 e5)
section
variable {X:Cx}{K:FG}
def vQ(ws:List W)(M:MH)(Q:QD):Prop:=∃ d,ws=[.d d]/\gO d=true/\Q (.d (.str (qN d))) M
theorem wI:fT K (λ xs H Q=>∃ x d,xs=[x]/\aA K H d x/\gO d=true/\Q (.str (qN d)) H) vQ:=by intro vs H ws M Qd Q r m ⟨d,e,ok,q⟩ k;subst e;obtain⟨v,e1,r1⟩:=e9 r;exact⟨v,d,e1,r1,ok,k _ H (.d (.str _)) M (Kp.refl H) (by simp[aE,aA]) m q⟩
variable {o e:Expr}{td:TD}{apos cpos:Pos}
variable {a:Expr}{ta:TA}{p p2 pos pos2:Pos}
end
end D
namespace L2
open PySem.W (envX kla_obj kla_fn)
def yB(X:Cx)(q:Str)(sc:Scope)(N':List Str)(cl:List (Str×Addr))(f c:Addr)(s:Shared)(H:Hp)(pins:PN):Cx:=
 {X with A:=X.A.deeper (envX q sc s.heap.objs.size f (.ref c) cl),N:=N',s₀:=s,H₀:=H,env:=envX q sc s.heap.objs.size f (.ref c) cl,outer:=X.stack,stack:=envX q sc s.heap.objs.size f (.ref c) cl::X.stack,ex:=[],fn:=λ _=>false,calm:=true,pn:=X.pn++pins,xe:=λ _ _=>False}
structure qg(X:Cx)(sc:Scope)(x:Str)(fr:List Nat):Prop where
 kind:sc.kind=.function
 co:sc.isCoroutine=false
 gen:sc.isGenerator=false
 cell:∀ y∈sc.names,y.2 ≠ .cell
 free:∀ y∈sc.names,y.2=.free->(X.env.kindOf y.1=some .cell\/X.env.kindOf y.1=some .free)
 own:sc.names.lookup x=some .local
 fr:agM X.N sc fr=true
def xu(X:Cx)(x:Str)(fr:List Nat):List Str:=x::fr.map λ j=>X.N.getD j Str.empty
def agK(v:V)(fr:List Nat)(σ:St):St:=some v::fr.map λ j=>(σ[j]?).getD none
section
variable {X:Cx}{pins:PN}{σ:St}{H:Hp}{s:Shared}{sc:Scope}{x q:Str}{fr:List Nat}{cl:List (Str×Addr)}{f c:Addr}
theorem afN(L:qg X sc x fr)(hc:X.calm=true)(I:Inv X pins σ H s)(c1:∀ n c,cl.lookup n=some c->X.env.cells.lookup n=some c)(c2:∀ n,(n,NameKind.free)∈sc.names->∃ c,cl.lookup n=some c):(yB X q sc (xu X x fr) cl f c s H pins).Ok where
 mod:=I.ok.mod
 kind:=L.kind
 glob:=rfl
 blt:=rfl
 above:=Nat.le_refl _
 inj:=λ x y c a b=>I.ok.inj x y c (c1 _ _ a) (c1 _ _ b)
 has:=λ y hy=>by
  have hy:sc.names.lookup y=some .cell\/sc.names.lookup y=some .free:=hy;rcases hy with hy | hy
  ·exact absurd rfl (L.cell _ (PySem.mem_of_lookup hy))
  ·exact c2 y (PySem.mem_of_lookup hy)
 cab:=λ x c z=>absurd (show false=true from z) Bool.false_ne_true
 hd:=λ _=>I.ok.hd hc
 frames:=Around.frames_deeper I.ok.frames
 stk:=.inr ⟨rfl,rfl⟩
 exf:=λ b z=>nomatch z
 bs:=I.bs
 bsz:=Nat.le_trans I.ok.bsz I.sz
 noex:=λ b o e z=>nomatch z
 exfs:=λ b z=>nomatch z
 nL:=I.stack
 frf:=I.nk
theorem adp(L:qg X sc x fr)(hc:X.calm=true)(I:Inv X pins σ H s)(c1:∀ n c,cl.lookup n=some c->X.env.cells.lookup n=some c)(c2:∀ n,(n,NameKind.free)∈sc.names->∃ c,cl.lookup n=some c)
  {h1:Heap}{tk:Nat}{v:V}{u:Value}(rv:RelV v u)(hn:h1.Ns s.heap.objs.size (λ y=>[(x,u)].reverse.lookup y))(k:∀ b o,s.heap.get? b=some o->h1.get? b=some o) :
  Inv (yB X q sc (xu X x fr) cl f c s H pins) [] (agK v fr σ) H {s with heap:=h1,toks:=tk}:=by
 have ok:=afN (q:=q) (f:=f) (c:=c) L hc I c1 c2;refine⟨ok,rfl,I.bare,Un.kept k,⟨_,hn,λ i y v' e1 e2 e3=>?_⟩,λ y c e=>?_,I.hok.fresh (Nat.le_refl _),λ y c e=>I.freeC y c (c1 _ _ e),λ p hp=>?_,I.hok.kept k,?_⟩
 ·cases i with
  | zero =>
   have e1':some x=some y:=e1;have e2':some (some v)=some (some v'):=e2;cases e1';cases e2';exact⟨u,rv,.inl ⟨L.own,by simp⟩⟩
  | succ i =>
   have e1':(fr.map λ j=>X.N.getD j Str.empty)[i]? =some y:=e1;have e2':(fr.map λ j=>(σ[j]?).getD none)[i]? =some (some v'):=e2;rw[List.getElem?_map] at e1' e2';cases hq:fr[i]? with
   | none=>rw[hq] at e1';cases e1'
   | some j =>
    rw[hq] at e1' e2';obtain⟨z,hz,hzf⟩:=tN L.fr (List.mem_of_getElem? hq);have ex:z=y:=by have:=Option.some.inj e1';rw[<- this];simp[List.getD,hz]
    subst ex;have ev:σ[j]? =some (some v'):=by
     have z':(σ[j]?).getD none=some v':=Option.some.inj e2';cases w:σ[j]? with
     | none=>rw[w] at z';cases z'
     | some o=>rw[w] at z';exact congrArg some z'
    have hm:(z,NameKind.free)∈sc.names:=PySem.mem_of_lookup hzf;have hk:=L.free _ hm rfl;have vis:Vis X.env.scope z:=by
     rcases hk with w | w
     ·exact .inr (.inl w)
     ·exact .inr (.inr w)
    obtain⟨m0,hn0,hl⟩:=I.loc;obtain⟨u',r,l⟩:=hl j z v' hz ev vis;refine⟨u',r,.inr ⟨.inr hzf,?_⟩⟩;obtain⟨c',hc'⟩:=c2 z hm;rcases l with ⟨w,_⟩ | ⟨_,c'',hc'',hcell⟩
    ·rcases hk with q' | q'
     ·exact absurd (show X.env.kindOf z=some .local from w) (by rw[q'];decide)
     ·exact absurd (show X.env.kindOf z=some .local from w) (by rw[q'];decide)
    ·have:c'=c'':=Option.some.inj ((c1 _ _ hc').symm.trans hc'');subst this;obtain⟨o,ho,hd⟩:=hcell;exact⟨c',hc',o,k _ _ ho,hd⟩
 ·obtain⟨w,o,ho,hd⟩:=I.cell y c (c1 _ _ e);exact⟨w,o,k _ _ ho,hd⟩
 ·have hp':p∈X.pn++pins:=by simpa [yB] using hp
  obtain⟨a1,a2,a3,a4,a5⟩:=I.pin p hp';refine⟨k _ _ a1,a2,Nat.ne_of_lt (Heap.lt_size a1),λ z=>?_,a5⟩;rcases List.mem_cons.mp (I.i4 _ z) with e | e
  ·exact a3 e
  ·exact a4 e
 ·show(agK v fr σ).length=(xu X x fr).length;simp[agK,xu]
def ad5(H:Hp)(q x:Str)(params:Arguments)(body:Expr)(sc:Scope)(cl:List (Str×Addr))(pm:Value)(f:Addr):Prop:=
 ∃ c ctv oc vs t,H f=some (.frz (kla_obj "<lambda>" q params body sc cl pm c ctv) (.own 0))/\H c=some (.frz oc (.own 0))/\oc.data=.fields vs/\vs[1]? =some (.str q t)
theorem abZ{k:Nat}{E:VP}{params:Arguments}{body:Expr}{pm:Value}{te:TE}{v:V}{u:Value}{Q:VK}(hr:cY (k+1) X.A)(hc:X.calm=true)(L:qg X sc x fr)(c1:∀ n c,cl.lookup n=some c->X.env.cells.lookup n=some c)(c2:∀ n,(n,NameKind.free)∈sc.names->∃ c,cl.lookup n=some c)
  (hb:∀ cdv ctv u,bindArgs (kla_fn "<lambda>" q params body sc cl pm cdv ctv) ⟨[u],[]⟩=pure [(x,u)])
  (he:∀ c s H pl,cY k (yB X q sc (xu X x fr) cl f c s H pl).A->PE (yB X q sc (xu X x fr) cl f c s H pl) body te)
  (I:Inv X pins σ H s)(hf:ad5 H q x params body sc cl pm f)(rv:RelV v u)(h:te (agK v fr σ) H Q):wpAny (model X.prog X.w) X.A (call (.ref f) [u]) (EP X pins σ Q) E s:=by
 obtain⟨c,ctv,oc,vs,t,h1,h2,h3,h4⟩:=hf;obtain⟨g1,_⟩:=I.hok f _ h1;obtain⟨g2,_⟩:=I.hok c _ h2;refine wpAny_call (W.kla_callFunE hr.depth g1 rfl L.co L.gen rfl ⟨c,oc,vs,t,rfl,g2,h3,h4⟩ ?_);rw[hb];refine wpAny_pure (wpAny_newFunctionEnv L.cell (λ y hy=>by rw[List.mem_singleton.mp hy];exact L.own) (λ h₁ hns hsb=>⟨(I.nolimit).fresh _ hsb,?_⟩) L.kind);have hk₁:∀ b o,s.heap.get? b=some o->h₁.get? b=some o:=λ b o e=>hsb.extBut b o (Nat.ne_of_lt (Heap.lt_size e)) (Heap.get?_push_of_some _ e);have J:=adp (q:=q) (f:=f) (c:=c) (tk:=s.toks+1) L hc I c1 c2 rv hns hk₁;have hr':cY k (yB X q sc (xu X x fr) cl f c s H pins).A:=hr.deeper _;refine W.kla_codeExpr (wpAny_mono (he c s H pins hr' [] _ _ _ _ J h) (λ u' s' hh=>?_) λ _ _ z=>z.elim);obtain⟨v',H',J',r',q'⟩:=hh;exact I.after ⟨v',H',J'.os,J'.bare,J'.base,J'.hok,r',q'⟩
end
section
variable {X:Cx}{pins:PN}{σ:St}{H:Hp}{s:Shared}
theorem Inv.acg{P:Addr}{ps more:Array Value}{h':Heap}{t':Nat}(I:Inv X pins σ H s)(hP:H P=some (.tbl ps))(k:∀ b u,b≠P->s.heap.get? b=some u->h'.get? b=some u)(e:h'.get? P=some {cls:=.none,data:=.fields (ps++more)}) :
  Inv X pins σ (upd H P (.tbl (ps++more))) {s with heap:=h',toks:=t'}:=by
 have nn:∀ b,H b=none->b≠P:=λ b n=>Ne.symm (aS hP n);have nt:∀ b xs,H b=some (.tup xs)->b≠P:=λ b xs q=>uC q hP (λ z=>nomatch z);have nf:∀ b o u,H b=some (.frz o u)->b≠P:=λ b o u q=>uC q hP (λ z=>nomatch z);have no:∀ b y,H b=some (.own y)->b≠P:=λ b y q=>uC q hP (λ z=>nomatch z);refine I.un ⟨λ b o q n _ _=>k b o (nn b n) q,λ b o q n _ _=>⟨o.slots,k b o (nn b n) q⟩,λ b o _ n _=>by rw[aq (nn b n)];exact n,λ b o q _=>?_,λ b xs q=>by rw[aq (nt b xs q)];exact q,λ b o u q=>by rw[aq (nf b o u q)];exact q,λ b qs q=>?_⟩ λ b u q=>?_
 ·by_cases hb:b=P
  ·subst hb;exact⟨_,e⟩
  ·exact⟨o,k b o hb q⟩
 ·by_cases hb:b=P
  ·subst hb;rw[hP] at q;cases q;exact⟨more,au⟩
  ·exact⟨#[],by rw[aq hb,q];simp⟩
 ·by_cases hb:b=P
  ·subst hb;rw[au] at q;cases q;exact e
  ·rw[aq hb] at q;exact(I.hok b u q).qx (λ c v hc r=>k c v (by rcases hc with z | z;rw[z];exact hb;exact no c _ z) r) (λ c r=>by rw[aq (no c _ r)];exact r) λ c xs r=>by rw[aq (nt c xs r)];exact r
theorem Inv.hold{D:Addr}{ob:Obj}(I:Inv X pins σ H s)(e:s.heap.get? D=some ob)(hn:H D=none)
  (h0:X.s₀.heap.objs.size<=D)(hL:D≠X.env.locals)(hc:∀ x c,X.env.cells.lookup x=some c->c≠D)(hp:∀ p∈X.pn++pins,p.1≠D):Inv X pins σ (upd H D (.frz ob (.own 0))) s:=by
 have ne:∀ b u,H b=some u->b≠D:=λ b u q=>aS q hn;refine I.step (h':=s.heap) (g':=s.gens) (d':=s.drawn) (t':=s.toks) (ch:=[D]) (λ b hb=>?_) (λ b o _ _ _ q _=>q) (λ b o _ _ _ q _=>⟨o.slots,q⟩) (λ b o hb q n=>?_) (λ b o _ q=>⟨o,q⟩)
  (λ b xs q=>by rw[aq (ne b _ q)];exact q) (λ b o u q=>by rw[aq (ne b _ q)];exact q) (λ b ps q=>⟨#[],by rw[aq (ne b _ q),q];simp⟩) (λ m hm=>hm) (λ b u q=>?_) I.bare
 ·have e:b=D:=by simpa using hb
  subst e;exact⟨.inr h0,hL,hc,hp⟩
 ·rw[aq (λ z=>hb (by simp[z]))];exact n
 ·by_cases hb:b=D
  ·subst hb;rw[au] at q;cases q;exact⟨e,ob,e⟩
  ·rw[aq hb] at q;exact(I.hok b u q).qx (λ _ _ _ q=>q) (λ c r=>by rw[aq (ne c _ r)];exact r) λ c xs r=>by rw[aq (ne c _ r)];exact r
def ag8(X:Cx)(sc:Scope)(cl:List (Str×Addr)):Prop:=(∀ n c,cl.lookup n=some c->X.env.cells.lookup n=some c)/\∀ n,(n,NameKind.free)∈sc.names->∃ c,cl.lookup n=some c
abbrev nQ(ps:Array Value)(lpos:Pos)(c:Addr):Array Value:=ps ++ #[rawInt lpos.line,rawInt lpos.col,.ref c]
def ain(X:Cx)(P:Addr)(q:Str)(params:Arguments)(body:Expr)(sc:Scope)(lpos:Pos):TE:=λ σ H Q=>∃ ps,H P=some (.tbl ps)/\TriplesOk ps.toList /\
 ((codeAmong lpos ps.toList=none/\∀ c f oc vs t ctv cl,ag8 X sc cl->H c=none->H f=none->c≠f->oc.data=.fields vs->vs[1]? =some (.str q t) ->
   Q (.ref f) (upd (upd (upd H c (.frz oc (.own 0))) P (.tbl (nQ ps lpos c))) f (.frz (kla_obj "<lambda>" q params body sc cl ((X.mg "__name__").getD .none) c ctv) (.own 0)))) \/
∃ c o vs t,codeAmong lpos ps.toList=some (.ref c)/\H c=some (.frz o (.own 0))/\o.data=.fields vs/\vs[1]? =some (.str q t)/\∀ f ctv cl,ag8 X sc cl->H f=none ->
   Q (.ref f) (upd H f (.frz (kla_obj "<lambda>" q params body sc cl ((X.mg "__name__").getD .none) c ctv) (.own 0))))
theorem aen{P cd:Addr}{params:Arguments}{body:Expr}{sc:Scope}{lpos:Pos}{x:Str}{fr:List Nat}(L:qg X sc x fr)(hcode:X.env.code=.ref cd)(hcd:W.codeHdIn X.K cd P=true)(hdef:defaultsOf params X.env=([],[]):=by rfl) :
  PE X (.Lambda params body sc lpos) (ain X P (X.env.qual ++ "<lambda>") params body sc lpos):=by
 intro pins s σ H Q I h;obtain⟨ps,hP,ht,h⟩:=h;obtain⟨cl,hcl,c1,c2⟩:=i7 (scope:=sc) (env:=X.env) λ y hy hf=>I.ok.has y.1 (L.free y hy hf);refine W.kla_eval hdef ?_;have hg:=I.ok.mod.glob.keeps I.bk;obtain⟨⟨bm,ob,b1,b2,b3,b4,b5,b6⟩,_⟩:=I.ok.mod.bm;have b3':=I.bk _ _ b3;have hPo:s.heap.get? P=some {cls:=.none,data:=.fields ps}:=I.hok P _ hP;have hgP:mainGlobals≠P:=λ z=>by obtain⟨o,es,ep,e,hd,_⟩:=hg;rw[z,hPo] at e;cases e;cases hd
 have hbP:bm≠P:=λ z=>by rw[z,hPo] at b3';cases b3';cases b4
 have hbG:bm≠mainGlobals:=λ z=>by obtain⟨o,es,ep,e,hd,_⟩:=hg;rw[z,e] at b3';cases b3';rw[hd] at b6;cases b6
 have C:=W.codeHd_of_K I.kIn hcd;rcases h with ⟨hnf,h⟩ | ⟨c,o,vs,t,hf,hc,hd,hv,h⟩
 ·refine W.kla_makeFunction (mg:=X.mg) hcl I.ok.glob hg hcode C hPo ht hnf hgP ⟨bm,ob,b1,b2,hbG,hbP,b3',b4,b5,b6⟩ λ c' ctv h' tk hx hge hlt hrec htb=>?_;obtain⟨c₂,oc,vs,t,e2,hoc,hd,hv⟩:=hrec;cases e2;have hcn:H c'=none:=I.hok.fresh hge;have hfn:H h'.objs.size=none:=I.hok.fresh (Nat.le_trans hge (Nat.le_of_lt hlt));have cP:c'≠P:=Ne.symm (aS hP hcn);have I1:=I.acg (t':=tk) hP (λ b u hb e=>hx b u hb e) htb;have I2:=I1.hold hoc (by rw[aq cP];exact hcn) (Nat.le_trans I.sz hge) (λ z=>by obtain⟨m,hn,_⟩:=I.loc;exact absurd (Nat.lt_of_lt_of_le hn.lt hge) (by rw[z];exact Nat.lt_irrefl _))
   (λ y c hy z=>by obtain⟨w,o,ho,_⟩:=I.cell y c hy;exact absurd (Nat.lt_of_lt_of_le (Heap.lt_size ho) hge) (by rw[z];exact Nat.lt_irrefl _))
   (λ p hp z=>by obtain⟨ho,_⟩:=I.pin p hp;exact absurd (Nat.lt_of_lt_of_le (Heap.lt_size ho) hge) (by rw[z];exact Nat.lt_irrefl _))
  have hsw:upd (upd H P (.tbl (nQ ps lpos c'))) c' (.frz oc (.own 0))=upd (upd H c' (.frz oc (.own 0))) P (.tbl (nQ ps lpos c')):=by
   funext b;unfold upd
   by_cases e1:b=c'
   ·rw[if_pos e1,if_neg (by rw[e1];exact cP),if_pos e1]
   ·rw[if_neg e1,if_neg e1]
  rw[hsw] at I2;have I3:=I2.laid (t':=tk) (o:=.frz (kla_obj "<lambda>" (X.env.qual ++ "<lambda>") params body sc cl ((X.mg "__name__").getD .none) c' ctv) (.own 0)) (h':=h'.push (kla_obj "<lambda>" (X.env.qual ++ "<lambda>") params body sc cl ((X.mg "__name__").getD .none) c' ctv)) (λ b u e=>Heap.get?_push_of_some _ e) (Nat.le_refl _) ⟨Heap.get?_push_size _ rfl,_,Heap.get?_push_size _ rfl⟩;exact⟨.ref _,_,I3,rfl,h c' h'.objs.size oc vs t ctv cl ⟨c1,c2⟩ hcn hfn (Nat.ne_of_lt hlt) hd hv⟩
 ·refine W.kla_makeFunctionHit (mg:=X.mg) hcl I.ok.glob hg hcode C hPo ht hf ⟨bm,ob,b1,b2,hbG,hbP,b3',b4,b5,b6⟩ λ ctv h' tk hk hsz=>?_;have I3:=(I.kept (t':=tk) hk).laid (t':=tk) (o:=.frz (kla_obj "<lambda>" (X.env.qual ++ "<lambda>") params body sc cl ((X.mg "__name__").getD .none) c ctv) (.own 0)) (h':=h'.push (kla_obj "<lambda>" (X.env.qual ++ "<lambda>") params body sc cl ((X.mg "__name__").getD .none) c ctv)) (λ b u e=>Heap.get?_push_of_some _ e) (Nat.le_refl _) ⟨Heap.get?_push_size _ rfl,_,Heap.get?_push_size _ rfl⟩;exact⟨.ref _,_,I3,rfl,h _ ctv cl ⟨c1,c2⟩ (I.hok.fresh hsz)⟩
end
def vg(X:Cx):Cx:={X with A:=X.A.in1}
theorem Inv.in1(I:Inv X pins σ H s):Inv (vg X) pins σ H s:=
 ⟨⟨I.ok.mod,I.ok.kind,I.ok.glob,I.ok.blt,I.ok.above,I.ok.inj,I.ok.has,I.ok.cab,I.ok.hd,I.ok.frames,I.ok.stk,I.ok.exf,I.ok.bs,I.ok.bsz,I.ok.noex,I.ok.exfs,I.ok.nL,I.ok.frf⟩,I.os,I.bare,I.base,I.loc,I.cell,I.free,I.freeC,I.pin,I.hok,I.len⟩
theorem Inv.aiN(I:Inv (vg X) pins σ H s):Inv X pins σ H s:=
 ⟨⟨I.ok.mod,I.ok.kind,I.ok.glob,I.ok.blt,I.ok.above,I.ok.inj,I.ok.has,I.ok.cab,I.ok.hd,I.ok.frames,I.ok.stk,I.ok.exf,I.ok.bs,I.ok.bsz,I.ok.noex,I.ok.exfs,I.ok.nL,I.ok.frf⟩,I.os,I.bare,I.base,I.loc,I.cell,I.free,I.freeC,I.pin,I.hok,I.len⟩
theorem Inv.uT(I:Inv X pins σ H s)(f:jz X pins H it)(k:∀ b o,b≠it->s.heap.get? b=some o->h'.get? b=some o):Inv X pins σ H {s with heap:=h',toks:=t'}:=
 I.turned k f.1 f.2.1 f.2.2.2.1 f.2.2.2.2.1 f.2.2.2.2.2
theorem Inv.aiz(I:Inv X pins σ H s)(fa:jz X pins H a)(fb:jz X pins H b)(ea:s.heap.get? a=some oa)(eb:s.heap.get? b=some ob)(ca:∀ v,oa.data ≠ .cell v)(cb:∀ v,ob.data ≠ .cell v):Inv X ((a,oa)::(b,ob)::pins) σ H s:=
 I.d5 λ p hp=>by
  rcases List.mem_cons.mp hp with e | hp
  ·subst e;exact⟨ea,fa.1,fa.2.1,fa.2.2.1,ca⟩
  rcases List.mem_cons.mp hp with e | hp
  ·subst e;exact⟨eb,fb.1,fb.2.1,fb.2.2.1,cb⟩
  ·exact I.pin p (List.mem_append_right _ hp)
theorem Inv.abG(I:Inv X ((a,oa)::(b,ob)::pins) σ H s):Inv X pins σ H s/\(s.heap.get? a=some oa/\H a=none)/\s.heap.get? b=some ob/\H b=none:=
 have pa:=I.pin (a,oa) (List.mem_append_right _ (.head _));have pb:=I.pin (b,ob) (List.mem_append_right _ (.tail _ (.head _)))
 ⟨I.d5 λ p hp=>I.pin p (List.mem_append_right _ (.tail _ (.tail _ hp))),⟨pa.1,pa.2.1⟩,pb.1,pb.2.1⟩
theorem sW{l a:Addr}{items:Array Value}{i:Nat}{h:Heap}(hl:h.IsList l items)(hi:h.IsListIter a l i):l≠a:=by
 rintro rfl;obtain⟨o,e,c,_⟩:=hl;obtain⟨o',e',c',_⟩:=hi;rw[e] at e';cases e';rw[c] at c';exact absurd (Value.type.inj c') (by decide)
theorem xa(kf:Nat->Int)(W:Nat->Hp->Prop)(hh:X.A.handled=none)(hl:∀ i H,W i H->SqL X.K H l xs)(hSI:S≠it)(fI:∀ H:Hp,H it=none->jz X pins H it)(fS:∀ H:Hp,H S=none->jz X pins H S)
  (turn:∀ (i:Nat) (v:V) (u:Value) (pl:PN) (H:Hp) (s:Shared),xs[i]? =some v->RelV v u->W i H->Inv (vg X) pl σ H s->wpAny (model X.prog X.w) X.A.in1 (call (.ref f) [u]) (EP (vg X) pl σ λ y H'=>y=.int (kf i)/\W (i+1) H') (λ _ _=>False) s)
  (fin:∀ (i:Nat) (v:V) (u:Value) (H:Hp) (s:Shared),xs[i]? =some v->RelV v u->(∀ j,j<xs.length->kf i<=kf j/\(j<i->kf i<kf j))->W xs.length H->Inv X pins σ H s->R (.ok (.ret u)) s) :
  ∀ (r j i:Nat) (H:Hp) (s:Shared) (v:V) (u:Value) (tb:Tok) (c:Nat),xs.length-(j+1)=r->j+1<=xs.length->Inv X pins σ H s->W (j+1) H->H it=none->H S=none ->
   s.heap.get? S=some (seqObj "list" #[u,.int (kf i) tb] c)->s.heap.IsListIter it l (j+1)->xs[i]? =some v->RelV v u->i<=j->(∀ m,m<=j->kf i<=kf m/\(m<i->kf i<kf m)) ->
   codeAny (model X.prog X.w) X.A (.builtin "min.loop" ⟨[.ref it,.ref f,.ref S],[]⟩) R s:=by
 have nm:(toString "min" ++ toString ".loop" : String) = "min.loop":= by decide
 intro r
 induction r with
 | zero =>
  intro j i H s v u tb c hr hj J hW nI nS gS gI hv ru hij best;have hin:j+1=xs.length:=by omega
  obtain⟨its,rl,pl,hz⟩:=J.list (hl _ _ hW);have sz:its.toArray.size=xs.length:=by rw[List.size_toArray,rl.length]
  have Wk:=Walks.list (prog:=X.prog) (w:=X.w) (A:=X.A.in1) hh it l (sW pl.isList gI) its.toArray;refine codeAny_builtin PySem.F.entry_min_loop ?_;rw[Around.under_plainId PySem.F.plain_min_loop _];show wpAny _ X.A.in1 (seqItems? (.ref S) >>= _) _ _ _;refine wpAny_bind (wpAny_seqItems gS rfl ?_);show wpAny _ X.A.in1 (tryCatch (pyNext (.ref it)) _ >>= _) _ _ _;refine wpAny_bind (wpAny_tryCatch (Wk.done _ _ _ ⟨by rw[sz,<- hin];exact gI,pl.isList⟩ λ h' tk' hk'=>?_));have J1:=J.uT (t':=tk') (fI H nI) λ b o hb e=>hk' b o (by simpa using hb) e;have gS':=hk' S _ (by simpa using hSI) gS;have s1:=Heap.SameBut.update h' S (Obj.mapSeq λ _=>(#[]:Array Value));show wpAny _ X.A.in1 (updateSeq S (λ _=>#[]) >>= _) _ _ _;refine wpAny_bind (wpAny_updateSeq gS' rfl (wpAny_bind (wpAny_letGo (wpAny_pure ?_))));exact fin i v u H _ hv ru (λ m hm=>best m (by omega)) (by rw[<- hin];exact hW) (J1.uT (t':=tk') (fS H nS) λ b o hb e=>(s1.2 b hb).trans e)
 | succ r ih =>
  intro j i H s v u tb c hr hj J hW nI nS gS gI hv ru hij best;have hlt:j+1<xs.length:=by omega
  obtain⟨its,rl,pl,hz⟩:=J.list (hl _ _ hW);have sz:its.toArray.size=xs.length:=by rw[List.size_toArray,rl.length]
  have Wk:=Walks.list (prog:=X.prog) (w:=X.w) (A:=X.A.in1) hh it l (sW pl.isList gI) its.toArray;refine codeAny_builtin PySem.F.entry_min_loop ?_;rw[Around.under_plainId PySem.F.plain_min_loop _];show wpAny _ X.A.in1 (seqItems? (.ref S) >>= _) _ _ _;refine wpAny_bind (wpAny_seqItems gS rfl ?_);show wpAny _ X.A.in1 (tryCatch (pyNext (.ref it)) _ >>= _) _ _ _;refine wpAny_bind (wpAny_tryCatch (Wk.item (j+1) _ _ _ (by rw[sz];exact hlt) ⟨gI,pl.isList⟩ λ u2 h' tk' hP hst hk'=>?_));have J1:=J.uT (t':=tk') (fI H nI) λ b o hb e=>hk' b o (by simpa using hb) e;have gS1:=hk' S _ (by simpa using hSI) gS;obtain⟨oI,goI,coI,doI⟩:=id hst.1;obtain⟨v2,hv2⟩:∃ v2,xs[j+1]? =some v2:=⟨_,List.getElem?_eq_getElem hlt⟩;obtain⟨u3,hu3,ru2⟩:=rl.get hv2;have eu:u3=u2:=by
   have hP':its[j+1]? =some u2:=by simpa using hP
   rw[hu3] at hP';exact Option.some.inj hP'
  subst eu;show wpAny _ X.A.in1 (tryCatch (holding [u3] (call (.ref f) [u3])) _ >>= _) _ _ _;have JP:=J1.aiz (fS H nS) (fI H nI) gS1 goI (λ _ z=>nomatch z) (λ _ z=>by rw[doI] at z;cases z);refine wpAny_bind (wpAny_tryCatch (wpAny_holding (wpAny_mono (turn (j+1) v2 u3 _ H _ hv2 ru2 hW JP.in1) (λ x s2 he=>?_) λ _ _ hF=>hF.elim)));obtain⟨y,H2,J2,ry,ey,hW2⟩:=he;subst ey;obtain⟨t2,rfl⟩:=ry;obtain⟨J3,⟨gS2,nS2⟩,goI2,nI2⟩:=J2.aiN.abG;have gI2:s2.heap.IsListIter it l (j+1+1):=⟨oI,goI2,coI,doI⟩;show wpAny _ X.A.in1 (tryCatch (holding [u3,.int (kf (j+1)) t2] (richCompare .Lt (.int (kf (j+1)) t2) (.int (kf i) tb) >>= _)) _ >>= _) _ _ _;refine wpAny_bind (wpAny_tryCatch (wpAny_holding (wpAny_bind (CmpOf.ints_lt (prog:=X.prog) (w:=X.w) (A:=X.A.in1) (P:=λ i v=>∃ t,v=.int (kf i) t) kf (λ i v h=>h) (j+1) i _ _ _ _ _ ⟨t2,rfl⟩ ⟨tb,rfl⟩ ?_))));refine wpAny_bind (wpAny_holding (wpAny_truthy_bool (wpAny_bind (wpAny_letGo (wpAny_pure ?_)))))
  by_cases hb':kf (j+1)<kf i
  ·have s1:=Heap.SameBut.update s2.heap S (Obj.mapSeq λ _=>#[u3,.int (kf (j+1)) t2]);obtain⟨c2,hc2⟩:∃ c2,(s2.heap.update S (Obj.mapSeq λ _=>#[u3,.int (kf (j+1)) t2])).get? S=some (seqObj "list" #[u3,.int (kf (j+1)) t2] c2):=⟨_,get?_update_seq gS2 λ _=>#[u3,.int (kf (j+1)) t2]⟩;simp only[hb',decide_true,if_true];refine wpAny_bind (wpAny_updateSeq gS2 rfl (wpAny_bind (wpAny_letGo ?_)));rw[nm];have J4:=J3.uT (t':=s2.toks) (h':=s2.heap.update S (Obj.mapSeq λ _=>#[u3,.int (kf (j+1)) t2])) (fS H2 nS2) λ b o hb e=>(s1.2 b hb).trans e;refine wpAny_pure ⟨plainId_quiet PySem.F.plain_min_loop _,ih (j+1) (j+1) H2 _ v2 u3 t2 c2 (by omega) hlt J4 hW2 nI2 nS2 hc2 ⟨oI,(s1.2 it hSI.symm).trans goI2,coI,doI⟩ hv2 ru2 (Nat.le_refl _) λ m hm=>?_⟩
   by_cases e:m=j+1
   ·subst e;exact⟨by omega,λ _=>by omega⟩
   ·have:=(best m (by omega)).1;exact⟨by omega,λ _=>by omega⟩
  ·simp only[hb',decide_false,Bool.false_eq_true,if_false];refine wpAny_bind (wpAny_letGo ?_);rw[nm];refine wpAny_pure ⟨plainId_quiet PySem.F.plain_min_loop _,ih (j+1) i H2 s2 v u tb c (by omega) hlt J3 hW2 nI2 nS2 gS2 gI2 hv ru (by omega) λ m hm=>?_⟩
   by_cases e:m=j+1
   ·subst e;exact⟨by omega,λ _=>by omega⟩
   ·exact best m (by omega)
theorem ac9(kf:Nat->Int)(W:Nat->Hp->Prop)(hh:X.A.handled=none)(I:Inv X pins σ H s)(hW:W 0 H)(hne:0<xs.length)(hl:∀ i H,W i H->SqL X.K H l xs)
  (turn:∀ (i:Nat) (v:V) (u:Value) (pl:PN) (H:Hp) (s:Shared),xs[i]? =some v->RelV v u->W i H->Inv (vg X) pl σ H s->wpAny (model X.prog X.w) X.A.in1 (call (.ref f) [u]) (EP (vg X) pl σ λ y H'=>y=.int (kf i)/\W (i+1) H') (λ _ _=>False) s)
  (fin:∀ (i:Nat) (v:V) (u:Value) (H:Hp) (s:Shared),xs[i]? =some v->RelV v u->(∀ j,j<xs.length->kf i<=kf j/\(j<i->kf i<kf j))->W xs.length H->Inv X pins σ H s->Q u s) :
  wpAny (model X.prog X.w) X.A (call (.builtin "min") [.ref l] [(Str.ofString "key",.ref f)]) Q E s:=by
 have nm:(toString "min" ++ toString ".loop" : String) = "min.loop":= by decide
 obtain⟨its,rl,pl,hz⟩:=I.list (hl _ _ hW);have sz:its.toArray.size=xs.length:=by rw[List.size_toArray,rl.length]
 obtain⟨ol,hol,_⟩:=id pl.isList;have hll:l<s.heap.objs.size:=Heap.lt_size hol;refine kmk_tree PySem.F.kind_min PySem.F.plain_min PySem.F.entry_min (kmk_min_key _ _) ?_;show wpAny _ X.A.in1 (Builtin.Builtins.bindParams "min" ["key", "default"] 0 ⟨[],[(Str.ofString "key",.ref f)]⟩ >>= _) _ _ s;refine wpAny_bind (wpAny_of_eq (show Builtin.Builtins.bindParams "min" ["key", "default"] 0 ⟨[],[(Str.ofString "key",.ref f)]⟩=pure [some (.ref f),none] from rfl) (wpAny_bind (wpAny_pure ?_)));refine wpAny_bind (wpAny_pyIter_list pl.isList (wpAny_bind (wpAny_newList ?_ (Nat.zero_le _))));rw[nm];generalize hit:s.heap.objs.size=it;have hS:(s.heap.push {cls:=.type "list_iterator",data:=.fields #[.ref l,.int 0 0]}).objs.size=it+1:=by rw[<- hit];exact size_push' ..
 rw[hS];have nI:H it=none:=I.hok.fresh (by rw[hit];exact Nat.le_refl _);have nS:H (it+1)=none:=I.hok.fresh (by rw[hit];exact Nat.le_succ _);have fI:∀ H:Hp,H it=none->jz X pins H it:=λ H n=>I.mB (by rw[hit];exact Nat.le_refl _) n;have fS:∀ H:Hp,H (it+1)=none->jz X pins H (it+1):=λ H n=>I.mB (by rw[hit];exact Nat.le_succ _) n;have gI:((s.heap.push {cls:=.type "list_iterator",data:=.fields #[.ref l,.int 0 0]}).push (seqObj "list" #[] 0)).get? it=some {cls:=.type "list_iterator",data:=.fields #[.ref l,.int 0 0]}:=Heap.get?_push_of_some _ (by rw[<- hit];exact Heap.get?_push_size _ rfl);have gS:((s.heap.push {cls:=.type "list_iterator",data:=.fields #[.ref l,.int 0 0]}).push (seqObj "list" #[] 0)).get? (it+1)=some (seqObj "list" #[] 0):=by rw[<- hS];exact Heap.get?_push_size _ rfl
 refine wpAny_pure ⟨plainId_quiet PySem.F.plain_min_loop _,?_⟩;generalize hH:(s.heap.push {cls:=.type "list_iterator",data:=.fields #[.ref l,.int 0 0]}).push (seqObj "list" #[] 0)=hp at gI gS;have kp:∀ b o,s.heap.get? b=some o->hp.get? b=some o:=λ b o e=>by rw[<- hH];exact Heap.get?_push_of_some _ (Heap.get?_push_of_some _ e)
 have J:=I.kept (t':=s.toks) kp;have hlI:l≠it:=by rw[<- hit];exact Nat.ne_of_lt hll
 have hlst:hp.IsList l its.toArray:=pl.isList.at λ o e=>kp l o e;have Wk:=Walks.list (prog:=X.prog) (w:=X.w) (A:=X.A.in1) hh it l hlI its.toArray;refine codeAny_builtin PySem.F.entry_min_loop ?_;rw[Around.under_plainId PySem.F.plain_min_loop _];show wpAny _ X.A.in1 (seqItems? (.ref (it+1)) >>= _) _ _ _;refine wpAny_bind (wpAny_seqItems gS rfl ?_);show wpAny _ X.A.in1 (tryCatch (pyNext (.ref it)) _ >>= _) _ _ _;refine wpAny_bind (wpAny_tryCatch (Wk.item 0 _ _ _ (by rw[sz];exact hne) ⟨⟨_,gI,rfl,rfl⟩,hlst⟩ λ u2 h' tk' hP hst hk'=>?_));have J1:=J.uT (t':=tk') (fI H nI) λ b o hb e=>hk' b o (by simpa using hb) e;have gS1:=hk' (it+1) _ (by simp) gS;obtain⟨oI,goI,coI,doI⟩:=id hst.1;obtain⟨v2,hv2⟩:∃ v2,xs[0]? =some v2:=⟨_,List.getElem?_eq_getElem hne⟩;obtain⟨u3,hu3,ru2⟩:=rl.get hv2;have eu:u3=u2:=by
  have hP':its[0]? =some u2:=by simpa using hP
  rw[hu3] at hP';exact Option.some.inj hP'
 subst eu;show wpAny _ X.A.in1 (tryCatch (holding [u3] (call (.ref f) [u3])) _ >>= _) _ _ _;have JP:=J1.aiz (fS H nS) (fI H nI) gS1 goI (λ _ z=>nomatch z) (λ _ z=>by rw[doI] at z;cases z);refine wpAny_bind (wpAny_tryCatch (wpAny_holding (wpAny_mono (turn 0 v2 u3 _ H _ hv2 ru2 hW JP.in1) (λ x s2 he=>?_) λ _ _ hF=>hF.elim)));obtain⟨y,H2,J2,ry,ey,hW2⟩:=he;subst ey;obtain⟨t2,rfl⟩:=ry;obtain⟨J3,⟨gS2,nS2⟩,goI2,nI2⟩:=J2.aiN.abG;have s1:=Heap.SameBut.update s2.heap (it+1) (Obj.mapSeq λ _=>#[u3,.int (kf 0) t2]);obtain⟨c2,hc2⟩:∃ c2,(s2.heap.update (it+1) (Obj.mapSeq λ _=>#[u3,.int (kf 0) t2])).get? (it+1)=some (seqObj "list" #[u3,.int (kf 0) t2] c2):=⟨_,get?_update_seq gS2 λ _=>#[u3,.int (kf 0) t2]⟩;show wpAny _ X.A.in1 (updateSeq (it+1) (λ _=>#[u3,.int (kf 0) t2]) >>= _) _ _ _;refine wpAny_bind (wpAny_updateSeq gS2 rfl ?_);rw[nm];have J4:=J3.uT (t':=s2.toks) (h':=s2.heap.update (it+1) (Obj.mapSeq λ _=>#[u3,.int (kf 0) t2])) (fS H2 nS2) λ b o hb e=>(s1.2 b hb).trans e;refine wpAny_pure ⟨plainId_quiet PySem.F.plain_min_loop _,xa kf W hh hl (by simp) fI fS turn fin _ 0 0 H2 _ v2 u3 t2 c2 rfl hne J4 hW2 nI2 nS2 hc2 ⟨oI,(s1.2 it (by simp)).trans goI2,coI,doI⟩ hv2 ru2 (Nat.le_refl _) λ m hm=>?_⟩;have e:m=0:=by omega
 subst e;exact⟨by omega,λ h=>absurd h (Nat.lt_irrefl _)⟩
end L2
namespace D
open L2
open PySem.W (kla_obj kla_fn)
def aci(w:W)(fr:List Nat)(τ:DS):DS:=some w::fr.map λ j=>(τ[j]?).getD none
section
variable {X:Cx}{K:FG}
theorem acZ{H:Hp}{σ:St}{τ:DS}{M:MH}{v:V}{w:W}(A:Abs K H σ τ M)(r:aE K H w v)(fr:List Nat):Abs K H (agK v fr σ) (aci w fr τ) M:=(tL A 1 fr).set 0 r
theorem ac1{M:MH}{a:Addr}{o:MO}(h:M a=some o):bf M a o=M:=by
 funext b
 by_cases e:b=a
 ·rw[e,ag,h]
 ·rw[aj e]
theorem uE{H:Hp}{M:MH}{P c:Addr}{ps:Array Value}{q:Str}{lpos:Pos}{oc:Obj}{vs:Array Value}{t:Tok}(m:cq K H M)(hP:M P=some (.code q lpos))(hT:H P=some (.tbl ps))(ht:TriplesOk ps.toList)(hn:codeAmong lpos ps.toList=none)(hc:H c=none)(hd:oc.data=.fields vs)(hv:vs[1]? =some (.str q t)) :
  Kp H (upd (upd H c (.frz oc (.own 0))) P (.tbl (nQ ps lpos c)))/\cq K (upd (upd H c (.frz oc (.own 0))) P (.tbl (nQ ps lpos c))) M:=by
 have cP:c≠P:=Ne.symm (aS hT hc);have hT':upd H c (.frz oc (.own 0)) P=some (.tbl ps):=by rw[aq (Ne.symm cP)];exact hT
 have k2:Kp (upd H c (.frz oc (.own 0))) (upd (upd H c (.frz oc (.own 0))) P (.tbl (nQ ps lpos c))):=Kp.set hT' (λ _ z=>nomatch z) (λ _ _ z=>nomatch z);refine⟨(Kp.new hc).trans k2,?_⟩;have e:(nQ ps lpos c).toList=ps.toList++[rawInt lpos.line,rawInt lpos.col,.ref c]:=by simp[nQ]
 have:=(m.new (o:=.frz oc (.own 0)) hc).put (mo:=.code q lpos) k2 ⟨_,au,by rw[e];exact TriplesOk_snoc _ _ _ _ ht,.inr ⟨c,oc,vs,t,by rw[e];exact codeAmong_snoc _ ht hn,by rw[aq cP,au],hd,hv⟩⟩;rw[ac1 hP] at this;exact this
def adv(P:Addr)(q:Str)(lpos:Pos)(to tb:TD)(fr:List Nat)(τ:DS)(M:MH)(Q:QD):Prop:=to τ M λ w M1=>∃ ds,w=.d (.list ds)/\ds≠[]/\M1 P=some (.code q lpos) /\
 ∃ kf:Nat->Int,(∀ i d,ds[i]? =some d->tb (aci (.d d) fr τ) M1 λ y M2=>y=.d (.int (kf i))/\M2=M1)/\∀ i d,ds[i]? =some d->(∀ j,j<ds.length->kf i<=kf j/\(j<i->kf i<kf j))->Q (.d d) M1
variable {P cd:Addr}{q x:Str}{lpos pos p kpos:Pos}{params:Arguments}{body o:Expr}{sc:Scope}{fr:List Nat}{to tb:TD}{k:Nat}
theorem ad5.keep{H H':Hp}{q x:Str}{params:Arguments}{body:Expr}{sc:Scope}{cl:List (Str×Addr)}{pm:Value}{f:Addr}(h:ad5 H q x params body sc cl pm f)(kp:Kp H H'):ad5 H' q x params body sc cl pm f:=by obtain⟨c,ctv,oc,vs,t,h1,h2,h3,h4⟩:=h;exact⟨c,ctv,oc,vs,t,kp.frz _ _ _ h1,kp.frz _ _ _ h2,h3,h4⟩
theorem aaC(hr:cY (k+2) X.A)(hc:X.calm=true)(hg:Gl X "min")(hm:X.mg "min" = none)(L:qg X sc x fr)(hcode:X.env.code=.ref cd)(hcd:W.codeHdIn X.K cd P=true)(hq:X.env.qual ++ "<lambda>" = q)
  (hb:∀ cl pm cdv ctv u,bindArgs (kla_fn "<lambda>" q params body sc cl pm cdv ctv) ⟨[u],[]⟩=pure [(x,u)])(ho:PD X o to)
  (he:∀ cl f c s H pl,cY k (yB (vg X) q sc (xu X x fr) cl f c s H pl).A->PD (yB (vg X) q sc (xu X x fr) cl f c s H pl) body tb)(hso:eh o=false:=by rfl)(hdef:defaultsOf params X.env=([],[]):=by rfl) :
  PD X (.Call (.Name "min" p) [o] [⟨some "key",.Lambda params body sc lpos,kpos⟩] pos) (adv P q lpos to tb fr):=by
 intro pins s σ H Q I h;subst hq;have hst:starEach [o] X.env=(false,eval o X.env)::starEach [] X.env:=bN o [] X.env hso;have pa:PA X [o] (rY (up X.K to) aai):=gP ho mx hst;have pk:PK X [⟨some "key",.Lambda params body sc lpos,kpos⟩] (rY (ain X P (X.env.qual ++ "<lambda>") params body sc lpos) aai):=wa (aen L hcode hcd hdef) abi;obtain⟨τ,M,Qd,A,h,kk⟩:=h;refine wpAny_Call_Name_kw (jg I hg hm tm (callWith_kw (he:=by rw[hst];rfl) (hplain:=cI pos X.env [o] (by simp[hso])) ?_));refine thn (pa pos pins s σ H (λ vs H1=>∃ v w M1,vs=[v]/\Kp H H1/\aE X.K H1 w v/\cq X.K H1 M1/\∃ ds,w=.d (.list ds)/\ds≠[]/\M1 P=some (.code (X.env.qual ++ "<lambda>") lpos) /\
  ∃ kf:Nat->Int,(∀ i d,ds[i]? =some d->tb (aci (.d d) fr τ) M1 λ y M2=>y=.d (.int (kf i))/\M2=M1)/\∀ i d,ds[i]? =some d->(∀ j,j<ds.length->kf i<=kf j/\(j<i->kf i<kf j))->Qd (.d d) M1) I
  ⟨τ,M,_,A,h,λ x H1 w M1 kp r m z=>⟨x,w,M1,rfl,kp,r,m,z⟩⟩) λ us s1 ⟨vs,H1,I1,r1,hx⟩=>?_
 obtain⟨v,w,M1,ev,kp1,rw1,m1,ds,ew,hne,hP,kf,hkey,hfin⟩:=hx;subst ev ew;simp only[aE,aA] at rw1;obtain⟨a,xs,ea,hs,ra⟩:=rw1;subst ea;obtain⟨u,rfl,ru⟩:=vals1 r1;cases (show u=Value.ref a from ru);obtain⟨ps,hT,ht,hcA⟩:=m1 P _ hP;refine thn (pk pos pins s1 σ H1 (λ ks H2=>∃ f cl,ks=[.ref f]/\Kp H1 H2/\cq X.K H2 M1/\ag8 X sc cl/\ad5 H2 (X.env.qual ++ "<lambda>") x params body sc cl ((X.mg "__name__").getD .none) f) I1 ?_) λ kus s2 ⟨ks,H2,I2,r2,f,cl,ek,kp2,m2,hcl,hlam⟩=>?_
 ·refine⟨ps,hT,ht,?_⟩;rcases hcA with hn | ⟨c,oc,vs,t,e1,e2,e3,e4⟩
  ·refine .inl ⟨hn,λ c f oc vs t ctv cl hcl hc0 hf0 hcf hd hv=>?_⟩;obtain⟨k3,m3⟩:=uE m1 hP hT ht hn hc0 hd hv;have fP:f≠P:=Ne.symm (aS hT hf0);have cP:c≠P:=Ne.symm (aS hT hc0);have hf1:upd (upd H1 c (.frz oc (.own 0))) P (.tbl (nQ ps lpos c)) f=none:=by rw[aq fP,aq (Ne.symm hcf)];exact hf0
   exact⟨f,cl,rfl,k3.trans (Kp.new hf1),m3.new hf1,hcl,c,ctv,oc,vs,t,au,by rw[aq hcf,aq cP,au],hd,hv⟩
  ·exact .inr ⟨c,oc,vs,t,e1,e2,e3,e4,λ f ctv cl hcl hf0=>⟨f,cl,rfl,Kp.new hf0,m1.new hf0,hcl,c,ctv,oc,vs,t,au,by rw[aq (aS e2 hf0)];exact e2,e3,e4⟩⟩
 subst ek;obtain⟨ku,rfl,rk⟩:=vals1 r2;cases (show ku=Value.ref f from rk);show wpAny _ _ (call (.builtin "min") [.ref a] [(Str.ofString "key",.ref f)]) _ _ s2;have hlen:=ra.length;have L':qg (vg X) sc x fr:=⟨L.kind,L.co,L.gen,L.cell,L.free,L.own,L.fr⟩;have A2:∀ {H'},Kp H2 H'->cq X.K H' M1->Abs X.K H' σ τ M1:=λ kp m=>A.go (kp1.trans (kp2.trans kp)) m;refine ac9 (xs:=xs) (λ i=>kf i) (λ i H'=>Kp H2 H'/\cq X.K H' M1) hr.hd I2 ⟨Kp.refl _,m2⟩ (by rw[hlen];exact List.length_pos_iff.mpr hne) (λ i H' hW=>(SqF.keep (kp2.trans hW.1) hs).sq) (λ i v u pl H' s' hv ru hW J=>?_) λ i v u H' s' hv ru hbest hW J=>?_
 ·obtain⟨d,hd,rd⟩:=(ra.keep (kp2.trans hW.1)).get' hv;refine abZ (X:=vg X) (k:=k) (hr.in1) hc L' hcl.1 hcl.2 (hb cl _) (te:=up X.K tb) (λ c s H pl hr'=>he cl f c s H pl hr') J (D.ad5.keep hlam hW.1) ru ?_;refine⟨_,M1,_,acZ (A2 hW.1 hW.2) (w:=.d d) rd fr,hkey i d hd,λ y H3 w3 M3 kp3 r3 m3 z=>?_⟩;obtain⟨e1,e2⟩:=z;subst e1 e2;simp only[aE,aA] at r3;exact⟨r3,hW.1.trans kp3,m3⟩
 ·obtain⟨d,hd,rd⟩:=(ra.keep (kp2.trans hW.1)).get' hv;exact⟨v,H',J,ru,kk v H' (.d d) M1 (kp1.trans (kp2.trans hW.1)) rd hW.2 (hfin i d hd λ j hj=>hbest j (by omega))⟩
end
theorem aae{X:Cx}{P cd:Addr}{q x:Str}{lpos pos p kpos:Pos}{params:Arguments}{body o:Expr}{sc:Scope}{fr:List Nat}{to tb:TD}{k:Nat}(hr:cY (k+2) X.A)(hc:X.calm=true)(hg:Gl X "min")(hm:X.mg "min" = none)(L:qg X sc x fr)(hcode:X.env.code=.ref cd)(hcd:W.codeHdIn X.K cd P=true)(hq:X.env.qual ++ "<lambda>" = q)
  (hb:∀ cl pm cdv ctv u,bindArgs (kla_fn "<lambda>" q params body sc cl pm cdv ctv) ⟨[u],[]⟩=pure [(x,u)])(ho:Jd (PD X o to))
  (he:∀ cl f c s H pl,cY k (yB (vg X) q sc (xu X x fr) cl f c s H pl).A->Jd (PD (yB (vg X) q sc (xu X x fr) cl f c s H pl) body tb))(hso:eh o=false:=by rfl)(hdef:defaultsOf params X.env=([],[]):=by rfl) :
  Jd (PD X (.Call (.Name "min" p) [o] [⟨some "key",.Lambda params body sc lpos,kpos⟩] pos) (adv P q lpos to tb fr)):=⟨D.aaC hr hc hg hm L hcode hcd hq hb ho.h (λ cl f c s H pl h=>(he cl f c s H pl h).h) hso hdef⟩
end D
namespace L2
def aao(ts:List Addr)(H:Hp):Prop:=∀ b,H b=none\/(∃ o xs,H b=some (.frz o (.lst xs)))\/(b∈ts/\H b=some (.tbl #[]))
theorem wO{P:Program}{w:World}{K:FG}{mg mb:Str->Option Value}{CX:CXT}{k:Nat}{fa a:Addr}{fd:FuncData}{x:Str}{sp:Sp}{s₁:Shared}{vs:List Value}{ns:List Int}
  (KX:K.In s₁.heap)(hns:s₁.heap.Ns mainGlobals mg)(hb:s₁.heap.Ns builtinsNs mb)(hbb:∀ x:Str,x ≠ "__name__" -> mb x=bootBuiltins x)(hlim:s₁.heap.NoLimit)(hbm:BM mg s₁.heap)(hg:s₁.gens = #[])
  (ha:s₁.heap.get? a=some {cls:=.type "list",data:=.seq vs.toArray})(hi:IntsAre vs ns)(hl:ns.length<=sizeLine)(hr:cY k callerA)(ts:List Addr)(hts:∀ T∈ts,(∃ c,W.codeHdIn K c T=true)/\K.lookup T=none/\s₁.heap.get? T=some {cls:=.none,data:=.fields #[]})
  (F:∀ base:Heap,K.In base->base.Ns mainGlobals mg->bW P w K mg base CX k fa fd [x] sp)(hbind:∀ (s:Shared) (u:Value),BindsTo s fd ⟨[u],[]⟩ [(x,u)])
  (hsp:∀ H:Hp,aao ts H->(∀ T∈ts,H T=some (.tbl #[]))->SqL K H a (ns.map V.int)->sp [.ref a] H (λ v _=>v=.bl true) λ _ _ _=>False)
  (hCX:∀ H e s',CX [] H s₁ (λ _ _ _=>False) e s'->False) :
  codeAny (model P w) callerA (.call (.ref fa) ⟨[.ref a],[]⟩) (λ r s'=>r=.ok (.ret (.bool true))/\OldK s₁.heap s'.heap/\s'.os=s₁.os/\AllBare s'.gens) s₁:=by
 have rv:=fY hi;have lenV:=hi.length;have at':∀ T∈ts,T≠a:=λ T hT e=>by have h:=(hts T hT).2.2;rw[e,ha] at h;cases h
 have core:∀ H:Hp,aao ts H->(∀ T∈ts,H T=some (.tbl #[]))->SqL K H a (ns.map V.int)->HOk P w H s₁.heap->(∀ b,H b≠none->b=a\/b∈ts)->(H a≠none->K.lookup a=none) ->
   codeAny (model P w) callerA (.call (.ref fa) ⟨[.ref a],[]⟩) (λ r s'=>r=.ok (.ret (.bool true))/\OldK s₁.heap s'.heap/\s'.os=s₁.os/\AllBare s'.gens) s₁:=by
  intro H hO hTb hS hok hA hK;have iZ:∀ {b:Addr} {o:Obj},s₁.heap.get? b=some o->H b=none->(aaz s₁.heap H).get? b=some o:=λ e n=>zK e n;have noA:∀ {b:Addr} {o:Obj} {es:Array DictEntry} {ep:Nat},s₁.heap.get? b=some o->o.data=.dict es ep->H b=none:=λ {b o es ep} e d=>by
   cases q:H b with
   | none=>rfl
   | some u =>
    rcases hA b (by rw[q];simp) with e' | e'
    ·subst e';rw[ha] at e;cases e;have d':Data.seq vs.toArray _=Data.dict es ep:=d;cases d'
    ·rw[(hts b e').2.2] at e;cases e;have d':Data.fields _=Data.dict es ep:=d;cases d'
  have nsK:∀ {b:Addr} {m:Str->Option Value},s₁.heap.Ns b m->(aaz s₁.heap H).Ns b m:=λ {b m} ⟨o,es,ep,e,d,r⟩=>⟨o,es,ep,iZ e (noA e d),d,r⟩;have hKb:K.In (aaz s₁.heap H):=λ b o e=>iZ (KX b o e) (by
   cases q:H b with
   | none=>rfl
   | some u =>
    rcases hA b (by rw[q];simp) with e' | e'
    ·subst e';rw[hK (by rw[q];simp)] at e;cases e
    ·rw[(hts b e').2.1] at e;cases e)
  have hM:Mod K mg (aaz s₁.heap H):=⟨hKb,nsK hns,⟨mb,nsK hb,hbb⟩,let ⟨mc,h1,h2⟩:=hlim; ⟨mc,nsK h1,h2⟩,let ⟨⟨b,o,h1,h2,h3,h4,h5,h6⟩,mm,hmm⟩:=hbm; ⟨⟨b,o,h1,h2,iZ h3 (by cases q:H b with | none=>rfl | some u=>(rcases hA b (by rw[q];simp) with e' | e'; (subst e';rw[ha] at h3;cases h3;cases h6); (rw[(hts b e').2.2] at h3;cases h3;cases h6))),h4,h5,h6⟩,mm,nsK hmm⟩⟩;have e0:abu P w K mg (aaz s₁.heap H) callerA [] s₁ H:=⟨rfl,hM,λ b o e=>acn e,Nat.le_of_eq (vi _ _),trivial,λ b hb=>absurd (show b∈([]:List Addr) from hb) (by simp),hok,.of_eq hg⟩;refine codeAny_mono ((F _ hKb (nsK hns)).run callerA [] s₁ H ⟨[.ref a],[]⟩ [.ref a] [.ref a] _ _ hr e0 (hbind s₁ (.ref a)) (.cons rfl .nil) (hsp H hO hTb hS)) λ r s' h=>?_;cases r with
  | error e=>exact(hCX H e s' h).elim
  | ok fl =>
   cases fl with
   | next=>exact False.elim h
   | brk=>exact False.elim h
   | cont=>exact False.elim h
   | ret u =>
    obtain⟨v,H',os,bare,un,hok',r',q⟩:=h;have q':v=.bl true:=q;subst q';obtain rfl:u=Value.bool true:=r';have old:∀ b o,s₁.heap.get? b=some o->s'.heap.get? b=some o\/∃ more,b∈ts/\s'.heap.get? b=some {cls:=.none,data:=.fields (#[]++more)}:=λ b o e=>?_;refine⟨rfl,⟨λ b o e=>?_,λ b o e=>(old b o e).elim (λ z=>⟨_,z⟩) λ⟨_,_,z⟩=>⟨_,z⟩⟩,os,bare⟩
    ·rcases old b o e with z | ⟨more,hb,z⟩
     ·exact .inl z
     ·obtain⟨⟨c,hc⟩,_,h3⟩:=hts b hb;rw[h3] at e;cases e;exact .inr (.inl ⟨((W.codeHd_of_K KX hc).tab h3).isCodeTable,rfl,#[],more,rfl,z⟩)
    cases q:H b with
    | none=>exact .inl <| un.keep b o e q (by intro z;exact absurd (show b∈([]:List Addr) from z) (by simp)) (by simp)
    | some u =>
     rcases hO b with z | ⟨ob,xs,z⟩ | ⟨hb,z⟩
     ·rw[q] at z;cases z
     ·refine .inl ?_;have z2:=un.frzs b ob _ z;obtain⟨e1,_⟩:=hok b _ z;obtain⟨e2,_⟩:=hok' b _ z2;rw[e] at e1;cases e1;exact e2
     ·obtain⟨more,z2⟩:=un.tbls b _ z;exact .inr ⟨more,hb,hok' b _ z2⟩
 cases hk:K.lookup a with
 | some o =>
  have e:=KX a o hk;rw[ha] at e;cases e;refine core (λ b=>if b∈ts then some (.tbl #[]) else none) (λ b=>?_) (λ T hT=>if_pos hT) (.inr ⟨_,vs.toArray,_,hk,rfl,rfl,rfl,by rw[List.size_toArray,lenV];exact hl,by simpa using rv⟩) (λ b u z=>?_) (λ b z=>?_) λ z=>absurd (if_neg λ h=>at' a h rfl) z
  ·by_cases hb:b∈ts
   ·exact .inr (.inr ⟨hb,if_pos hb⟩)
   ·exact .inl (if_neg hb)
  ·by_cases hb:b∈ts
   ·have z':=(if_pos hb).symm.trans z;cases z';exact(hts b hb).2.2
   ·have z':=(if_neg hb).symm.trans z;cases z'
  ·by_cases hb:b∈ts
   ·exact .inr hb
   ·exact absurd (if_neg hb) z
 | none =>
  refine core (λ b=>if b=a then some (.frz {cls:=.type "list",data:=.seq vs.toArray} (.lst (ns.map V.int))) else if b∈ts then some (.tbl #[]) else none) (λ b=>?_) (λ T hT=>(if_neg (at' T hT)).trans (if_pos hT)) (.inl (.inr ⟨{cls:=.type "list",data:=.seq vs.toArray},if_pos rfl⟩)) (λ b u z=>?_) (λ b z=>?_) λ _=>hk
  ·by_cases hb:b=a
   ·exact .inr (.inl ⟨_,_,if_pos hb⟩)
   ·by_cases hb2:b∈ts
    ·exact .inr (.inr ⟨hb2,(if_neg hb).trans (if_pos hb2)⟩)
    ·exact .inl ((if_neg hb).trans (if_neg hb2))
  ·by_cases hb:b=a
   ·have z':=(if_pos hb).symm.trans z;cases z';subst hb;exact⟨ha,by rw[List.length_map];exact hl,vs,_,rv,ha⟩
   ·have z0:=(if_neg hb).symm.trans z
    by_cases hb2:b∈ts
    ·have z':=(if_pos hb2).symm.trans z0;cases z';exact(hts b hb2).2.2
    ·have z':=(if_neg hb2).symm.trans z0;cases z'
  ·by_cases hb:b=a
   ·exact .inl hb
   ·by_cases hb2:b∈ts
    ·exact .inr hb2
    ·exact absurd ((if_neg hb).trans (if_neg hb2)) z
theorem zY{l:W.OpenLaw}{n k:Nat}{q:Program}{loose:List Str}{XP:(Str->Option Value)->Heap->Prop}{YP:World->Heap->Prop}{d:DefRec}{K:Params->FG}{CX:World->CXT}{sp:World->Sp}{x:Str}
  (hq:importsNone q=true)(hn:l.most=some n)(hn2:n<=sizeLine)(hdf:d.params.defaults=[])(hr:cY k callerA)
  (ts:List Addr)(hT:∀ w:World,∀ T∈ts,(∃ c,W.codeHdIn (K w.params) c T=true)/\(K w.params).lookup T=none)(hY:∀ (w:World) (h:Heap),YP w h->(K w.params).In h/\∀ T∈ts,h.get? T=some {cls:=.none,data:=.fields #[]})
  (F:∀ (w:World) (mg:Str->Option Value) (fa:Addr) (h:Heap),(K w.params).In h->h.Ns mainGlobals mg->mg d.name=some (.ref fa) ->
   ∃ fd:FuncData,(∀ (s:Shared) (u:Value),BindsTo s fd ⟨[u],[]⟩ [(x,u)]) /\
    ∀ base:Heap,(K w.params).In base->base.Ns mainGlobals mg->bW l.prog w (K w.params) mg base (CX w) k fa fd [x] (sp w))
  (hsp:∀ (w:World) (H:Hp) (a:Addr) (ns:List Int),ns.length<=n->aao ts H->(∀ T∈ts,H T=some (.tbl #[]))->SqL (K w.params) H a (ns.map V.int)->sp w [.ref a] H (λ v _=>v=.bl true) λ _ _ _=>False)
  (hCX:∀ (w:World) (H:Hp) (s:Shared) (e:Value) (s':Shared),CX w [] H s (λ _ _ _=>False) e s'->False) :
  W.WalkO q loose XP YP l.row.toRowW d [] (λ f vs=>PySem.call f vs):=by
 refine Att.qB hn hdf λ w s₀ s₁ mg mb fa o pm cd doc a vs ns G Y ho hd hcd hmg hobj hints hlen hg=>?_;obtain⟨KX,hTb⟩:=hY w _ Y;obtain⟨fd,hb,hF⟩:=F w mg fa _ KX G.T.g hmg;exact wO KX G.T.g G.T.b G.T.builtins G.T.nolimit (let ⟨bm,ob,b1,b2,b3,b4,b5,b6⟩:=G.T.bmain;let ⟨mm,hmm,_⟩:=(G.T.seer hq).mods; ⟨⟨bm,ob,b1,b2,b3,b4,b5,b6⟩,mm,hmm⟩) hg hobj hints (Nat.le_trans hlen hn2) hr ts (λ T h=>⟨(hT w T h).1,(hT w T h).2,hTb T h⟩) hF hb (λ H hO hB hS=>hsp w H a ns hlen hO hB hS) λ H e s'=>hCX w H s₁ e s'
end L2
namespace D
open L2
section
variable {P:Program}{w:World}{K:FG}{mg:Str->Option Value}{base:Heap}
theorem adi{x qual:Str}{st:Stmt}{f cd:Addr}{N ps:List Str}{k:Nat}{sp:SpD}{t:TSd}(F:Fun K x qual st f fd)(hcd:fd.code=.ref cd)(S:aP N ps (ai st))(len:∀ ws M Q,sp ws M Q->ws.length=ps.length)
  (hbody:∀ (A:Around) (outer:List Env) (s:Shared) (H:Hp) (E:XK),cY k (A.deeper (envOfC qual (ai st) s.heap.objs.size f (.ref cd)))->lp (qT CX0 P w K mg base N qual (ai st) f (.ref cd) A outer s H E).nox (aG st) t)
  (read:∀ ws M Q,sp ws M Q->t {nx:=λ _ M'=>Q (.d .none) M',rt:=Q} (bc N ws) M):bW P w K mg base CX0 (k+1) f fd ps (ef K sp):=by
 obtain⟨oc,od,kV,doc,pm,an,cdv,ct,osl,e,lk,hcdv⟩:=F.ex;subst e;have e2:cdv=.ref cd:=hcd;subst e2;refine zZ lk hcdv S (λ vs H Q E h=>?_) (λ A outer s H vs Q E hr h=>?_)
 ·obtain⟨ws,M,Qd,r,_,q,_⟩:=h;rw[<- r.length];exact len _ _ _ q
 ·obtain⟨ws,M,Qd,r,m,q,kk⟩:=h;refine⟨_,(hbody A outer s H E hr).nox,bc N ws,M,_,iA r m,read ws M Qd q,λ σ' H' τ' M' kp A' q'=>?_,λ v H' w' M' kp r' m' q'=>?_,λ σ' H' τ' M' kp A' q'=>q'.elim,λ σ' H' τ' M' kp A' q'=>q'.elim⟩
  ·exact kk _ H' _ M' kp (by simp[aE,aA]) A'.mem q'
  ·exact kk v H' w' M' kp r' m' q'
end
def M1T(T:Addr)(q:Str)(lpos:Pos):MH:=λ b=>if b=T then some (.code q lpos) else none
theorem u7{K:FG}{H:Hp}{a T:Addr}{q:Str}{lpos:Pos}{ns:List Int}{sp:SpD}(hl:ns.length<=63)(hO:L2.aao [T] H)(hT:∀ x∈[T],H x=some (.tbl #[]))(hS:L2.SqL K H a (ns.map V.int))(h:∀ ns:List Int,ns.length<=63->sp [.d (.list (ns.map PyData.int))] (M1T T q lpos) (λ w _=>w=.d (.bool true))) :
  ef K sp [.ref a] H (λ v _=>v=.bl true) λ _ _ _=>False:=by
 refine⟨[.d (.list (ns.map PyData.int))],M1T T q lpos,_,.cons ?_ .nil,λ a o z=>?_,h ns hl,λ v H' w M' kp r m q=>?_⟩
 ·simp only[aE,aA];refine⟨a,_,rfl,?_,a9.ints ns⟩;rcases hS with (h | h) | h
  ·rcases hO a with z | ⟨ob,xs,z⟩ | ⟨_,z⟩
   ·rw[h] at z;cases z
   ·rw[h] at z;cases z
   ·rw[h] at z;cases z
  ·exact .inl h
  ·exact .inr h
 ·unfold M1T at z
  split at z
  ·cases z
   rename_i e
   subst e;exact⟨#[],hT _ (by simp),trivial,.inl rfl⟩
  ·cases z
 ·subst q;simp only[aE,aA] at r;exact r
def abo(sc scX:Scope)(x:Str)(N:List Str)(fr:List Nat):Bool:=
 (sc.kind==.function)&&!sc.isCoroutine&&!sc.isGenerator&&sc.names.all (λ y=>!(y.2==.cell))&&sc.names.all (λ y=>!(y.2==.free) || scX.names.lookup y.1==some .cell || scX.names.lookup y.1==some .free) &&
  (sc.names.lookup x==some .local)&&agM N sc fr
theorem ahH(h:abo sc X.env.scope x X.N fr=true):qg X sc x fr:=by
 simp only[abo,Bool.and_eq_true,Bool.not_eq_true'] at h;obtain⟨⟨⟨⟨⟨⟨h1,h2⟩,h3⟩,h4⟩,h5⟩,h6⟩,h7⟩:=h;refine⟨eq_of_beq h1,h2,h3,λ y hy e=>?_,λ y hy e=>?_,eq_of_beq h6,h7⟩
 ·have:=List.all_eq_true.mp h4 y hy;simp[e] at this
 ·have:=List.all_eq_true.mp h5 y hy;simp only[e,beq_self_eq_true,Bool.not_true,Bool.false_or,Bool.or_eq_true] at this;rcases this with z | z
  ·exact .inl (eq_of_beq z)
  ·exact .inr (eq_of_beq z)
theorem get_dict(hu:X.A.units+1<cLine):ahz X (λ o i H Q=>∃ a kvs k v,o=.ref a/\i=kV k/\H a=some (.dK kvs)/\qw kvs k=some v/\Q v H):=by intro pins s σ H o i ov iv Q I ro ri h;obtain⟨a,kvs,k,v,eo,ei,e,l,q⟩:=h;subst eo ei;cases (show ov=Value.ref a from ro);exact(lS hu I (.inl (.inl e)) l ri λ w' s' I' r'=>⟨v,H,I',r',q⟩).2
def wm(to ti te:TD)(f:Int->Int->Int)(D:Ed)(τ:DS)(M:MH):Prop:=to τ M λ w M1=>ti τ M1 λ w' M2=>∃ a kvs k n,w=.m a/\w'=kW k/\M2 a=some (.dic kvs)/\gR kvs k=some (.d (.int n))/\kvs.length<sizeLine /\
 te τ M2 λ y M3=>∃ n',y=.d (.int n')/\M3=M2/\D.nx τ (bf M3 a (.dic (vd kvs k (.d (.int (f n n'))))))
theorem iB(hu:X.A.units+1<cLine)(ho:Jd (PD X o to))(hi:Jd (PD X i ti))(he:Jd (PD X e te))(hp:PIp X op (ipI f))
  (ha:∀ ov iv new,augStore i ov iv new=(do holding [new,ov,iv] (setItem ov iv new);release [new,ov,iv] [];pure .next):=by intros;rfl):Jd (PSd X (.AugAssign (.Subscript o i tpos) op e pos) (wm to ti te f)):=⟨have ho:=ho.h;have hi:=hi.h;have he:=he.h;
 qH (ya ho hi (get_dict hu) he hp (set_dict hu) ha) λ D σ H h=>by
  obtain⟨τ,M,Dd,A,h,k1,_⟩:=h;refine⟨τ,M,_,A,h,λ x H1 wo M1 kp1 r1 m1 q1=>⟨τ,M1,_,A.go kp1 m1,q1,λ y H2 wi M2 kp2 r2 m2 q2=>?_⟩⟩;obtain⟨a,kvs,key,n,e1,e2,hm,hn,hl,q⟩:=q2;subst e1;subst e2;simp only[aE] at r1;obtain⟨l,e3,pr⟩:=m2 a _ hm;have g:=kR key pr;rw[hn] at g;obtain⟨b,eb,rb⟩:=OR.some_of g;simp only[aE,aA] at rb;refine⟨a,l,key,b,r1,kd r2,e3,eb,?_⟩;refine⟨τ,M2,_,A.go (kp1.trans kp2) m2,q,λ z H3 wz M3 kp3 r3 m3 q3=>?_⟩;obtain⟨n',e5,e6,qn⟩:=q3;subst e5;subst e6;simp only[aE,aA] at r3;refine⟨n,n',rb,r3,?_⟩;obtain⟨l',e3',pr'⟩:=m3 a _ hm;have kp:=(kp1.trans kp2).trans kp3;have kp4:Kp H3 (upd H3 a (.dK (putK l' key (.int (f n n'))))):=Kp.set e3' (λ _ z=>nomatch z) (λ _ _ z=>nomatch z);refine⟨a,_,r1,.inl ⟨l',key,e3',kd r2,by rw[<- sN pr'];exact hl,rfl⟩,?_⟩;have rv':aE X.K H3 (.d (.int (f n n'))) (.int (f n n')):=by simp[aE,aA]
  refine k1 σ _ τ _ (kp.trans kp4) (A.go (kp.trans kp4) (m3.put (mo:=.dic (vd kvs key (.d (.int (f n n'))))) kp4 ⟨_,au,?_⟩)) qn;exact Paired.gF (aaQ key rv' pr') λ p q z=>⟨z.1,z.2.keep kp4⟩⟩
theorem afv:bootBuiltins "any" = some (.builtin "any"):=by decide +kernel
section
variable {X:Cx}{K:FG}
theorem nN:∀ {us:List Value} {ns:List Int},IntsAre us ns->∀ (i:Nat) (v:Value),us[i]? =some v->∃ n t,ns[i]? =some n/\v=.int n t
 | _,_,.nil,i,v,e=>by simp at e
 | _,_,.cons n t h,0,v,e=>by simp at e;exact⟨n,t,rfl,e.symm⟩
 | _,_,.cons n t h,i+1,v,e=>by obtain⟨m,t',e1,e2⟩:=nN h i v (by simpa using e);exact⟨m,t',by simpa using e1,e2⟩
theorem adb:∀ {ns:List Int} {kvs:List (Key×V)} {vs:List (Key×Value)},KV kvs vs->kvs.map (·.2)=ns.map V.int->IntsAre (vs.map (·.2)) ns:=λ {ns kvs vs} r h=>by
 refine fY r h (by simp) λ i v hi=>?_;rw[List.getElem?_map] at hi;cases e:vs[i]? with
 | none=>rw[e] at hi;cases hi
 | some p=>rw[e] at hi;cases hi;exact⟨p.1,rfl⟩
theorem xC(hc:X.calm=true):eP X (.builtin "any") (λ xs H Q=>∃ v a kvs,∃ ns:List Int,xs=[.ref v]/\H v=some (.ext λ h=>h.IsValuesView v a)/\Rd H a (.dK kvs)/\kvs.map (·.2)=ns.map V.int/\Q (.bl (ns.any λ n=>n != 0)) H):=by
 intro pins s σ H xs us Q I r h;obtain⟨v,a,kvs,ns,rfl,hv,hr,hk,q⟩:=h;obtain⟨u,rfl,rx⟩:=vals1 r;cases (show u=Value.ref v from rx);obtain⟨hsz,hsys,vs,rel,oo,es,ep,hd⟩:=hr.ok I.hok;obtain⟨hview,_⟩:=(show cF X.prog X.w H s.heap v (.ext λ h=>h.IsValuesView v a) from I.hok v _ hv);have hI:=adb rel hk;have hln:vs.length=ns.length:=by simpa using hI.length
 obtain⟨oI,St,hit,W,st⟩:=(W.kdl_values (knd:=ba X.prog X.w) (r:=v) (d:=a) (kvs:=vs) (ep:=ep)).iter X.A.in1 s (I.ok.hd hc) ⟨hview,⟨oo,es,hd⟩⟩;refine call_any_walk (hit _ _ ⟨s.heap.objs.size,_,_,vs.length,_,_,λ i=>((ns.map λ n=>n != 0)[i]?).getD false,rfl,W,st,λ i x s' Q' E' hP hQ=>?_,λ h' tk hk'=>?_⟩)
 ·obtain⟨k,hx⟩:=hP;obtain⟨n,t,e1,rfl⟩:=nN hI i x (by rw[List.getElem?_map,hx];rfl);simp only[List.getElem?_map,e1,Option.map_some,Option.getD_some] at hQ;exact truthy_int hQ
 ·have e:((List.range vs.length).any λ i=>((ns.map λ n=>n != 0)[i]?).getD false)=ns.any λ n=>n != 0:=by have:=LSm.range_any (ns.map λ n=>n != 0);rw[List.length_map,<- hln] at this;rw[this,List.any_map];rfl
  rw[e];exact⟨.bl _,H,I.kept (LSm.kept_iter hk'),rfl,q⟩
variable {o e:Expr}{to:TE}{td te:TD}{apos cpos p pos:Pos}
def aid(xs:List V)(H:Hp)(Q:VK):Prop:=∃ v a kvs,∃ ns:List Int,xs=[.ref v]/\H v=some (.ext λ h=>h.IsValuesView v a)/\Rd H a (.dK kvs)/\kvs.map (·.2)=ns.map V.int/\Q (.bl (ns.any λ n=>n != 0)) H
theorem acf(hc:X.calm=true)(hg:Gl X "any")(hm:X.mg "any" = none)(ho:PE X o to)(hbase:attributeBase o "values" X.env (eval o X.env)=eval o X.env:=by rfl)(hline:(apos.endLine==cpos.line)=true:=by rfl) :
  PE X (.Call (.Name "any" p) [.Call (.Attribute o "values" apos) [] [] cpos] [] pos) (tCB aid (rY (aeR to) aai)):=
 oe (xC hc) hg hm afv (gP (abV ho hbase hline) mx) (by decide) (by decide) (bN _ [] X.env rfl) (cI pos X.env [] rfl)
def aer(td:TD)(τ:DS)(M:MH)(Q:QD):Prop:=td τ M λ w M1=>∃ a kvs,∃ ns:List Int,w=.m a/\M1 a=some (.dic kvs)/\kvs.map (·.2)=qP ns/\Q (.d (.bool (ns.any λ n=>n != 0))) M1
theorem uV(hc:X.calm=true):eP X (.type "list") (λ xs H Q=>∃ a kvs,∃ zs:List Str,xs=[.ref a]/\Rd H a (.dK kvs)/\kvs.map (·.1)=zs.map Sum.inr/\∀ l,H l=none->Q (.ref l) (upd H l (.lst (zs.map V.str)))):=by
 intro pins s σ H xs us Q I r h;obtain⟨a,kvs,zs,rfl,hq,hk,q⟩:=h;obtain⟨u,rfl,rx⟩:=vals1 r;cases rx;obtain⟨hsz,hsys,vs,rel,o,es,ep,hd⟩:=hq.ok I.hok;have hvs:vs.map (·.1)=zs.map Sum.inr:=by
  rw[<- hk];clear hk hd hq hsz
  induction rel with
  | nil=>rfl
  | cons r t ih=>simp only[List.map_cons,ih,r.1]
 have hln:vs.length=zs.length:=by simpa using congrArg List.length hvs
 have hkl:kvs.length=zs.length:=by simpa using congrArg List.length hk
 refine W.kdl_call (W.kdl_dict (knd:=ba X.prog X.w) (kvs:=vs) (ep:=ep) hsys) (I.ok.hd hc) ⟨o,es,hd⟩ (by omega) λ h' tk acc c old hnew hacc=>?_;have hla:acc.toList.length=vs.length:=by rw[Array.length_toList];exact hacc.1
 have hS:StrsAre acc.toList zs:=pJ hvs hla λ j v hj=>hacc.2 j v (by rw[<- Array.getElem?_toList];exact hj);exact⟨.ref _,_,I.laid (t':=tk) old (Nat.le_refl _) (show cF X.prog X.w _ h' _ (.lst (zs.map V.str)) from⟨by rw[List.length_map];omega,acc.toList,c,pS hS,by rw[Array.toArray_toList];exact hnew⟩),rfl,q _ (I.hok.fresh (Nat.le_refl _))⟩
def wX(ws:List W)(M:MH)(Q:QD):Prop:=∃ a kvs,∃ zs:List Str,ws=[.m a]/\M a=some (.dic kvs)/\kvs.map (·.1)=zs.map Sum.inr/\∀ p,M p=none->Q (.m p) (bf M p (.lst (dG zs)))
theorem ze:fT K (λ xs H Q=>∃ a kvs,∃ zs:List Str,xs=[.ref a]/\Rd H a (.dK kvs)/\kvs.map (·.1)=zs.map Sum.inr/\∀ l,H l=none->Q (.ref l) (upd H l (.lst (zs.map V.str)))) wX:=by
 intro vs H ws M Qd Q r m ⟨a,kvs,zs,e,g,hk,q⟩ k;subst e;obtain⟨v,e1,r1⟩:=e9 r;have ev:v=.ref a:=r1;subst ev;obtain⟨l,el,pr⟩:=m _ _ g;refine⟨a,l,zs,e1,.inl el,?_,λ p hp=>?_⟩
 ·rw[<- hk];clear hk el g
  induction pr with
  | nil=>rfl
  | cons r t ih=>simp only[List.map_cons,ih,r.1]
 ·have kp:Kp H (upd H p (.lst (zs.map V.str))):=Kp.new hp;exact k _ _ (.m p) _ kp rfl (m.put (mo:=.lst (dG zs)) kp ⟨_,au,ph zs⟩) (q p (m.free hp))
def ac3(K:FG):V->List V->Hp->VK->Prop:=λ x vs H Q=>∃ y d ds j,vs=[y]/\oO K H (.list ds) x/\oO K H d y/\vc d ds=true/\ab0 ds d j/\(j:Int)<2 ^ 63-1/\Q (.int (j:Nat)) H
theorem vK(hr:cY k X.A):MtM X "list.index" (ac3 X.K):=by
 intro pins s σ H x vs v us Q I rx rv h;obtain⟨y,d,ds,j,rfl,h1,h2,o,⟨j0,j1,j2⟩,hsm,q⟩:=h;obtain⟨u,rfl,ru⟩:=rv.one;simp only[vc,lA,Bool.and_eq_true,Bool.not_eq_true'] at o;obtain⟨⟨o1,o2⟩,o3,o4⟩:=o;obtain⟨as,r2⟩:=dy I d h2 ru o2;obtain⟨bs,r1⟩:=dy I (.list ds) h1 rx o4;have c3:PyData.canLayAll0 ds=true:=SeqAt.canLay_of_shaped o3;cases r1 with
 | @list a ob its n _ as1 e1 e2 e3 e4 =>
  obtain⟨cls,dd,data,sl⟩:=ob;simp only at e2 e3;subst e2 e3;have em:=SeqAt.readsAll_map ds _ _ c3 e4;have hlen:ds.length=its.size:=by have:=congrArg List.length em;simpa using this.symm
  have hat:∀ m (hm:m<its.size),ds[m]? =some (SeqAt.readOf s.heap its[m]):=λ m hm=>by rw[<- em,List.getElem?_map];simp[hm]
  refine call_meets F.slot_list_index ⟨_,e1,rfl⟩ F.entry_list_index (F.args_list_index_2 _ _) (SeqAt.list_indexAt a its n dd sl u (λ z=>PyData.eqv (SeqAt.readOf s.heap z) d) j (by omega) hsm (j1 _ (hat j (by omega))) (λ m hm hlt=>j2 m _ hlt (hat m hm)))
   ⟨e1,SeqAt.items_eqAt e4 r2 c3 (SeqAt.canLay_of_shaped o1) (yA hr.h o1),⟨.int _,H,I.tok _,⟨_,rfl⟩,q⟩⟩
def wu(td te:TD)(τ:DS)(M:MH)(Q:QD):Prop:=td τ M λ w M1=>∃ ds,w=.d (.list ds)/\te τ M1 λ y M2=>∃ d j,y=.d d/\vc d ds=true/\ab0 ds d j/\(j:Int)<2 ^ 63-1/\Q (.d (.int (j:Nat))) M2
end
theorem aax(hc:X.calm=true)(hg:Gl X "any")(hm:X.mg "any" = none)(ho:Jd (PD X o td))(hbase:attributeBase o "values" X.env (eval o X.env)=eval o X.env:=by rfl)(hline:(apos.endLine==cpos.line)=true:=by rfl) :
  Jd (PD X (.Call (.Name "any" p) [.Call (.Attribute o "values" apos) [] [] cpos] [] pos) (aer td)):=⟨have ho:=ho.h;ft (acf hc hg hm ho hbase hline) λ σ H Q hq114=>by
 obtain⟨τ,M,Qd,A,h,k⟩:=hq114;refine⟨τ,M,_,A,h,λ x H1 w M1 kp1 r1 m1 hq115=>?_⟩;obtain⟨a,kvs,ns,ew,hmm,hk,q⟩:=hq115;subst ew;obtain⟨l,e,pr⟩:=m1 _ _ hmm;refine⟨a,l,r1,.inl e,λ v hv=>?_⟩;have na:a≠v:=λ z=>by rw[z,hv] at e;cases e
 have kp2:Kp H1 (upd H1 v (.ext λ h=>h.IsValuesView v a)):=Kp.new hv;exact⟨v,a,l,ns,rfl,au,.inl (by rw[aq na];exact e),wH hk pr,kgo k kp1 _ _ (.d (.bool _)) _ kp2 (by simp[aE,aA]) (m1.new hv) q⟩⟩
theorem uy(hr:cY k X.A)(ho:Jd (PD X o td))(he:Jd (PD X e te))
  (hbase:attributeBase o "index" X.env (eval o X.env)=eval o X.env:=by rfl)
  (hfew:((backTo cpos (starEach [e] X.env)).all (λ x=>!x.1)&&(backToKw cpos (keywordEach [] X.env)).all (λ x=>x.1.isSome)
   && decide (([e]:List Expr).length+([]:List Keyword).length+(if ([]:List Keyword).isEmpty then 0 else 1)<30))=true:=by rfl)
  (hline:(apos.endLine==cpos.line)=true:=by rfl)(hs:eh e=false:=by rfl):Jd (PD X (.Call (.Attribute o "index" apos) [e] [] cpos) (wu td te)):=⟨have ho:=ho.h;have he:=he.h;
 ft (zt PySem.F.plainAttrs_list PySem.F.slot_list_index PySem.F.type_list_index (vK hr) ho (pac he jU hs) hbase hfew hline (bN e [] X.env hs) rfl) λ σ H Q h=>by obtain⟨τ,M,Qd,A,h,k⟩:=h;refine⟨τ,M,_,A,h,λ x H1 w M1 kp1 r1 m1 hq116=>?_⟩;obtain⟨ds,ew,q1⟩:=hq116;subst ew;have r1':=r1;simp only[aE,aA] at r1';obtain⟨a,vs,ex,hsq,ra⟩:=r1';subst ex;refine⟨.inl ⟨rfl,vs,hsq.sq⟩,τ,M1,agV (λ y M2=>∃ d j,y=.d d/\vc d ds=true/\ab0 ds d j/\(j:Int)<2 ^ 63-1/\Qd (.d (.int (j:Nat))) M2),A.go kp1 m1,q1,λ ys H2 wys M2 kp2 r2 m2 q2=>?_⟩;obtain⟨y,ey,d,j,ed,ok,hj,hsm,q4⟩:=rn q2;subst ey ed;obtain⟨v,ev,rv⟩:=e9 r2;subst ev;exact⟨v,d,ds,j,rfl,.inl (r1.keep kp2),.inl rv,ok,hj,hsm,k _ _ (.d (.int _)) _ (kp1.trans kp2) (by simp[aE,aA]) m2 q4⟩⟩
end D
set_option maxHeartbeats 0
namespace D
open L2
section
variable {X:Cx}{a b:Expr}{rest:List Expr}{pos:Pos}{ta tb:TE}
def ai4(K:FG)(ta tb:TE):TE:=λ σ H Q=>ta σ H λ x H1=>∃ c,ag0 K x H1 c/\if c=true then Q x H1 else tb σ H1 Q
theorem aeh(ha:PE X a ta)(hb:PE X (.BoolOp .Or (b::rest) pos) tb):PE X (.BoolOp .Or (a::b::rest) pos) (ai4 X.K ta tb):=by
 intro pins s σ H Q I h;refine BoolOp_or (thn (ha pins s σ H _ I h) λ v s1 hq117=>?_);obtain⟨x,H1,I1,r1,c,hc,q1⟩:=hq117;refine thn (aaI pins s1 σ H1 x v (λ k H'=>k=c/\H'=H1) I1 r1 ⟨c,hc,rfl,rfl⟩) λ k s2 hq118=>?_;obtain⟨H2,I2,e1,e2⟩:=hq118;subst e1 e2;cases k with
 | false=>exact hb pins s2 σ H2 Q I2 q1
 | true=>exact⟨x,H2,I2,r1,q1⟩
def ahy(ta tb:TD)(τ:DS)(M:MH)(Q:QD):Prop:=ta τ M λ w M1=>∃ c,vf M1 w c/\if c=true then Q w M1 else tb τ M1 Q
end
def Lst(ns:List Int)(j:Nat)(m:Int):Prop:=m∈ns.take j/\∀ x∈ns.take j,m<=x
theorem Lst.next(h:Lst ns j m)(e:ns[j]? =some n):Lst ns (j+1) (if n<m then n else m):=by
 have ht:ns.take (j+1)=ns.take j++[n]:=by rw[List.take_succ,e];rfl
 unfold Lst;rw[ht];constructor
 ·split
  ·simp
  ·exact List.mem_append_left _ h.1
 ·intro x hx;rcases List.mem_append.mp hx with hx | hx
  ·have:=h.2 x hx
   split<;>omega
  ·rw[List.mem_singleton.mp hx]
   split<;>omega
theorem uY(hh:A.handled=none)(hlI:l≠it)(hSI:S≠it)(hSl:S≠l)(hI:IntsAre its ns) :
  ∀ (r j:Nat) (s:Shared) (m:Int) (tb:Tok) (c:Nat),its.length-(j+1)=r->j+1<=its.length->s.heap.IsListIter it l (j+1)->s.heap.IsList l its.toArray->Lst ns (j+1) m ->
   s.heap.get? S=some (seqObj "list" #[.int m tb,.int m tb] c) ->
   (∀ (m:Int) (t:Tok) (h':Heap) (tk:Nat),Lst ns its.length m->(∀ b o,b≠it->b≠S->s.heap.get? b=some o->h'.get? b=some o)->R (.ok (.ret (.int m t))) {s with heap:=h',toks:=tk}) ->
   codeAny (model P w) A (.builtin "min.loop" ⟨[.ref it,.none,.ref S],kw⟩) R s:=by
 have nm:(toString "min" ++ toString ".loop" : String) = "min.loop":= by decide
 have Wk:=Walks.list (prog:=P) (w:=w) (A:=A.in1) hh it l hlI its.toArray;intro r
 induction r with
 | zero =>
  intro j s m tb c hr hj gI gl hL gS fin;have hin:j+1=its.length:=by omega
  refine codeAny_builtin PySem.F.entry_min_loop ?_;rw[Around.under_plainId PySem.F.plain_min_loop _];show wpAny _ A.in1 (seqItems? (.ref S) >>= _) _ _ _;refine wpAny_bind (wpAny_seqItems gS rfl ?_);show wpAny _ A.in1 (tryCatch (pyNext (.ref it)) _ >>= _) _ _ _;refine wpAny_bind (wpAny_tryCatch (Wk.done _ _ _ ⟨by rw[List.size_toArray,<- hin];exact gI,gl⟩ λ h' tk' hk'=>?_));have gS':=hk' S _ (by simpa using hSI) gS;have s1:=Heap.SameBut.update h' S (Obj.mapSeq λ _=>(#[]:Array Value));show wpAny _ A.in1 (updateSeq S (λ _=>#[]) >>= _) _ _ _;refine wpAny_bind (wpAny_updateSeq gS' rfl (wpAny_bind (wpAny_letGo (wpAny_pure ?_))));exact fin m tb _ tk' (hin ▸ hL) λ b o h1 h2 e=>(s1.2 b h2).trans (hk' b o (by simpa using h1) e)
 | succ r ih =>
  intro j s m tb c hr hj gI gl hL gS fin;have hlt:j+1<its.length:=by omega
  refine codeAny_builtin PySem.F.entry_min_loop ?_;rw[Around.under_plainId PySem.F.plain_min_loop _];show wpAny _ A.in1 (seqItems? (.ref S) >>= _) _ _ _;refine wpAny_bind (wpAny_seqItems gS rfl ?_);show wpAny _ A.in1 (tryCatch (pyNext (.ref it)) _ >>= _) _ _ _;refine wpAny_bind (wpAny_tryCatch (Wk.item (j+1) _ _ _ (by rw[List.size_toArray];exact hlt) ⟨gI,gl⟩ λ u2 h' tk' hP hst hk'=>?_));obtain⟨n,t2,hn,rfl⟩:=nN hI (j+1) u2 (by simpa using hP);have gS1:=hk' S _ (by simpa using hSI) gS;obtain⟨oI,goI,coI,doI⟩:=id hst.1;have hN:=hL.next hn;show wpAny _ A.in1 (tryCatch (holding [.int n t2,.int n t2] (richCompare .Lt (.int n t2) (.int m tb) >>= _)) _ >>= _) _ _ _;have cmp:∀ (s:Shared) (Q:VP) (E:VP),Q (.bool (decide (n<m))) s->wpAny (model P w) A.in1 (richCompare .Lt (.int n t2) (.int m tb)) Q E s:=λ s Q E h =>
   CmpOf.ints_lt (prog:=P) (w:=w) (A:=A.in1) (P:=λ i v=>∃ t,v=.int (if i=0 then n else m) t) (λ i=>if i=0 then n else m) (λ i v h=>h) 0 1 _ _ s Q E ⟨t2,rfl⟩ ⟨tb,rfl⟩ h
  refine wpAny_bind (wpAny_tryCatch (wpAny_holding (wpAny_bind (cmp _ _ _ ?_))));refine wpAny_bind (wpAny_holding (wpAny_truthy_bool (wpAny_bind (wpAny_letGo (wpAny_pure ?_)))))
  by_cases hb':n<m
  ·rw[if_pos hb'] at hN;have s1:=Heap.SameBut.update h' S (Obj.mapSeq λ _=>#[Value.int n t2,.int n t2]);obtain⟨c2,hc2⟩:∃ c2,(h'.update S (Obj.mapSeq λ _=>#[Value.int n t2,.int n t2])).get? S=some (seqObj "list" #[.int n t2,.int n t2] c2):=⟨_,get?_update_seq gS1 λ _=>#[Value.int n t2,.int n t2]⟩;simp only[hb',decide_true,if_true];refine wpAny_bind (wpAny_updateSeq gS1 rfl (wpAny_bind (wpAny_letGo ?_)));rw[nm];refine wpAny_pure ⟨plainId_quiet PySem.F.plain_min_loop _,ih (j+1) _ n t2 c2 (by omega) hlt ⟨oI,(s1.2 it hSI.symm).trans goI,coI,doI⟩ (hst.2.at λ o e=>(s1.2 l (Ne.symm hSl)).trans e) hN hc2 λ m' t' h2 tk2 hm hk2=>fin m' t' h2 tk2 hm λ b o h1 h3 e=>hk2 b o h1 h3 ((s1.2 b h3).trans (hk' b o (by simpa using h1) e))⟩
  ·rw[if_neg hb'] at hN;simp only[hb',decide_false,Bool.false_eq_true,if_false];refine wpAny_bind (wpAny_letGo ?_);rw[nm];exact wpAny_pure ⟨plainId_quiet PySem.F.plain_min_loop _,ih (j+1) _ m tb c (by omega) hlt ⟨oI,goI,coI,doI⟩ hst.2 hN gS1 λ m' t' h2 tk2 hm hk2=>fin m' t' h2 tk2 hm λ b o h1 h3 e=>hk2 b o h1 h3 (hk' b o (by simpa using h1) e)⟩
theorem yi(a v:Value):argsOk "min" ⟨[a],[(Str.ofString "default",v)]⟩:=by unfold argsOk;kernel_rfl
theorem aac(hh:A.handled=none)(hl:s.heap.IsList l its.toArray)(hI:IntsAre its ns)
  (fin:∀ (m:Int) (t:Tok) (h':Heap) (tk:Nat),Lst ns its.length m->(∀ b o,s.heap.get? b=some o->h'.get? b=some o)->Q (.int m t) {s with heap:=h',toks:=tk})
  (none:its=[]->∀ (h':Heap) (tk:Nat),(∀ b o,s.heap.get? b=some o->h'.get? b=some o)->Q d {s with heap:=h',toks:=tk}) :
  wpAny (model P w) A (call (.builtin "min") [.ref l] [(Str.ofString "default",d)]) Q E s:=by
 have nm:(toString "min" ++ toString ".loop" : String) = "min.loop":= by decide
 obtain⟨ol,hol,_⟩:=id hl;have hll:l<s.heap.objs.size:=Heap.lt_size hol;refine kmk_tree PySem.F.kind_min PySem.F.plain_min PySem.F.entry_min (yi _ _) ?_;show wpAny _ A.in1 (Builtin.Builtins.bindParams "min" ["key", "default"] 0 ⟨[],[(Str.ofString "default",d)]⟩ >>= _) _ _ s;refine wpAny_bind (wpAny_of_eq (show Builtin.Builtins.bindParams "min" ["key", "default"] 0 ⟨[],[(Str.ofString "default",d)]⟩=pure [.none,some d] from rfl) (wpAny_bind (wpAny_pure ?_)));refine wpAny_bind (wpAny_pyIter_list hl (wpAny_bind (wpAny_newList ?_ (Nat.zero_le _))));rw[nm];generalize hit:s.heap.objs.size=it;have hS:(s.heap.push {cls:=.type "list_iterator",data:=.fields #[.ref l,.int 0 0]}).objs.size=it+1:=by rw[<- hit];exact size_push' ..
 rw[hS];have gI:((s.heap.push {cls:=.type "list_iterator",data:=.fields #[.ref l,.int 0 0]}).push (seqObj "list" #[] 0)).get? it=some {cls:=.type "list_iterator",data:=.fields #[.ref l,.int 0 0]}:=Heap.get?_push_of_some _ (by rw[<- hit];exact Heap.get?_push_size _ rfl);have gS:((s.heap.push {cls:=.type "list_iterator",data:=.fields #[.ref l,.int 0 0]}).push (seqObj "list" #[] 0)).get? (it+1)=some (seqObj "list" #[] 0):=by rw[<- hS];exact Heap.get?_push_size _ rfl
 refine wpAny_pure ⟨plainId_quiet PySem.F.plain_min_loop _,?_⟩;generalize hH:(s.heap.push {cls:=.type "list_iterator",data:=.fields #[.ref l,.int 0 0]}).push (seqObj "list" #[] 0)=hp at gI gS;have kp:∀ b o,s.heap.get? b=some o->hp.get? b=some o:=λ b o e=>by rw[<- hH];exact Heap.get?_push_of_some _ (Heap.get?_push_of_some _ e)
 have old:∀ b o,s.heap.get? b=some o->b≠it/\b≠it+1:=λ b o e=>by have:=Heap.lt_size e;rw[hit] at this;exact⟨Nat.ne_of_lt this,Nat.ne_of_lt (Nat.lt_succ_of_lt this)⟩
 have hlI:l≠it:=(old l _ hol).1;have hlst:hp.IsList l its.toArray:=hl.at λ o e=>kp l o e;have Wk:=Walks.list (prog:=P) (w:=w) (A:=A.in1) hh it l hlI its.toArray;refine codeAny_builtin PySem.F.entry_min_loop ?_;rw[Around.under_plainId PySem.F.plain_min_loop _];show wpAny _ A.in1 (seqItems? (.ref (it+1)) >>= _) _ _ _;refine wpAny_bind (wpAny_seqItems gS rfl ?_);show wpAny _ A.in1 (tryCatch (pyNext (.ref it)) _ >>= _) _ _ _
 by_cases h0:0<its.length
 ·refine wpAny_bind (wpAny_tryCatch (Wk.item 0 _ _ _ (by rw[List.size_toArray];exact h0) ⟨⟨_,gI,rfl,rfl⟩,hlst⟩ λ u2 h' tk' hP hst hk'=>?_));obtain⟨n,t2,hn,rfl⟩:=nN hI 0 u2 (by simpa using hP);have gS1:=hk' (it+1) _ (by simp) gS;obtain⟨oI,goI,coI,doI⟩:=id hst.1;have s1:=Heap.SameBut.update h' (it+1) (Obj.mapSeq λ _=>#[Value.int n t2,.int n t2]);obtain⟨c2,hc2⟩:∃ c2,(h'.update (it+1) (Obj.mapSeq λ _=>#[Value.int n t2,.int n t2])).get? (it+1)=some (seqObj "list" #[.int n t2,.int n t2] c2):=⟨_,get?_update_seq gS1 λ _=>#[Value.int n t2,.int n t2]⟩;show wpAny _ A.in1 (updateSeq (it+1) (λ _=>#[.int n t2,.int n t2]) >>= _) _ _ _;refine wpAny_bind (wpAny_updateSeq gS1 rfl ?_);rw[nm];have hL:Lst ns 1 n:=by
   have e:ns.take 1=[n]:=by
    cases ns with
    | nil=>simp at hn
    | cons a as=>simp at hn;subst hn;rfl
   unfold Lst;rw[e];exact⟨by simp,λ x hx=>by rw[List.mem_singleton.mp hx];exact Int.le_refl _⟩
  exact wpAny_pure ⟨plainId_quiet PySem.F.plain_min_loop _,uY (l:=l) hh hlI (by simp) (λ z=>(old l _ hol).2 z.symm) hI _ 0 _ n t2 c2 rfl h0 ⟨oI,(s1.2 it (by simp)).trans goI,coI,doI⟩ (hst.2.at λ o e=>(s1.2 l (old l _ hol).2).trans e) hL hc2 λ m t h2 tk2 hm hk2=>fin m t h2 tk2 hm λ b o e=>hk2 b o (old b o e).1 (old b o e).2 ((s1.2 b (old b o e).2).trans (hk' b o (by simpa using (old b o e).1) (kp b o e)))⟩
 ·have e0:its=[]:=List.length_eq_zero_iff.mp (by omega);refine wpAny_bind (wpAny_tryCatch (Wk.done _ _ _ ⟨by rw[List.size_toArray,e0];exact⟨_,gI,rfl,rfl⟩,hlst⟩ λ h' tk' hk'=>?_));show wpAny _ A.in1 (rule _ >>= _) _ _ _;exact wpAny_bind (wpAny_rule (wpAny_pure (none e0 h' tk' λ b o e=>hk' b o (by simpa using (old b o e).1) (kp b o e))))
section
variable {X:Cx}{K:FG}{e:Expr}{te:TE}{p pos kpos kp:Pos}{j:Nat}
def aik(K:FG)(te:TE):TE:=λ σ H Q=>te σ H λ x H1=>∃ a,∃ ns:List Int,x=.ref a/\SqL K H1 a (ns.map V.int)/\(ns=[]->Q .non H1)/\∀ m,m∈ns->(∀ y∈ns,m<=y)->Q (.int m) H1
theorem ad0(hc:X.calm=true)(hg:Gl X "min")(hm:X.mg "min" = none)(he:PE X e te)(hs:eh e=false:=by rfl) :
  PE X (.Call (.Name "min" p) [e] [⟨some "default",.Constant .none j kp,kpos⟩] pos) (aik X.K te):=by
 intro pins s σ H Q I h;have pa:PA X [e] (rY te aai):=gP he mx (bN e [] X.env hs);have pk:PK X [⟨some "default",.Constant .none j kp,kpos⟩] (rY (tC .non) aai):=wa aaY abi;refine wpAny_Call_Name_kw (jg I hg hm tm (callWith_kw ?_ (by rw[bN e [] X.env hs];rfl) (by rw[bN e [] X.env hs];rfl)));refine thn (pa pos pins s σ H (λ vs H2=>match vs with
  | [x]=>∃ a,∃ ns:List Int,x=.ref a/\SqL X.K H2 a (ns.map V.int)/\(ns=[]->Q .non H2)/\∀ m,m∈ns->(∀ y∈ns,m<=y)->Q (.int m) H2
  | _=>False) I h) λ us s1 ⟨vs,H2,I1,r1,hx⟩=>?_
 match vs,r1,hx with
 | [x],r1,⟨a,ns,ex,hq,q0,q⟩ =>
  subst ex;obtain⟨u,rfl,ru⟩:=vals1 r1;cases ru;refine thn (pk pos pins s1 σ H2 (λ ks H3=>ks=[.non]/\H3=H2) I1 ⟨rfl,rfl⟩) λ kus s2 hq119=>?_;obtain⟨ks,H3,I2,r2,ek,eH⟩:=hq119;subst ek eH;obtain⟨ku,rfl,rk⟩:=vals1 r2;cases (show ku=Value.none from rk);show wpAny _ _ (call (.builtin "min") [.ref a] [(Str.ofString "default",.none)]) _ _ s2;obtain⟨its,rv,pl,hz⟩:=I2.list hq;obtain⟨ps,e1,e2⟩:=n6 rv;have hI:IntsAre its ns:=by
   subst e1;rw[<- e2];clear rv pl hz hq q0 q e2 h r1
   induction ps with
   | nil=>exact .nil
   | cons a as ih=>exact .cons _ _ ih
  have hln:its.length=ns.length:=hI.length;refine aac (I.ok.hd hc) pl.isList hI (λ m t h' tk hm kk=>?_) λ e0 h' tk kk=>?_
  ·rw[hln] at hm;unfold Lst at hm;rw[List.take_of_length_le (Nat.le_refl _)] at hm;exact⟨.int m,H3,I2.kept kk,⟨t,rfl⟩,q m hm.1 hm.2⟩
  ·exact⟨.non,H3,I2.kept kk,rfl,q0 (List.length_eq_zero_iff.mp (by rw[<- hln,e0];rfl))⟩
 | [],_,hx=>exact hx.elim
 | _::_::_,_,hx=>exact hx.elim
def afB(td:TD)(τ:DS)(M:MH)(Q:QD):Prop:=td τ M λ w M1=>∃ ns:List Int,w=.d (.list (ns.map PyData.int))/\(ns=[]->Q (.d .none) M1)/\∀ m,m∈ns->(∀ y∈ns,m<=y)->Q (.d (.int m)) M1
theorem sy:∀ {ns:List Int} {vs:List V},a9 K H (ns.map PyData.int) vs->vs=ns.map V.int
 | [],_,h=>by simp only[List.map_nil,a9] at h;rw[h];rfl
 | n::ns,_,h=>by simp only[List.map_cons,a9] at h;obtain⟨v,vs,rfl,h1,h2⟩:=h;simp only[aA] at h1;rw[h1,sy h2];rfl
end
section
variable {X:Cx}{a b o e:Expr}{rest:List Expr}{ta tb td te:TD}{apos cpos p pos kpos kp:Pos}{j:Nat}
theorem xJ(ha:Jd (PD X a ta))(hb:Jd (PD X (.BoolOp .Or (b::rest) pos) tb)):Jd (PD X (.BoolOp .Or (a::b::rest) pos) (ahy ta tb)):=⟨have ha:=ha.h;have hb:=hb.h;ft (aeh ha hb) λ σ H Q h=>by
 obtain⟨τ,M,Qd,A,h,k⟩:=h;refine⟨τ,M,_,A,h,λ x H1 w M1 kp r1 m1 ⟨c,g,q1⟩=>⟨c,g.sound r1 m1,?_⟩⟩;cases c with
 | false=>rw[if_neg Bool.false_ne_true] at q1 ⊢;exact⟨τ,M1,Qd,A.go kp m1,q1,kgo k kp⟩
 | true=>rw[if_pos rfl] at q1 ⊢;exact k _ H1 _ M1 kp r1 m1 q1⟩
theorem aag(hc:X.calm=true)(hg:Gl X "min")(hm:X.mg "min" = none)(he:Jd (PD X e td))(hs:eh e=false:=by rfl) :
  Jd (PD X (.Call (.Name "min" p) [e] [⟨some "default",.Constant .none j kp,kpos⟩] pos) (afB td)):=⟨have he:=he.h;ft (ad0 hc hg hm he hs) λ σ H Q hq120=>by
 obtain⟨τ,M,Qd,A,h,k⟩:=hq120;refine⟨τ,M,_,A,h,λ x H1 w M1 kp1 r1 m1 hq121=>?_⟩;obtain⟨ns,ew,q0,q⟩:=hq121;subst ew;simp only[aE,aA] at r1;obtain⟨a,vs,ex,hsq,ra⟩:=r1;rw[sy ra] at hsq;exact⟨a,ns,ex,hsq.sq,λ e0=>k _ H1 (.d .none) M1 kp1 (by simp[aE,aA]) m1 (q0 e0),λ m hm hl=>k _ H1 (.d (.int m)) M1 kp1 (by simp[aE,aA]) m1 (q m hm hl)⟩⟩
end
section
variable {X:Cx}{K:FG}{pins:PN}{σ:St}{H:Hp}{s:Shared}
end
section
variable {K:FG}
def vB(w w':W)(M:MH)(Q:QD):Prop:=∃ a b xs ys,w=.m a/\w'=.m b/\M a=some (.lst xs)/\M b=some (.lst ys)/\xs.length+ys.length<=sizeLine/\∀ p,M p=none->Q (.m p) (bf M p (.lst (xs++ys)))
theorem aQ.app:∀ {xs:List W} {vs:List V} {ys:List W} {us:List V},aQ K H xs vs->aQ K H ys us->aQ K H (xs++ys) (vs++us)
 | _,_,_,_,.nil,h=>h
 | _,_,_,_,.cons a b,h=>.cons a (aQ.app b h)
theorem t9:OpD K (agB K) vB:=by intro x y H w w' M Qd Q r1 r2 m ⟨a,b,xs,ys,e1,e2,ha,hb,hz,q⟩ k;subst e1 e2;obtain⟨vs,e3,p1⟩:=m _ _ ha;obtain⟨us,e4,p2⟩:=m _ _ hb;have l1:=aQ.length p1;have l2:=aQ.length p2;refine⟨a,b,vs,us,r1,r2,.of e3,.of e4,by omega,λ p hp=>?_⟩;have kp:Kp H (upd H p (.lst (vs++us))):=Kp.new hp;exact k _ _ (.m p) _ kp rfl (m.put (mo:=.lst (xs++ys)) kp ⟨_,au,aQ.keep kp (aQ.app p1 p2)⟩) (q p (m.free hp))
end
structure MiE(K:FG)(C:Addr)(qual:Str)(st:Stmt)(ps:List Str)(f:Addr)(fd:FuncData):Prop where
 fn:aif K "__init__" qual st f fd
 mi:Mk K C f
 bd:Binds K fd ps []
 bn:Binds K fd ps [.none]
theorem aeE{K:FG}{C:Addr}{qual:Str}{st:Stmt}{ps:List Str}{f T:Addr}{oc oc2:Value}{od od2 an:Option Addr}{osl osl2:Array (Option Value)}{kV doc pm cdv ct:Value}{n:Nat}(a:W.findIn K (.ref C) "__init__" = some (some (.ref f)))(i:W.isFn K (.ref f)=true)
  (l:K.lookup f=some ⟨oc,od,.func (W.fnOf "__init__" qual (aN st) (aG st) (ai st) (.ref T) kV doc pm an cdv ct),osl⟩)(c:W.codeIn K cdv qual=true)(k:W.keepIn K (.ref f)=true)
  (mk:W.makesIn K C=true)(kc:W.keepIn K (.ref C)=true)(lt:K.lookup T=some ⟨oc2,od2,.seq #[.none] n,osl2⟩)
  (b:∀ (us:List Value),us.length=ps.length->∃ kk:Option (Array Value)->Sem (List (Str×Value)),bindArgs (W.fnOf "__init__" qual (aN st) (aG st) (ai st) (.ref T) kV doc pm an cdv ct) ⟨us,[]⟩=seqItems? (.ref T) >>= kk/\kk (some #[.none])=pure (ps.zip us))
  (b2:∀ (us:List Value),us.length+1=ps.length->∃ kk:Option (Array Value)->Sem (List (Str×Value)),bindArgs (W.fnOf "__init__" qual (aN st) (aG st) (ai st) (.ref T) kV doc pm an cdv ct) ⟨us,[]⟩=seqItems? (.ref T) >>= kk/\kk (some #[.none])=pure (ps.zip (us++[.none]))) :
  MiE K C qual st ps f (W.fnOf "__init__" qual (aN st) (aG st) (ai st) (.ref T) kV doc pm an cdv ct):=
 ⟨⟨⟨oc,od,.ref T,kV,doc,pm,an,cdv,ct,osl,rfl,l,c⟩,k⟩,⟨mk,a,i,kc⟩,λ s us hK hl=>by
  rw[List.append_nil] at hl ⊢;obtain⟨kk,h1,h2⟩:=b us hl;exact BindsTo.of_defaults rfl (hK T _ lt) rfl h1 h2,λ s us hK hl=>by
  obtain⟨kk,h1,h2⟩:=b2 us (by simpa using hl);exact BindsTo.of_defaults rfl (hK T _ lt) rfl h1 h2⟩
def abn(C:Addr)(sp:SpD)(τ:DS)(M:MH)(Q:QD):Prop:=∀ a,M a=none->sp [.m a,.d .none] (bf M a (.ins C [])) (λ v M2=>v=.d .none/\Q (.m a) M2)
theorem xn(Mk':Mk X.K C f)(F:bW X.prog X.w X.K X.mg X.base CX0 k f fd ps (ef X.K sp))(hr:cY (k+1) X.A)(hg:Gl X x)(hm:X.mg x=some (.ref C))(hb:Binds X.K fd ps [.none])(hdb:ND x:=by decide) :
  Jd (PD X (.Call (.Name x p) [] [] pos) (abn C sp)):=⟨
 ft (zI (E:=E0) (dvs:=[.non]) Mk' F hr hg hm hb (.cons rfl .nil) aas hdb) λ σ H Q h=>by
  obtain⟨τ,M,Qd,A,h,k⟩:=h;intro a dx ha hd hn;obtain⟨kp2,m2⟩:=nD (X:=X) (C:=C) A.mem ha hd hn;exact⟨[.m a,.d .none],_,_,.cons rfl (.cons (by simp[aE,aA]) .nil),m2,h a (A.mem.free ha),λ v H' w M' kp3 r3 m3 hq122=>by obtain⟨e3,q3⟩:=hq122;subst e3;simp only[aE,aA] at r3;exact⟨r3,k _ H' (.m a) M' (kp2.trans kp3) rfl m3 q3⟩⟩⟩
abbrev PFn(K:FG)(x:Str)(st:Stmt):Prop:=∃ (f:Addr) (oc kV dc pm cd ct:Value) (od an:Option Addr) (sl:Array (Option Value)),W.nsIn K mainGlobals x=some (some (.ref f))/\K.lookup f=some ⟨oc,od,.func (W.fnOf x x (aN st) (aG st) (ai st) .none kV dc pm an cd ct),sl⟩/\W.codeIn K cd x=true/\W.keepIn K (.ref f)=true
abbrev PMf(K:FG)(C:Addr)(m x:Str)(st:Stmt):Prop:=∃ (f:Addr) (oc kV dc pm cd ct:Value) (od an:Option Addr) (sl:Array (Option Value)),W.findIn K (.ref C) m=some (some (.ref f))/\W.isFn K (.ref f)=true/\K.lookup f=some ⟨oc,od,.func (W.fnOf m x (aN st) (aG st) (ai st) .none kV dc pm an cd ct),sl⟩/\W.codeIn K cd x=true/\W.keepIn K (.ref f)=true
theorem afi{K:FG}{x:Str}{st:Stmt}{f:Addr}{oc kV dc pm cd ct:Value}{od an:Option Addr}{sl:Array (Option Value)}(a:W.nsIn K mainGlobals x=some (some (.ref f)))(l:K.lookup f=some ⟨oc,od,.func (W.fnOf x x (aN st) (aG st) (ai st) .none kV dc pm an cd ct),sl⟩)(c:W.codeIn K cd x=true)(k:W.keepIn K (.ref f)=true):PFn K x st:=⟨_,_,_,_,_,_,_,_,_,_,a,l,c,k⟩
theorem aeX{K:FG}{C:Addr}{m x:Str}{st:Stmt}{f:Addr}{oc kV dc pm cd ct:Value}{od an:Option Addr}{sl:Array (Option Value)}(a:W.findIn K (.ref C) m=some (some (.ref f)))(i:W.isFn K (.ref f)=true)(l:K.lookup f=some ⟨oc,od,.func (W.fnOf m x (aN st) (aG st) (ai st) .none kV dc pm an cd ct),sl⟩)(c:W.codeIn K cd x=true)(k:W.keepIn K (.ref f)=true):PMf K C m x st:=⟨_,_,_,_,_,_,_,_,_,_,a,i,l,c,k⟩
theorem PFn.fn{K:FG}{h:Heap}{mg:Str->Option Value}{x:Str}{st:Stmt}{ps:List Str}(p:PFn K x st)(X:K.In h)(G:h.Ns mainGlobals mg)
  (b:∀ (kV doc pm:Value) (an:Option Addr) (cdv ct:Value) (us:List Value),us.length=ps.length->bindArgs (W.fnOf x x (aN st) (aG st) (ai st) .none kV doc pm an cdv ct) ⟨us,[]⟩=pure (ps.zip us)):∃ f fd,Fn K mg x st ps f fd:=
 let ⟨f,_,_,_,_,_,_,_,_,_,a,l,c,k⟩:=p; ⟨f,_,xb X G a l c k b⟩
theorem PMf.mf{K:FG}{C:Addr}{m x:Str}{st:Stmt}{ps:List Str}(p:PMf K C m x st)
  (b:∀ (kV doc pm:Value) (an:Option Addr) (cdv ct:Value) (us:List Value),us.length=ps.length->bindArgs (W.fnOf m x (aN st) (aG st) (ai st) .none kV doc pm an cdv ct) ⟨us,[]⟩=pure (ps.zip us)):∃ f fd,Mf K C m x st ps f fd:=
 let ⟨f,_,_,_,_,_,_,_,_,_,a,i,l,c,k⟩:=p; ⟨f,_,zP a i l c k b⟩
abbrev ZZ(P:Program)(w:World)(K:FG)(mg:Str->Option Value)(base:Heap)(F:Addr->FuncData->Prop)(n:Nat)(ps:List Str)(sp:SpD):Prop:=∃ f fd,F f fd/\bW P w K mg base CX0 n f fd ps (ef K sp)
end D
namespace L2
structure ai5(P:Program)(w:World)(K:FG)(mg:Str->Option Value)(base:Heap)(CX:CXT)(k:Nat)(f:Addr)(fd:FuncData)(ps:List Str)(sp:Sp):Prop where
 len:∀ vs H Q E,sp vs H Q E->vs.length=ps.length
 run:∀ (A:Around) (outer:List Env) (s:Shared) (H:Hp) (args:Args) (us:List Value) (vs:List V) (Q:VK) (E:XK),lO k A->abu P w K mg base A outer s H->BindsTo s fd args (ps.zip us)->Vals vs us->sp vs H Q E ->
  codeAny (model P w) A (.call (.ref f) args) (CR CX outer P w H s Q E) s
section
variable {P:Program}{w:World}{K:FG}{mg:Str->Option Value}{base:Heap}
end
end L2
namespace D
open L2
section
variable {P:Program}{w:World}{K:FG}{mg:Str->Option Value}{base:Heap}
end
open XO
def sO(C:Addr)(sp:SpX)(E:XE)(t:TAd)(τ:DS)(M:MH)(Q:QD):Prop:=t τ M λ ws M1=>∀ a,M1 a=none->sp (.m a::ws) (bf M1 a (.ins C [])) (λ v M2=>v=.d .none/\Q (.m a) M2) λ b M'=>E b τ M'
section
variable {X:Cx}{K:FG}
end
theorem jF(L:Lk X E)(Mk':Mk X.K C f)(F:bW X.prog X.w X.K X.mg X.base (CXE X.prog X.w) k f fd ps (er X.K sp))(hr:cY (k+1) X.A)(hg:Gl X x)(hm:X.mg x=some (.ref C))(hb:L2.Binds X.K fd ps [])
  (ha:Jd (PAd X (e::es) t))(hdb:ND x:=by decide)(h1:eh e=false:=by rfl)(h2:(es.all λ e=>!eh e)=true:=by rfl) :
  Jd (PD X (.Call (.Name x p) (e::es) [] pos) (sO C sp E t)):=⟨have ha:=ha.h;by
 intro pins s σ H Q I h;obtain⟨τ,M,Qd,A,h,k⟩:=h;refine wpAny_Call_Name_kw (fX I hg hm ?_ hdb);refine W.callWith_K (h₀:=X.base) I.ok.mod.kin Mk'.kp (thn (ha pos pins s σ H (λ vs H1=>∃ ws M1,Kp H H1/\aQ X.K H1 ws vs/\cq X.K H1 M1/\∀ a,M1 a=none->sp (.m a::ws) (bf M1 a (.ins C [])) (λ v M2=>v=.d .none/\Qd (.m a) M2) λ b M'=>E b τ M') I
  ⟨τ,M,_,A,h,λ vs H1 ws M1 kp r m q=>⟨ws,M1,kp,r,m,q⟩⟩) λ us s1 ⟨vs,H1,I1,r,ws,M1,kp,rw,m1,q⟩=>⟨I1.kIn,?_⟩) (bN e es X.env h1) (cI pos X.env es h2)
 refine wF (E:=λ v _ H'=>∃ a M',v=.ref a/\Kp H1 H'/\cq X.K H' M'/\E a τ M') Mk' F hr hb I1 r (λ a dx ha hd hn=>?_) λ H2 s2 u s' I2 hx=>?_
 ·obtain⟨kp2,m2⟩:=nD (X:=X) (C:=C) m1 ha hd hn;exact⟨.m a::ws,_,_,_,.cons rfl (rw.keep kp2),m2,q a (m1.free ha),λ v H' w M' kp3 r3 m3 hq123=>by obtain⟨e3,q3⟩:=hq123;subst e3;simp only[aE,aA] at r3;exact⟨r3,k _ H' (.m a) M' ((kp.trans kp2).trans kp3) rfl m3 q3⟩,λ b H' M' kp' m' e'=>⟨b,M',rfl,kp2.trans kp',m',e'⟩⟩
 ·obtain⟨b,H',rfl,os,br,un,hok,air,q⟩:=hx;obtain⟨b',M',e,kp',m',q'⟩:=q;cases e;exact L pins σ H' s' b τ M' (I2.zB os un hok br (λ b z=>absurd z (by simp))) air (A.go (kp.trans kp') m') q'⟩
end D
namespace PySem.AutoSeq1
open PySem.MeetsSeq PySem.MeetsSeq2 PySem.MeetsSeq3 PyProof.Rows
end PySem.AutoSeq1
namespace D
open L2
def KB1(K:FG)(fd:FuncData)(ps:List Str)(kn:Str):Prop:=∀ (s:Shared) (a u:Value),K.In s.heap->BindsTo s fd ⟨[a],[(kn,u)]⟩ (ps.zip [a,u])
structure MiF(K:FG)(C:Addr)(qual:Str)(st:Stmt)(ps:List Str)(kn:Str)(f:Addr)(fd:FuncData):Prop where
 e:MiE K C qual st ps f fd
 bk:KB1 K fd ps kn
theorem MiF.fn{K:FG}{C:Addr}{qual:Str}{st:Stmt}{ps:List Str}{kn:Str}{f:Addr}{fd:FuncData}(h:MiF K C qual st ps kn f fd):aif K "__init__" qual st f fd:=h.e.fn
theorem af6{K:FG}{C:Addr}{qual:Str}{st:Stmt}{ps:List Str}{f T:Addr}{oc2:Value}{od2 an:Option Addr}{osl2:Array (Option Value)}{kV doc pm cdv ct:Value}{n:Nat}{kn:Str}(lt:K.lookup T=some ⟨oc2,od2,.seq #[.none] n,osl2⟩)
  (e:MiE K C qual st ps f (W.fnOf "__init__" qual (aN st) (aG st) (ai st) (.ref T) kV doc pm an cdv ct))
  (b:∀ (a u:Value),∃ kk:Option (Array Value)->Sem (List (Str×Value)),bindArgs (W.fnOf "__init__" qual (aN st) (aG st) (ai st) (.ref T) kV doc pm an cdv ct) ⟨[a],[(kn,u)]⟩=seqItems? (.ref T) >>= kk/\kk (some #[.none])=pure (ps.zip [a,u])) :
  MiF K C qual st ps kn f (W.fnOf "__init__" qual (aN st) (aG st) (ai st) (.ref T) kV doc pm an cdv ct):=⟨e,λ s a u hK=>by
  obtain⟨kk,h1,h2⟩:=b a u;exact BindsTo.of_defaults rfl (hK T _ lt) rfl h1 h2⟩
def aaW(C:Addr)(sp:SpD)(te:TD)(τ:DS)(M:MH)(Q:QD):Prop:=te τ M λ w M1=>∀ a,M1 a=none->sp [.m a,w] (bf M1 a (.ins C [])) (λ v M2=>v=.d .none/\Q (.m a) M2)
theorem yy(Mk':Mk X.K C f)(F:bW X.prog X.w X.K X.mg X.base CX0 k f fd ps (ef X.K sp))(hr:cY (k+1) X.A)(hg:Gl X x)(hm:X.mg x=some (.ref C))(hb:KB1 X.K fd ps kn)(he:Jd (PD X e te))(hdb:ND x:=by decide) :
  Jd (PD X (.Call (.Name x p) [] [⟨some kn,e,kpos⟩] pos) (aaW C sp te)):=⟨have he:=he.h;by
 intro pins s σ H Q I h;obtain⟨τ,M,Qd,A,h,k⟩:=h;refine wpAny_Call_Name_kw (fX I hg hm ?_ hdb);refine W.callWith_KW0 (h₀:=X.base) I.ok.mod.kin Mk'.kp rfl ?_ rfl;show wpAny _ _ (evalAll [(do let v <- eval e X.env;standAt pos;pure v)]) _ _ s;refine wpAny_evalAll_cons (wpAny_bind (thn (he pins s σ H (λ v H1=>∃ w M1,Kp H H1/\aE X.K H1 w v/\cq X.K H1 M1/\∀ a,M1 a=none->sp [.m a,w] (bf M1 a (.ins C [])) (λ v M2=>v=.d .none/\Qd (.m a) M2)) I
  ⟨τ,M,_,A,h,λ v H1 w M1 kp r m q=>⟨w,M1,kp,r,m,q⟩⟩) λ u s1 ⟨v,H1,I1,r,w,M1,kp,rw,m1,q⟩=>wpAny_bind (wpAny_standAt (wpAny_pure (wpAny_evalAll_nil ⟨I1.kIn,?_⟩)))))
 show wpAny _ _ (call (.ref C) [] [(kn,u)]) _ _ s1;have J:=Inv.made (C:=C) I1;have ha:=I1.hok.fresh (Nat.le_succ s1.heap.objs.size);have hd:=I1.hok.fresh (Nat.le_refl s1.heap.objs.size);obtain⟨kp2,m2⟩:=nD (X:=X) (C:=C) m1 ha hd (Nat.ne_of_lt (Nat.lt_succ_self _));have r2:Vals [V.ref (s1.heap.objs.size+1),v] [Value.ref (s1.heap.objs.size+1),u]:=.cons rfl (.cons r .nil);have q':ef X.K sp [V.ref (s1.heap.objs.size+1),v] (upd (upd H1 s1.heap.objs.size (.own (s1.heap.objs.size+1))) (s1.heap.objs.size+1) (.ins C s1.heap.objs.size [])) (λ v H2=>v=.non/\Q (.ref (s1.heap.objs.size+1)) H2) E0:=
  ⟨[.m (s1.heap.objs.size+1),w],_,_,.cons rfl (.cons (rw.keep kp2) .nil),m2,q _ (m1.free ha),λ v H' w M' kp3 r3 m3 hq124=>by obtain⟨e3,q3⟩:=hq124;subst e3;simp only[aE,aA] at r3;exact⟨r3,k _ H' (.m _) M' ((kp.trans kp2).trans kp3) rfl m3 q3⟩⟩
 refine wpAny_call (mR (f:=f) I1.kIn Mk'.makes Mk'.init (beq_iff_eq.mp Mk'.fn) (codeAny_mono (F.run _ X.stack _ _ ⟨[Value.ref (s1.heap.objs.size+1)],[(kn,u)]⟩ _ _ _ E0 (hr.make C [] [(kn,u)]) (J.aeb.make C [] [(kn,u)]) (hb _ _ _ J.kIn) r2 q') λ r s' hq=>?_));cases r with
 | error e=>exact hq.elim
 | ok fl =>
  cases fl with
  | ret u =>
   obtain⟨v,H',I3,rv,ev,q3⟩:=J.after hq;subst ev;exact⟨rv,⟨V.ref (s1.heap.objs.size+1),H',I3,rfl,q3⟩⟩
  | next=>exact False.elim hq
  | brk=>exact False.elim hq
  | cont=>exact False.elim hq⟩
def noX(sp:SpX):SpD:=λ ws M Q=>sp ws M Q λ _ _=>False
theorem afX{P:Program}{w:World}{K:FG}{mg:Str->Option Value}{base:Heap}{k:Nat}{f:Addr}{fd:FuncData}{ps:List Str}{sp:SpX}(F:bW P w K mg base (CXE P w) k f fd ps (er K sp)):bW P w K mg base CX0 k f fd ps (ef K (noX sp)):=
 ⟨λ vs H Q E h=>by
  obtain⟨ws,M,Qd,r,m,q,c⟩:=h;exact F.len vs H Q (λ _ _ _=>False) ⟨ws,M,Qd,λ _ _=>False,r,m,q,c,λ _ _ _ _ _ z=>z⟩,
 λ A outer s H args us vs Q E hr e0 hb r h=>by
  obtain⟨ws,M,Qd,rw,m,q,c⟩:=h;refine codeAny_mono (F.run A outer s H args us vs Q (λ _ _ _=>False) hr e0 hb r ⟨ws,M,Qd,λ _ _=>False,rw,m,q,c,λ _ _ _ _ _ z=>z⟩) λ r s' hq=>?_;cases r with
  | error e =>
   obtain⟨a,H',_,_,_,_,_,_,z⟩:=hq;exact z.elim
  | ok fl=>cases fl<;>exact hq⟩
section
variable {P:Program}{w:World}{K:FG}{mg:Str->Option Value}{base:Heap}
theorem zk{x qual:Str}{st:Stmt}{N ps:List Str}{k:Nat}{sp:SpX}{t:XE->TSd}(F:aif K x qual st f fd)(S:aP N ps (ai st))(len:∀ ws M Q E,sp ws M Q E->ws.length=ps.length)
  (hbody:∀ (cdv:Value) (A:Around) (outer:List Env) (s:Shared) (H:Hp) (E:XK) (Ed:XE),cY k (A.deeper (envOfC qual (ai st) s.heap.objs.size f cdv))->Lk (qT (CXE P w) P w K mg base N qual (ai st) f cdv A outer s H E) Ed ->
   PassesOwn (model P w) (A.deeper (envOfC qual (ai st) s.heap.objs.size f cdv)) (envOfC qual (ai st) s.heap.objs.size f cdv) (qT (CXE P w) P w K mg base N qual (ai st) f cdv A outer s H E).xe ->
   lp (qT (CXE P w) P w K mg base N qual (ai st) f cdv A outer s H E) (aG st) (t Ed))
  (read:∀ ws M Q E,sp ws M Q E->t (λ a _ M=>E a M) {nx:=λ _ M'=>Q (.d .none) M',rt:=Q} (bc N ws) M):bW P w K mg base (CXE P w) (k+1) f fd ps (er K sp):=by
 obtain⟨oc,od,dV,kV,doc,pm,an,cdv,ct,osl,rfl,lk,hcd⟩:=F.ex;refine zZ lk hcd S (λ vs H Q E h=>?_) λ A outer s H vs Q E hr h=>?_
 ·obtain⟨ws,M,Qd,Ed,r,_,q,_⟩:=h;rw[<- r.length];exact len _ _ _ _ q
 ·obtain⟨ws,M,Qd,Ed,r,m,q,kk,ke⟩:=h;refine⟨_,hbody cdv A outer s H E (λ a _ M=>Ed a M) hr (abj ke) PassesOwn.leaving,bc N ws,M,_,iA r m,read ws M Qd Ed q,λ σ' H' τ' M' kp A' q'=>?_,λ v H' w' M' kp r' m' q'=>?_,λ σ' H' τ' M' kp A' q'=>q'.elim,λ σ' H' τ' M' kp A' q'=>q'.elim⟩
  ·exact kk _ H' _ M' kp (by simp[aE,aA]) A'.mem q'
  ·exact kk v H' w' M' kp r' m' q'
end
end D
namespace PySem.AutoSeq1
open PySem.MeetsSeq PySem.MeetsSeq2 PySem.MeetsSeq3 PyProof.Rows
theorem yZ(a:Int)(t:Tok)(l:Addr)(items:Array Value)(n:Nat)(sl:Array (Option Value)):Meets (Builtin.«int.__rmul__» ⟨[.int a t,.ref l],[]⟩) (λ _ R s=>s.heap.get? l=some {cls:=.type "list",dict:=none,data:=.seq items n,slots:=sl}/\R (.ok (.ret .notImplemented)) s):=
 .of_wp λ prog w A R s h=>by
  obtain⟨hp,g,d,tk,os⟩:=s;obtain⟨hl,h⟩:=h;have f1:=idx_int;have f2:=sub_tuple_tuple;have f3:=sub_list_list;have f4:=sub_tuple_list;have f5:=sub_list_tuple;
  wp_walk using wpAny_loadPart' hl;exact⟨_,rfl,h⟩
theorem adg(l:Addr)(items:Array Value)(n:Nat)(x:Int)(u:Tok)(sl:Array (Option Value))(h1:¬(!Builtin.List.listFitsIndex x)=true)(h2:¬items.size * x.toNat > (2 ^ 63-1) / 8)(h3:¬Builtin.List.listTooLong (items.size * x.toNat)=true)
  (h4:¬(List.foldl (λ x1 x2=>x1++x2) #[] (List.replicate (if items.isEmpty=true then 0 else x.toNat) items)).size > sizeLine) :
  Meets (Builtin.«list.__mul__» ⟨[.ref l,.int x u],[]⟩) (λ _ R s=>s.heap.get? l=some {cls:=.type "list",dict:=none,data:=.seq items n,slots:=sl}/\R (.ok (.ret (.ref s.heap.objs.size))) {s with heap:=s.heap.push {cls:=.type "list",data:=.seq (List.foldl (λ x1 x2=>x1++x2) #[] (List.replicate (if items.isEmpty=true then 0 else x.toNat) items))}}):=
 .of_wp λ prog w A R s h=>by
  obtain⟨hp,g,d,tk,os⟩:=s;obtain⟨hl,h⟩:=h;have f1:=idx_int;have f2:=sub_tuple_tuple;have f3:=sub_list_list;have f4:=sub_tuple_list;have f5:=sub_list_tuple;
  wp_walk using wpAny_loadPart' hl;rw[if_neg h4];wp_walk using wpAny_loadPart' hl;exact⟨_,rfl,h⟩
end PySem.AutoSeq1
namespace D
open L2
section
variable {X:Cx}{K:FG}
def agu(K:FG):R2:=λ x y H Q=>∃ l k xs,x=.ref l/\y=.int k/\SqL K H l xs/\-(2 ^ 63)<=k/\k<2 ^ 63/\xs.length * k.toNat<=sizeLine /\
 ∀ p,H p=none->Q (.ref p) (upd H p (.lst (List.replicate k.toNat xs).flatten))
theorem adY:OpR X (binaryOp .Mult) (agu X.K):=by
 intro pins s σ H x y v u Q I rx ry h;obtain⟨l,k,xs,rfl,rfl,hH,h1,h2,hz,q⟩:=h;cases rx;obtain⟨t,rfl⟩:=ry;obtain⟨its,r,⟨o,n,e0,c2,d2,s2⟩,z⟩:=I.list hH;have hl:=r.length;have e:s.heap.get? l=some {cls:=.type "list",dict:=none,data:=.seq its.toArray n,slots:=o.slots}:=by rw[e0];cases o;simp_all
 have hlen:its.toArray.size * k.toNat<=sizeLine:=by rw[List.size_toArray,<- hl];exact hz
 have hcap:¬ its.toArray.size * k.toNat > (2 ^ 63-1) / 8:=by
  have:(sizeLine:Nat)<=(2 ^ 63-1) / 8:=by decide
  omega
 have hfit:¬ (!Builtin.List.listFitsIndex k)=true:=by rw[fitsIndex_both h1 h2];exact Bool.false_ne_true
 have hlong:¬ Builtin.List.listTooLong (its.toArray.size * k.toNat)=true:=by rw[aaj hlen];exact Bool.false_ne_true
 have hnew:List.foldl (λ x1 x2=>x1++x2) #[] (List.replicate (if its.toArray.isEmpty=true then 0 else k.toNat) its.toArray)=(List.replicate k.toNat its).flatten.toArray:=by
  have f0:∀ m:Nat,List.foldl (λ x1 x2=>x1++x2) #[] (List.replicate m its.toArray)=(List.replicate m its).flatten.toArray:=λ m=>by have:=foldl_rep its m [];rw[List.nil_append] at this;exact this
  rw[f0];cases its with
  | nil=>simp
  | cons a r'=>rw[if_neg (by simp)]
 have h4:¬(List.foldl (λ x1 x2=>x1++x2) #[] (List.replicate (if its.toArray.isEmpty=true then 0 else k.toNat) its.toArray)).size > sizeLine:=by rw[hnew,List.size_toArray,len_rep,Nat.mul_comm,<- hl];omega
 refine wpAny_binaryOp_repeat_ref (T:= "list") (U:= "int") (by decide) ⟨_,e,rfl⟩ (λ s'=>typeIs_int s' k t) noFill_list_mul F.fills_int_mul F.slot_int_rmul repeat_list F.slot_int_index.lookup
  (call_meets F.slot_int_rmul (typeIs_int s k t) F.entry_int_rmul (F.args_int_rmul_2 _ _) (AutoSeq1.yZ k t l its.toArray n _)
   ⟨e,rfl,⟨_,e,rfl⟩,call_meets F.slot_list_mul ⟨_,e,rfl⟩ F.entry_list_mul (F.args_list_mul_2 _ _) (AutoSeq1.adg l its.toArray n k t _ hfit hcap hlong h4) ⟨e,?_⟩⟩)
 rw[hnew];exact⟨.ref _,_,I.aiw (t':=s.toks) (r.rep k.toNat) (by rw[len_rep,Nat.mul_comm];exact hz),rfl,q _ I.fresh⟩
def aa1(w w':W)(M:MH)(Q:QD):Prop:=∃ ds n,w=.d (.list ds)/\w'=.d (.int n)/\0<=n/\n<=1000/\ds.length<=1000/\∀ p,M p=none->Q (.m p) (bf M p (.lst ((List.replicate n.toNat ds).flatten.map W.d)))
theorem yS:OpD K (agu K) aa1:=by
 intro x y H w w' M Qd Q r1 r2 m ⟨ds,n,e1,e2,h0,h1,hl,q⟩ k;subst e1 e2;simp only[aE,aA] at r1 r2;obtain⟨a,vs,e,hs,ra⟩:=r1;have hlen:=ra.length;refine⟨a,n,vs,e,r2,hs.sq,by omega,by omega,?_,λ p hp=>?_⟩
 ·have h2:vs.length * n.toNat<=1000 * 1000:=Nat.mul_le_mul (by omega) (by omega);have:=s16;omega
 ·have kp:Kp H (upd H p (.lst (List.replicate n.toNat vs).flatten)):=Kp.new hp;refine k _ _ (.m p) _ kp rfl (m.put (mo:=.lst ((List.replicate n.toNat ds).flatten.map W.d)) kp ⟨_,au,?_⟩) (q p (m.free hp));rw[List.map_flatten,List.map_replicate];exact(sX ra.ws n.toNat).keep kp
end
end D
namespace ZL
structure Zl(h:Heap)(z T O i j b:Addr)(x:Str)(tk:Tok)(f:Value)(k1 k2:Nat)(ys:Array Value)(u v:Value):Prop where
 z:IsZip h z T O f
 t:IsPair h T (.ref i) (.ref j)
 o:IsPair h O u v
 i:ZT.TI false h i b k1 ys
 j:h.IsStrIter j "str_ascii_iterator" x tk k2
theorem next_item(D:ZipApart z T O i j b b)(Z:Zl s.heap z T O i j b x tk .none k k ys u v)(hx:x.cps[k]? =some c0)(hy:ys[k]? =some y)
  (q:∀ h',Zl h' z T O i j b x tk (rawInt s.heap.objs.size) (k+1) (k+1) ys y (.str ⟨#[c0]⟩ s.toks)->IsPair h' s.heap.objs.size y (.str ⟨#[c0]⟩ s.toks) ->
   (∀ c o,c≠z->c≠O->c≠i->c≠j->s.heap.get? c=some o->h'.get? c=some o)->Q (some (.ref s.heap.objs.size)) {s with heap:=h',toks:=s.toks+1}):wpAny (model prog w) A (pyNext (.ref z)) Q E s:=by
 have hT:s.TypeIs (.ref z) "zip":= ⟨_,Z.z,rfl⟩;unfold pyNext;refine wpAny_bind (wpAny_attempt (wpAny_callSpecial?_slot (name:=Str.ofString "__next__") hT F.slot_zip_next (wpAny_call_entry F.slot_zip_next hT F.entry_zip_next ?_ (F.args_zip_next_1 _))));show wpAny _ _ (field (.ref z) 2 >>= _) _ _ _;refine wpAny_bind (wpAny_field Z.z rfl (x:=.bool false) rfl ?_);show wpAny _ _ (field (.ref z) 3 >>= _) _ _ _;refine wpAny_bind (wpAny_field Z.z rfl (x:=.ref T) rfl (wpAny_bind (wpAny_seqItems Z.t rfl ?_)));show wpAny _ _ (Builtin.SmallTypes.ownedTupleIsFree (.ref z) >>= _) _ _ _;refine wpAny_bind ?_;unfold Builtin.SmallTypes.ownedTupleIsFree;refine wpAny_bind (wpAny_field Z.z rfl (x:=.none) rfl (wpAny_pure ?_));simp only[if_true];refine wpAny_bind (wpAny_rule (wpAny_bind (wpAny_field Z.z rfl (x:=.ref O) rfl (wpAny_bind (wpAny_setField_rec Z.z (by simp) λ g1 z1 s1=>?_)))));replace z1:IsZip g1 z T O .ellipsis:=z1;refine wpAny_bind ?_;simp only[List.zipIdx_cons,List.zipIdx_nil,List.forIn_cons,List.forIn_nil];have i1:ZT.TI false g1 i b k ys:=Z.i.at λ c o hc q=>s1.extBut _ _ (by rcases hc with rfl | rfl;exact D.i1z;exact D.l1z) q;have j1:g1.IsStrIter j "str_ascii_iterator" x tk k:=Z.j.extBut s1.extBut D.i2z;refine wpAny_bind (wpAny_bind (wpAny_onRaise ?_));show wpAny _ _ (Builtin.SmallTypes.nextOf (.ref i) >>= _) _ _ _;refine wpAny_bind (ZT.oE i1 D.l1i1 hy λ g2 i2 s2=>wpAny_pure ?_);have o2:IsPair g2 O u v:=s2.extBut _ _ D.TOi1 (s1.extBut _ _ D.TOz Z.o);refine wpAny_bind (wpAny_seqItems o2 rfl (wpAny_bind (wpAny_updateSeq_pair o2 λ g3 o3 s3=>wpAny_bind (wpAny_letGo (wpAny_pure ?_)))));replace o3:IsPair g3 O y v:=o3;have j3:g3.IsStrIter j "str_ascii_iterator" x tk k:=(j1.extBut s2.extBut D.i12.symm).extBut s3.extBut D.TOi2.symm;refine wpAny_bind (wpAny_bind (wpAny_onRaise ?_));show wpAny _ _ (Builtin.SmallTypes.nextOf (.ref j) >>= _) _ _ _;refine wpAny_bind (wpAny_nextOf_ascii_item j3 hx λ g4 j4 s4=>wpAny_pure ?_);have o4:IsPair g4 O y v:=s4.extBut _ _ D.TOi2 o3;refine wpAny_bind (wpAny_seqItems o4 rfl (wpAny_bind (wpAny_updateSeq_pair o4 λ g5 o5 s5=>wpAny_bind (wpAny_letGo (wpAny_pure (wpAny_pure ?_))))));replace o5:IsPair g5 O y (.str ⟨#[c0]⟩ s.toks):=o5;refine wpAny_bind (wpAny_seqItems o5 rfl (wpAny_bind (wpAny_newTuple ?_)));have sz:g5.objs.size=s.heap.objs.size:=by rw[s5.1,s4.1,s3.1,s2.1,s1.1]
 have z5:IsZip g5 z T O .ellipsis:=s5.extBut _ _ D.TOz.symm (s4.extBut _ _ D.i2z.symm (s3.extBut _ _ D.TOz.symm (s2.extBut _ _ D.i1z.symm z1)));have k5:∀ c o,c≠z->c≠O->c≠i->c≠j->s.heap.get? c=some o->g5.get? c=some o:=λ c o c1 c2 c3 c4 e=>s5.extBut _ _ c2 (s4.extBut _ _ c4 (s3.extBut _ _ c2 (s2.extBut _ _ c3 (s1.extBut _ _ c1 e))));have i5:ZT.TI false g5 i b (k+1) ys:=i2.at λ c o hc q=>s5.extBut _ _ (by rcases hc with rfl | rfl;exact D.TOi1.symm;exact D.l1TO) (s4.extBut _ _ (by rcases hc with rfl | rfl;exact D.i12;exact D.l1i2) (s3.extBut _ _ (by rcases hc with rfl | rfl;exact D.TOi1.symm;exact D.l1TO) q));have j5:g5.IsStrIter j "str_ascii_iterator" x tk (k+1):=j4.extBut s5.extBut D.TOi2.symm;have zlt:z<g5.objs.size:=Heap.lt_size z5;show wpAny _ _ (Builtin.SmallTypes.ownedTupleHandOut (.ref z) (.ref g5.objs.size) >>= _) _ _ _;refine wpAny_bind ?_;unfold Builtin.SmallTypes.ownedTupleHandOut;have z6:IsZip (g5.push {cls:=.type "tuple",data:=.seq #[y,.str ⟨#[c0]⟩ s.toks]}) z T O .ellipsis:=Heap.get?_push_of_some _ z5;refine wpAny_bind (wpAny_setField_rec z6 (by simp) λ g7 z7 s7=>?_);replace z7:IsZip g7 z T O (rawInt g5.objs.size):=z7;refine wpAny_setField_rec z7 (by simp) λ g8 z8 s8=>?_;replace z8:IsZip g8 z T O (rawInt g5.objs.size):=z8;have up:∀ c o,c≠z->g5.get? c=some o->g8.get? c=some o:=λ c o c1 e=>s8.extBut _ _ c1 (s7.extBut _ _ c1 (Heap.get?_push_of_some _ e));have t8:IsPair g8 g5.objs.size y (.str ⟨#[c0]⟩ s.toks):=s8.extBut _ _ (Nat.ne_of_gt zlt) (s7.extBut _ _ (Nat.ne_of_gt zlt) (Heap.get?_push_size _ rfl));rw[sz] at z8 t8;refine wpAny_pure ⟨_,rfl,wpAny_pure ?_⟩;show Q (some (.ref g5.objs.size)) _;rw[sz];exact q g8 ⟨z8,up _ _ D.TIz (k5 T _ D.TIz D.TITO D.TIi1 D.TIi2 Z.t),up _ _ D.TOz o5,i5.at (λ c o hc q=>up _ o (by rcases hc with rfl | rfl;exact D.i1z;exact D.l1z) q),(let ⟨o,ho,r⟩:=j5; ⟨o,up _ o D.i2z ho,r⟩)⟩ t8 λ c o c1 c2 c3 c4 e=>up c o c1 (k5 c o c1 c2 c3 c4 e)
theorem next_end(hh:A.handled=none)(D:ZipApart z T O i j b b)(Z:Zl s.heap z T O i j b x tk .none k k ys u v)(hx:x.cps[k]? =none\/ys[k]? =none)
  (q:∀ h' k',(∀ c o,c≠z->c≠O->c≠i->c≠j->s.heap.get? c=some o->h'.get? c=some o)->Q none {s with heap:=h',toks:=k'}):wpAny (model prog w) A (pyNext (.ref z)) Q E s:=by
 have hT:s.TypeIs (.ref z) "zip":= ⟨_,Z.z,rfl⟩;have fin:∀ h' k' x,(∀ c o,c≠z->c≠O->c≠i->c≠j->s.heap.get? c=some o->h'.get? c=some o)->(∃ o,h'.get? x=some o/\o.cls=.type "StopIteration") ->
   wpAny (model prog w) A (do if (<- PySem.isInstance (.ref x) (.type "StopIteration")) then pure none else throw (.ref x)) Q E {s with heap:=h',toks:=k'}:=λ h' k' x kp ⟨o,ho,hc⟩ =>
  wpAny_bind (wpAny_isInstance (T:= "StopIteration") (b:=true) ⟨o,ho,hc⟩ isSubtype_stop (wpAny_pure (q _ _ kp)))
 unfold pyNext;refine wpAny_bind (wpAny_attempt (wpAny_callSpecial?_slot (name:=Str.ofString "__next__") hT F.slot_zip_next (wpAny_call_entry F.slot_zip_next hT F.entry_zip_next ?_ (F.args_zip_next_1 _))));show wpAny _ _ (field (.ref z) 2 >>= _) _ _ _;refine wpAny_bind (wpAny_field Z.z rfl (x:=.bool false) rfl ?_);show wpAny _ _ (field (.ref z) 3 >>= _) _ _ _;refine wpAny_bind (wpAny_field Z.z rfl (x:=.ref T) rfl (wpAny_bind (wpAny_seqItems Z.t rfl ?_)));show wpAny _ _ (Builtin.SmallTypes.ownedTupleIsFree (.ref z) >>= _) _ _ _;refine wpAny_bind ?_;unfold Builtin.SmallTypes.ownedTupleIsFree;refine wpAny_bind (wpAny_field Z.z rfl (x:=.none) rfl (wpAny_pure ?_));simp only[if_true];refine wpAny_bind (wpAny_rule (wpAny_bind (wpAny_field Z.z rfl (x:=.ref O) rfl (wpAny_bind (wpAny_setField_rec Z.z (by simp) λ g1 z1 s1=>?_)))));replace z1:IsZip g1 z T O .ellipsis:=z1;refine wpAny_bind ?_;simp only[List.zipIdx_cons,List.zipIdx_nil,List.forIn_cons,List.forIn_nil];have i1:ZT.TI false g1 i b k ys:=Z.i.at λ c o hc q=>s1.extBut _ _ (by rcases hc with rfl | rfl;exact D.i1z;exact D.l1z) q;have j1:g1.IsStrIter j "str_ascii_iterator" x tk k:=Z.j.extBut s1.extBut D.i2z;refine wpAny_bind (wpAny_bind (wpAny_onRaise ?_));show wpAny _ _ (Builtin.SmallTypes.nextOf (.ref i) >>= _) _ _ _;cases ey:ys[k]? with
 | none =>
  refine wpAny_bind (ZT.xr hh i1 ey λ g2 x s2 hq125=>?_);obtain⟨ox,hox,hcx⟩:=hq125;have z2:IsZip g2 z T O .ellipsis:=s2 _ _ D.i1z.symm z1;have hxz:x≠z:=λ e=>by subst e;rw[z2] at hox;cases hox;simp at hcx
  refine wpAny_setField_rec z2 (by simp) λ g3 _ s3=>fin g3 _ x (λ c o c1 _ c3 _ e=>s3.extBut _ _ c1 (s2 _ _ c3 (s1.extBut _ _ c1 e))) ⟨ox,s3.extBut _ _ hxz hox,hcx⟩
 | some y0 =>
  have ex:x.cps[k]? =none:=by rcases hx with h | h;exact h;rw[ey] at h;cases h
  refine wpAny_bind (ZT.oE i1 D.l1i1 ey λ g2 i2 s2=>wpAny_pure ?_);have o2:IsPair g2 O u v:=s2.extBut _ _ D.TOi1 (s1.extBut _ _ D.TOz Z.o);refine wpAny_bind (wpAny_seqItems o2 rfl (wpAny_bind (wpAny_updateSeq_pair o2 λ g3 o3 s3=>wpAny_bind (wpAny_letGo (wpAny_pure ?_)))));have j3:g3.IsStrIter j "str_ascii_iterator" x tk k:=(j1.extBut s2.extBut D.i12.symm).extBut s3.extBut D.TOi2.symm;refine wpAny_bind (wpAny_bind (wpAny_onRaise ?_));show wpAny _ _ (Builtin.SmallTypes.nextOf (.ref j) >>= _) _ _ _;refine wpAny_bind (wpAny_nextOf_ascii_end hh j3 ex λ g4 x s4 hq126=>?_);obtain⟨ox,hox,hcx⟩:=hq126;have z4:IsZip g4 z T O .ellipsis:=s4 _ _ D.i2z.symm (s3.extBut _ _ D.TOz.symm (s2.extBut _ _ D.i1z.symm z1));have hxz:x≠z:=λ e=>by subst e;rw[z4] at hox;cases hox;simp at hcx
  refine wpAny_setField_rec z4 (by simp) λ g5 _ s5=>fin g5 _ x (λ c o c1 c2 c3 c4 e=>s5.extBut _ _ c1 (s4 _ _ c4 (s3.extBut _ _ c2 (s2.extBut _ _ c3 (s1.extBut _ _ c1 e))))) ⟨ox,s5.extBut _ _ hxz hox,hcx⟩
theorem vo(x:Str)(tk:Tok)(hx:x.cps.all (·<128)=true)(b:Addr)(ys:Array Value):Meets (Builtin.«zip.__new__» ⟨[.type "zip",.ref b,.str x tk],[]⟩) (λ _ R s=>s.heap.IsList b ys /\
   R (.ok (.ret (.ref (s.heap.objs.size+4)))) {s with heap:=((((s.heap.push {cls:=.type "list_iterator",data:=.fields #[.ref b,.int 0 0]}).push {cls:=.type "str_ascii_iterator",data:=.fields #[.str x tk,.int 0 0]}).push {cls:=.type "tuple",data:=.seq #[.ref s.heap.objs.size,.ref (s.heap.objs.size+1)]}).push {cls:=.type "tuple",data:=.seq #[.none,.none]}).push {cls:=.type "zip",data:=.fields #[.none,.bool false,.bool false,.ref (s.heap.objs.size+2),.ref (s.heap.objs.size+3)]}}):=
 .of_wp λ prog w A R s h=>by
  obtain⟨hp,g,d,tk',os⟩:=s;obtain⟨hb,h⟩:=h;have hsub:=sub_zip
  wp_walk using wpAny_pyIter_list hb,wpAny_pyIter_ascii hx
  refine⟨_,rfl,?_⟩;simp only[Heap.size_push];exact h
theorem aaa(hx:x.cps.all (·<128)=true)(hb:s.heap.IsList b ys)
  (h:∀ h',Zl h' (s.heap.objs.size+4) (s.heap.objs.size+2) (s.heap.objs.size+3) s.heap.objs.size (s.heap.objs.size+1) b x tk .none 0 0 ys .none .none ->
   (∀ c o,s.heap.get? c=some o->h'.get? c=some o)->Q (.ref (s.heap.objs.size+4)) {s with heap:=h'}) :
  wpAny (model prog w) A (call (.type "zip") [.ref b,.str x tk]) Q E s:=by
 refine callType_new F.called_zip (by decide) (F.typeCall_zip_2 _ _) (F.newCall_zip_2 _ _) (λ obj=>F.args_object_init_3 obj _ _) F.entry_zip_new (vo x tk hx b ys) ⟨hb,?_⟩;generalize e1:s.heap.push {cls:=.type "list_iterator",data:=.fields #[.ref b,.int 0 0]}=g1;have z1:g1.objs.size=s.heap.objs.size+1:=by rw[<- e1];exact Heap.size_push ..
 have n1:g1.get? s.heap.objs.size=some {cls:=.type "list_iterator",data:=.fields #[.ref b,.int 0 0]}:=by rw[<- e1];exact Heap.get?_push_size _ rfl
 have k1:∀ c o,s.heap.get? c=some o->g1.get? c=some o:=λ c o q=>by rw[<- e1];exact Heap.get?_push_of_some _ q
 generalize e2:g1.push {cls:=.type "str_ascii_iterator",data:=.fields #[.str x tk,.int 0 0]}=g2;have z2:g2.objs.size=s.heap.objs.size+2:=by rw[<- e2,Heap.size_push,z1]
 have n2:g2.get? (s.heap.objs.size+1)=some {cls:=.type "str_ascii_iterator",data:=.fields #[.str x tk,.int 0 0]}:=by rw[<- e2,<- z1];exact Heap.get?_push_size _ rfl
 have k2:∀ c o,g1.get? c=some o->g2.get? c=some o:=λ c o q=>by rw[<- e2];exact Heap.get?_push_of_some _ q
 generalize e3:g2.push {cls:=.type "tuple",data:=.seq #[.ref s.heap.objs.size,.ref (s.heap.objs.size+1)]}=g3;have z3:g3.objs.size=s.heap.objs.size+3:=by rw[<- e3,Heap.size_push,z2]
 have n3:g3.get? (s.heap.objs.size+2)=some {cls:=.type "tuple",data:=.seq #[.ref s.heap.objs.size,.ref (s.heap.objs.size+1)]}:=by rw[<- e3,<- z2];exact Heap.get?_push_size _ rfl
 have k3:∀ c o,g2.get? c=some o->g3.get? c=some o:=λ c o q=>by rw[<- e3];exact Heap.get?_push_of_some _ q
 generalize e4:g3.push {cls:=.type "tuple",data:=.seq #[.none,.none]}=g4;have z4:g4.objs.size=s.heap.objs.size+4:=by rw[<- e4,Heap.size_push,z3]
 have n4:g4.get? (s.heap.objs.size+3)=some {cls:=.type "tuple",data:=.seq #[.none,.none]}:=by rw[<- e4,<- z3];exact Heap.get?_push_size _ rfl
 have k4:∀ c o,g3.get? c=some o->g4.get? c=some o:=λ c o q=>by rw[<- e4];exact Heap.get?_push_of_some _ q
 generalize e5:g4.push {cls:=.type "zip",data:=.fields #[.none,.bool false,.bool false,.ref (s.heap.objs.size+2),.ref (s.heap.objs.size+3)]}=g5;have n5:g5.get? (s.heap.objs.size+4)=some {cls:=.type "zip",data:=.fields #[.none,.bool false,.bool false,.ref (s.heap.objs.size+2),.ref (s.heap.objs.size+3)]}:=by rw[<- e5,<- z4];exact Heap.get?_push_size _ rfl
 have k5:∀ c o,g4.get? c=some o->g5.get? c=some o:=λ c o q=>by rw[<- e5];exact Heap.get?_push_of_some _ q
 have kk:∀ c o,s.heap.get? c=some o->g5.get? c=some o:=λ c o q=>k5 _ _ (k4 _ _ (k3 _ _ (k2 _ _ (k1 _ _ q))));refine⟨⟨_,n5,rfl⟩,h g5 ⟨n5,k5 _ _ (k4 _ _ n3),k5 _ _ n4,⟨?_,?_⟩,?_⟩ kk⟩
 ·exact⟨_,k5 _ _ (k4 _ _ (k3 _ _ (k2 _ _ n1))),rfl,rfl⟩
 ·obtain⟨o,e,r⟩:=hb;exact⟨o,kk _ _ e,r⟩
 ·exact⟨_,k5 _ _ (k4 _ _ (k3 _ _ n2)),rfl,rfl⟩
end ZL
namespace D
open L2
def aip(x:Str)(K:FG)(b:Addr):It:=
 ⟨λ i H=>∃ ys c y,SqL K H b ys/\x.cps[i]? =some c/\ys[i]? =some y,
  λ i H v H'=>∃ T c y,H T=none/\v=.ref T/\H'=upd H T (.tup [y,.str ⟨#[c]⟩])/\x.cps[i]? =some c/\∀ ys,SqL K H b ys->ys[i]? =some y,
  λ i H=>∃ ys,SqL K H b ys/\(x.cps.size<=i\/ys.length<=i)⟩
theorem xV{x:Str}{tk:Tok}{P:Program}{w:World}{K:FG}{elts:List Expr}{x1:Nat}{tpos:Pos}{z TI TO i1 i2 b:Addr}(Dz:ZipApart z TI TO i1 i2 b b) :
  Turn P w K (.Tuple elts x1 tpos) (aip x K b) [z,TI,TO,i1,i2] z (λ i h=>IsZip h z TI TO .none/\IsPair h TI (.ref i1) (.ref i2)/\(∃ u v,IsPair h TO u v)/\ZT.isIt false h i1 b i/\h.IsStrIter i2 "str_ascii_iterator" x tk i) where
 mem:=by simp
 obj:=λ i h ⟨hz,hTI,⟨u,v,hTO⟩,x1,x2⟩ c hc=>by
  obtain⟨o1,e1,d1⟩:=x1.obj;obtain⟨o2,e2,_,d2⟩:=x2;have q:c=z\/c=TI\/c=TO\/c=i1\/c=i2:=by simpa using hc
  rcases q with rfl | rfl | rfl | rfl | rfl
  ·exact⟨_,hz,λ v q=>by cases q⟩
  ·exact⟨_,hTI,λ v q=>by cases q⟩
  ·exact⟨_,hTO,λ v q=>by cases q⟩
  ·exact⟨o1,e1,λ v q=>by rw[d1] at q;cases q⟩
  ·exact⟨o2,e2,λ v q=>by rw[d2] at q;cases q⟩
 keep:=λ i h h' ⟨hz,hTI,⟨u,v,hTO⟩,x1,x2⟩ k=>⟨k z (by simp) _ hz,k TI (by simp) _ hTI,⟨u,v,k TO (by simp) _ hTO⟩,x1.at (λ o e=>k i1 (by simp) _ e),(let ⟨o,e,r⟩:=x2; ⟨o,k i2 (by simp) _ e,r⟩)⟩
 item:=by
  intro X hP hw hK hc i pins s σ H E I hf ⟨hz,hTI,⟨u0,v0,hTO⟩,l1,l2⟩ ⟨ys,c0,y,hq2,hx,hy⟩;subst hP hw hK;obtain⟨its2,rv2,p2⟩:=Inv.sqB (b:=false) I hq2;obtain⟨v,hv,rv⟩:=rv2.get hy;refine ZL.next_item Dz (ys:=its2.toArray) ⟨hz,hTI,hTO,⟨l1,p2⟩,l2⟩ (y:=v) hx (by simpa using hv) λ h' Z' hT kp=>?_;refine⟨_,rfl,wpAny_letOwnedTupleGo_zip Z'.z λ h'' hz'' sb=>?_⟩;obtain⟨t0,t1,t2,t3,t4,t5⟩:=I.mB (Nat.le_refl _) (I.hok.fresh (Nat.le_refl _));have nT:s.heap.objs.size≠z:=Nat.ne_of_gt (Heap.lt_size hz);have nTO:s.heap.objs.size≠TO:=Nat.ne_of_gt (Heap.lt_size hTO);have n1:s.heap.objs.size≠i1:=by obtain⟨o,e,_⟩:=l1.obj;exact Nat.ne_of_gt (Heap.lt_size e)
  have n2:s.heap.objs.size≠i2:=by obtain⟨o,e,_⟩:=l2;exact Nat.ne_of_gt (Heap.lt_size e)
  have nTI:s.heap.objs.size≠TI:=Nat.ne_of_gt (Heap.lt_size hTI);have I1:Inv X pins σ H {s with heap:=h'',toks:=s.toks+1}:=Inv.xt (t':=s.toks+1) (ch:=[z,TI,TO,i1,i2]) I (λ c ob hc q=>by simp only[List.mem_cons,List.not_mem_nil,or_false,not_or] at hc;exact(sb.2 c hc.1).trans (kp c ob hc.1 hc.2.2.1 hc.2.2.2.1 hc.2.2.2.2 q)) hf
  have eT:h''.get? s.heap.objs.size=some {cls:=.type "tuple",data:=.seq #[v,.str ⟨#[c0]⟩ s.toks]}:=(sb.2 _ nT).trans hT;have I2:=Inv.yc (us:=[v,.str ⟨#[c0]⟩ s.toks]) (ys:=[y,.str ⟨#[c0]⟩]) I1 eT t0 (.cons rv (.cons ⟨_,rfl⟩ .nil)) (by simp;have:=s16;omega) t3 t1 t4 t5;refine⟨.ref s.heap.objs.size,_,I2,rfl,⟨_,c0,y,t0,rfl,rfl,hx,λ zs hz=>by rw[Inv.abM (b:=false) I hz hq2];exact hy⟩,⟨hz'',(sb.2 _ Dz.TIz).trans Z'.t,⟨v,_,(sb.2 _ Dz.TOz).trans Z'.o⟩,?_,?_⟩,λ c hc=>?_⟩
  ·exact Z'.i.1.at λ o e=>(sb.2 i1 Dz.i1z).trans e
  ·obtain⟨o,e,r⟩:=Z'.j;exact⟨o,(sb.2 i2 Dz.i2z).trans e,r⟩
  ·have q:c=z\/c=TI\/c=TO\/c=i1\/c=i2:=by simpa using hc
   have hn:c≠s.heap.objs.size:=by rcases q with rfl | rfl | rfl | rfl | rfl<;>(intro e;first | exact nT e.symm | exact nTI e.symm | exact nTO e.symm | exact n1 e.symm | exact n2 e.symm)
   rw[aq hn];exact(hf c hc).1
 done:=by
  intro X hP hw hK hc i pins s σ H E I hf ⟨hz,hTI,⟨u0,v0,hTO⟩,l1,l2⟩ ⟨ys,hq2,hx⟩;subst hP hw hK;obtain⟨its2,rv2,p2⟩:=Inv.sqB (b:=false) I hq2;have e2:=rv2.length;refine ZL.next_end (I.ok.hd hc) Dz (ys:=its2.toArray) ⟨hz,hTI,hTO,⟨l1,p2⟩,l2⟩ ?_ λ h' k' eb=>⟨rfl,Inv.xt (t':=k') (ch:=[z,TI,TO,i1,i2]) I (λ c ob hc q=>by simp only[List.mem_cons,List.not_mem_nil,or_false,not_or] at hc;exact eb c ob hc.1 hc.2.2.1 hc.2.2.2.1 hc.2.2.2.2 q) hf⟩
  rcases hx with hx | hx
  ·exact .inl (by simp;omega)
  ·exact .inr (by simp;omega)
 self:=λ _ _ _ _ _ ⟨hz,_⟩ h=>wpAny_pyIter_zip hz h
def ahn(K:FG)(ta:TA):TI:=λ σ H R=>ta σ H λ vs H1=>∃ x d ys,vs=[.ref d,.str x]/\x.cps.all (·<128)=true/\SqL K H1 d ys/\R (aip x K d) H1
theorem adU{elts:List Expr}{x1:Nat}{tpos:Pos}(hg:Gl X "zip")(hm:X.mg "zip" = none)(ha:PA X [a,b] ta)(hs:starEach [a,b] X.env=(false,eval a X.env)::starEach [b] X.env:=by rfl)(hpl:(backTo pos (starEach [b] X.env)).any (·.1)=false:=by rfl) :
  PI X (.Tuple elts x1 tpos) (.Call (.Name "zip" p) [a,b] [] pos) (ahn X.K ta):=by
 intro pins s σ H R I h;refine Call_ (jg I hg hm afp (PyProof.Rows.callWith_type1 (thn (ha pos pins s σ H _ I h) λ us s1 ⟨vs,H1,I1,r1,q1⟩=>?_) hs hpl));obtain⟨x,d,ys,e,hx,hq2,q⟩:=q1;subst e;obtain⟨v1,v2,rfl,rr1,rr2⟩:=vals2 r1;cases (show _=Value.ref d from rr1);obtain⟨tk,ek⟩:=rr2;subst ek;obtain⟨its2,rv2,p2⟩:=Inv.sqB (b:=false) I1 hq2;have a2:d<s1.heap.objs.size:=p2.lt;refine ZL.aaa hx p2 λ h' Z kp=>?_;have I2:Inv X pins σ H1 {s1 with heap:=h'}:=I1.kept (t':=s1.toks) kp;refine wpAny_pyIter_zip Z.z ?_;refine⟨_,[_,_,_,_,_],_,_,H1,rfl,I2,xV (zipApart_new a2 a2),⟨Z.z,Z.t,⟨_,_,Z.o⟩,Z.i.1,Z.j⟩,λ e he=>?_,q⟩;have z:s1.heap.objs.size<=e:=by
  have z:e=s1.heap.objs.size+4\/e=s1.heap.objs.size+2\/e=s1.heap.objs.size+3\/e=s1.heap.objs.size\/e=s1.heap.objs.size+1:=by simpa using he
  rcases z with z | z | z | z | z<;>rw[z]<;>first | exact Nat.le_refl _ | exact Nat.le_add_right _ _
 exact I1.mB z (I1.hok.fresh z)
def agy(t:TAd)(τ:DS)(M:MH)(R:List W->MH->Prop):Prop:=t τ M λ ws M1=>∃ z es,ws=[.d (.list es),.d (.str z)]/\uN z=true/\R (zD es (gc z)) M1
theorem vW(hg:Gl X "zip")(hm:X.mg "zip" = none)(ha:Jd (PAd X [a,b] t))(h1:eh a=false:=by rfl)(h2:([b].all λ e=>!eh e)=true:=by rfl):Jd (PId X (.Tuple elts x1 tpos) (.Call (.Name "zip" p) [a,b] [] pos) (agy t)):=⟨have ha:=ha.h;adt (adU hg hm ha (bN a [b] X.env h1) (cI pos X.env [b] h2)) λ σ H R hq127=>by
 obtain⟨τ,M,Rd,A,h,k⟩:=hq127;refine⟨τ,M,_,A,h,λ vs H1 ws M1 kp r m hq128=>?_⟩;obtain⟨z,es,ew,hz,q⟩:=hq128;subst ew;obtain⟨v,v',ev,r1,r2⟩:=sD r;simp only[aE,aA] at r2;subst r2;obtain⟨d,ys,e2,hs',ks',ra'⟩:=adB (b:=false) r1;subst e2;have hl':=ra'.length;refine⟨z,d,ys,ev,hz,hs',k _ H1 _ M1 kp m (λ H2 kp2 i=>?_) q⟩;have hs2':=ks' _ kp2;have hls:(gc z).length=z.cps.size:=by simp[gc]
 have hlw:(zD es (gc z)).length=min ys.length z.cps.size:=by simp[zD,hls,hl']
 refine⟨λ hi=>⟨ys,z.cps[i]'(by omega),ys[i]'(by omega),hs2',by simp,by simp⟩,λ hi=>⟨ys,hs2',by omega⟩,λ x H' hi hq129=>?_⟩;obtain⟨T,c,y,hT,ex,eH,hc,hv⟩:=hq129;subst ex eH;have hxv:=hv ys hs2';obtain⟨d2,e4,rd'⟩:=(ra'.keep kp2).get' hxv;have kpn:Kp H2 (upd H2 T (.tup [y,.str ⟨#[c]⟩])):=Kp.new hT;have hid:i<min es.length (gc z).length:=by rw[hlw] at hi;omega
 refine⟨kpn,λ M m=>m.new hT,.d (.tuple [es.getD i .none,(gc z).getD i .none]),by unfold zD;rw[List.getElem?_map,List.getElem?_range hid];rfl,?_⟩;have ed:(gc z).getD i .none=.str ⟨#[c]⟩:=by simp[gc,List.getD,hc]
 have ed':es.getD i .none=d2:=by simp[List.getD,e4]
 rw[ed,ed'];simp only[aE,aA,a9];exact⟨T,_,rfl,.inl (.inl au),_,_,rfl,rd'.keep kpn,_,_,rfl,rfl,rfl⟩⟩
end D
namespace K87
open L2 D Rc Stc
abbrev eK:Addr:=24
abbrev ee:Addr:=44
abbrev av:Addr:=63
abbrev ip:Addr:=82
abbrev aU:Addr:=101
abbrev ao:Addr:=231
abbrev df:Addr:=143
abbrev aB:Addr:=141
abbrev mr:List Str:=["_law_bag_here", "_law_letters", "_law_word", "_law_at", "_law_step", "_law_place", "_law_found", "_law_k", "_law_sign", "_law_name", "_law_some"]
def lV(ay:SpD):TSd:=
  bz (cf (dC (.d (.str "abcdefghijklmnopqrstuvwxyz"))) (gN 1)) <|
  bz (cf (dMS sJ (dC (.d (.str ""))) (ah (dLC (lK (ah (bO ay (ah (ar 0) (ah (dC (.d (.int 8))) (aI)))) (aI))) (gN 0) (oJ) (dOp dS (ar 1) (bO ay (ah (ar 2) (ah (dC (.d (.int 26))) (aI))))) 1 [1,0]) aI)) (gN 2)) <|
  bz (cf (bO ay (ah (ar 0) (ah (dC (.d (.int 26))) (aI)))) (gN 3)) <|
  bz (cf (dOp dS (pw (ah (dC (.d (.int 1))) (ah (dC (.d (.int 3))) (ah (dC (.d (.int 5))) (ah (dC (.d (.int 7))) (ah (dC (.d (.int 9))) (ah (dC (.d (.int 25))) (aI)))))))) (bO ay (ah (ar 0) (ah (dC (.d (.int 6))) (aI))))) (gN 4)) <|
  bz (cf (bO ay (ah (ar 0) (ah (dOp d0 (dCB iX (ah (ar 2) (aI))) (dC (.d (.int 1)))) (aI)))) (gN 5)) <|
  bz (cf (oz (aI)) (gN 6)) <|
  bz (yE (lK (ah (dOp d0 (dC (.d (.int 1))) (bO ay (ah (ar 0) (ah (dC (.d (.int 4))) (aI))))) (aI))) (gN 7)
   (bz (cf (dOp dS (ar 1) (dOp eB (dOp d0 (ar 3) (dOp fJ (ar 4) (ar 7))) (dC (.d (.int 26))))) (gN 8)) <|
   bz (cf (dOp d0 (dOp d0 (dSl (ar 2) (dv) (hV (ar 5))) (ar 8)) (dSl (ar 2) (hV (ar 5)) (dv))) (gN 9)) <|
   bz (cf (pw (ah (dOp d0 (dC (.d (.int 1))) (bO ay (ah (ar 0) (ah (dC (.d (.int 9))) (aI))))) (ah (dC (.d (.int 1))) (ah (dC (.d (.int 9))) (ah (dOp d0 (dC (.d (.int 1))) (bO ay (ah (ar 0) (ah (dC (.d (.int 3))) (aI))))) (aI)))))) (gN 10)) <|
   gq (iP (ar 6) (gu (ah (ar 9) (ah (dOp dS (ar 10) (bO ay (ah (ar 0) (ah (dC (.d (.int 4))) (aI))))) (aI))))))) <|
  eA (qo (ar 6))
abbrev kT:List Str:=["self", "at"]
abbrev iu:List Str:=["thing"]
def jZ:TSd:=
  bz (dIf (dOr (sk (aW (dCB gA (ah (ar 0) (ah (dC (.t "str")) (aI)))))) (sk (aW (fH qA qA (dC (.d (.int 1))) (dCB iX (ah (ar 0) (aI))) (dC (.d (.int 8)))))))
   (eA (dC (.d (.bool false))))
   (dn)) <|
  eA (dCB za (ah (dLC (dh (ar 0)) (gN 0) (oJ) (fH qA qA (dC (.d (.str "a"))) (ar 0) (dC (.d (.str "z")))) 1 []) (aI)))
abbrev iN:List Str:=["thing"]
def iJ:TSd:=
  eA (mZ (dCB gA (ah (ar 0) (ah (dC (.t "int")) (aI)))) (zc (dCB gA (ah (ar 0) (ah (dC (.t "bool")) (aI))))))
abbrev gG:List Str:=["thing", "low", "high"]
def gD(bM:SpD):TSd:=
  eA (mZ (bO bM (ah (ar 0) (aI))) (fH qA qA (ar 1) (ar 0) (ar 2)))
abbrev gC:List Str:=["row"]
def gx(bE:SpD)(bP:SpD):TSd:=
  eA (mZ (dCB gA (ah (ar 0) (ah (dC (.t "tuple")) (aI)))) (mZ (dOp oV (dCB iX (ah (ar 0) (aI))) (dC (.d (.int 2)))) (mZ (bO bE (ah (dOp dS (ar 0) (dC (.d (.int 0)))) (aI))) (bO bP (ah (dOp dS (ar 0) (dC (.d (.int 1)))) (ah (dC (.d (.int 1))) (ah (dC (.d (.int 9))) (aI))))))))
abbrev fR:List Str:=["shares", "at", "row"]
def fN(Ex:XE)(bb:SpD):TSd:=
  bz (dIf (dOr (sk (aW (dCB gA (ah (ar 0) (ah (dC (.t "list")) (aI)))))) (sk (agS (ar 0))))
   (tq av ["at"] Ex (ah (dC (.d (.int 0))) (aI)))
   (dn)) <|
  yE (agm (ah (ar 0) (aI))) (gT 2 (cm (gN 1) (cm (gN 2) (jl))))
   (dIf (dOr (aW (dOp aga (ar 1) (dC (.d (.int 4))))) (dOr (sk (aW (bO bb (ah (ar 2) (aI))))) (aW (dOp (acQ false) (dOp dS (ar 2) (dC (.d (.int 0)))) (dLC (dh (dSl (ar 0) (dv) (hV (ar 1)))) (gN 0) (oJ) (dOp dS (ar 0) (dC (.d (.int 0)))) 1 [])))))
    (tq av ["at"] Ex (ah (ar 1) (aI)))
    (dn))
abbrev tE:List Str:=["unit", "whole", "share"]
def tH:TSd:=
  eA (dUn aav (dOp sj (dOp fJ (dUn aav (dOp d0 (ar 0) (dC (.d (.int 1))))) (ar 1)) (ar 2)))
abbrev mz:List Str:=["shares", "whole", "owned", "row", "slot", "released", "owner", "share"]
abbrev fg:Str:=(("round_of" : Str) ++ ".<locals>." ++ "<lambda>")
def mO(dz:SpD):TSd:=
  bz (cf (dCB aeH (ah (dLC (dh (ar 0)) (gT 2 (cm (gN 0) (cm (gN 1) (jl)))) (oJ) (ar 1) 2 []) (aI))) (gN 1)) <|
  bz (cf (dDC (dh (ar 0)) (gT 2 (cm (gN 0) (cm (gN 1) (jl)))) (oJ) (ar 0) (dC (.d (.int 0))) 2 []) (gN 2)) <|
  bz (cf (oz (aI)) (gN 3)) <|
  bz (yE (lK (ah (ar 1) (aI))) (gN 4)
   (bz (cf (dLC (dh (ar 0)) (gT 2 (cm (gN 0) (cm (gN 1) (jl)))) (aW (dOp qA (dOp sj (dOp fJ (uG (ar 2) (ar 0)) (ar 3)) (ar 1)) (ar 4))) (gu (ah (ar 0) (ah (ar 1) (aI)))) 2 [2,1,4]) (gN 5)) <|
   bz (cf (adv aB fg ⟨51,41,51,92⟩ (ar 5) (bO dz (ah (uG (ar 2) (dOp dS (ar 0) (dC (.d (.int 0))))) (ah (ar 1) (ah (dOp dS (ar 0) (dC (.d (.int 1)))) (aI))))) [1,2]) (gT 2 (cm (gN 6) (cm (gN 7) (jl))))) <|
   bz (wm (ar 2) (ar 6) (dC (.d (.int 1))) (λ i j=>i+j)) <|
   gq (iP (ar 3) (ar 6)))) <|
  eA (ar 3)
abbrev i6:List Str:=["self"]
def jj:TSd:=
  eQ ao (ar 0) (dC (.d (.int 0))) "next_slot"
abbrev ff:List Str:=["self", "shares"]
def eS(Ex:XE)(aF:SpX)(bo:SpD)(bR:SpD):TSd:=
  bz (gq (sI aF Ex (ah (ar 1) (aI)))) <|
  bz (eQ ao (ar 0) (dDC (dh (ar 1)) (gT 2 (cm (gN 0) (cm (gN 1) (jl)))) (oJ) (ar 0) (acm (pR ao (ar 2) "asks_waiting") (ar 0) (dC (.d (.int 0)))) 2 [0]) "asks_waiting") <|
  bz (eQ ao (ar 0) (bO bo (ah (ar 1) (aI))) "owner_round") <|
  gq (fm ao "begin" bR (ar 0) aI)
abbrev kP:List Str:=["self", "shares"]
def j7(Ex:XE)(aD:SpX):TSd:=
  bz (eQ ao (ar 0) (yw) "asks_waiting") <|
  bz (eQ ao (ar 0) (oz (aI)) "owner_round") <|
  bz (eQ ao (ar 0) (dC (.d (.int 0))) "next_slot") <|
  bz (eQ ao (ar 0) (dC (.d .none)) "number_led") <|
  dIf (aW (dOp (qj true) (ar 1) (dC (.d .none))))
   (gq (mL ao "new_shares" aD Ex (ar 0) (ah (ar 1) (aI))))
   (dn)
abbrev lG:List Str:=["self", "name"]
abbrev i9:List Str:=["self", "group"]
def ji(Ex:XE)(bE:SpD):TSd:=
  bz (dIf (dOr (sk (aW (bO bE (ah (ar 1) (aI))))) (aW (m8 (ar 1) (pR ao (ar 0) "asks_waiting"))))
   (tq aU ["name"] Ex (ah (ar 1) (aI)))
   (dn)) <|
  eA (uG (pR ao (ar 0) "asks_waiting") (ar 1))
abbrev l9:List Str:=["self", "group", "many", "let_in"]
def mN(Ex:XE)(aT:SpX):TSd:=
  bz (cf (dCB abp (ah (dCB wL (ah (ar 2) (ah (dOp ae1 (dC (.d (.int 40))) (mL ao "waits" aT Ex (ar 0) (ah (ar 1) (aI)))) (aI)))) (ah (dC (.d (.int 0))) (aI)))) (gN 3)) <|
  bz (wm (pR ao (ar 0) "asks_waiting") (ar 1) (ar 3) (λ i j=>i+j)) <|
  eA (ar 3)
abbrev dP:List Str:=["self"]
def dU:TSd:=
  eA (aer (pR ao (ar 0) "asks_waiting"))
abbrev jb:List Str:=["self"]
def i8:TSd:=
  bz (dIf (sk (agS (pR ao (ar 0) "owner_round")))
   (eA (dC (.d .none)))
   (dn)) <|
  eA (dOp dS (pR ao (ar 0) "owner_round") (dOp eB (pR ao (ar 0) "next_slot") (dCB iX (ah (pR ao (ar 0) "owner_round") (aI)))))
abbrev lQ:List Str:=["self", "groups", "first", "waiting"]
def lZ(aC:SpD)(aK:SpD):TSd:=
  bz (dIf (sk (aW (fm ao "is_waited_at" aC (ar 0) aI)))
   (eA (dC (.d .none)))
   (dn)) <|
  bz (cf (qo (dCB wX (ah (pR ao (ar 0) "asks_waiting") (aI)))) (gN 1)) <|
  bz (cf (wu (ar 1) (fm ao "owner" aK (ar 0) aI)) (gN 2)) <|
  bz (cf (dLC (dh (ad9 (dSl (ar 1) (hV (ar 2)) (dv)) (dSl (ar 1) (dv) (hV (ar 2))))) (gN 0) (aW (dOp yF (uG (pR ao (ar 1) "asks_waiting") (ar 0)) (dC (.d (.int 0))))) (ar 0) 1 [0]) (gN 3)) <|
  bz (wm (pR ao (ar 0) "asks_waiting") (dOp dS (ar 3) (dC (.d (.int 0)))) (dC (.d (.int 1))) (λ i j=>i-j)) <|
  bz (vX ao (ar 0) (dC (.d (.int 1))) "next_slot" (λ i j=>i+j)) <|
  eA (dOp dS (ar 3) (dC (.d (.int 0))))
abbrev pK:List Str:=["_law_bag_here", "_law_ahead", "_law_some", "_law_group"]
def qm(ay:SpD):TSd:=
  bz (cf (pw (ah (pw (ah (dC (.d (.str "free"))) (ah (dC (.d (.int 3))) (aI)))) (ah (gu (ah (dC (.d (.str "free"))) (aI))) (ah (gu (ah (dC (.d (.str "free"))) (ah (dC (.d (.int 3))) (ah (dC (.d (.int 1))) (aI))))) (ah (gu (ah (dC (.d (.str "Free"))) (ah (dC (.d (.int 3))) (aI)))) (ah (gu (ah (dC (.d (.str ""))) (ah (dC (.d (.int 3))) (aI)))) (ah (gu (ah (dC (.d (.str "a1"))) (ah (dC (.d (.int 3))) (aI)))) (ah (gu (ah (dC (.d (.str "abcdefghi"))) (ah (dC (.d (.int 3))) (aI)))) (ah (gu (ah (dC (.d .none)) (ah (dC (.d (.int 3))) (aI)))) (aI)))))))))) (gN 2)) <|
  bz (cf (ad9 (ar 2) (pw (ah (gu (ah (dC (.d (.int 5))) (ah (dC (.d (.int 3))) (aI)))) (ah (gu (ah (dC (.d (.str "free"))) (ah (dC (.d (.int 0))) (aI)))) (ah (gu (ah (dC (.d (.str "free"))) (ah (dC (.d (.int 10))) (aI)))) (ah (gu (ah (dC (.d (.str "free"))) (ah (dUn aav (dC (.d (.int 1)))) (aI)))) (ah (gu (ah (dC (.d (.str "free"))) (ah (dC (.d (.bool true))) (aI)))) (ah (gu (ah (dC (.d (.str "free"))) (ah (dC (.d (.str "3"))) (aI)))) (ah (gu (ah (dC (.d (.str "free"))) (ah (dC (.d .none)) (aI)))) (aI)))))))))) (gN 2)) <|
  bz (cf (ad9 (ar 2) (pw (ah (dC (.d .none)) (ah (dC (.d (.str "ab"))) (ah (dC (.d (.int 7))) (ah (gu (ah (gu (ah (dC (.d (.str "a"))) (aI))) (ah (dC (.d (.int 2))) (aI)))) (ah (gu (ah (pw (ah (dC (.d (.str "a"))) (aI))) (ah (dC (.d (.int 2))) (aI)))) (ah (wR) (ah (gu (aI)) (aI)))))))))) (gN 2)) <|
  bz (dIf (aW (dOp lM (ar 1) (pw (aI))))
   (bz (cf (dOp dS (dOp dS (ar 1) (bO ay (ah (ar 0) (ah (dCB iX (ah (ar 1) (aI))) (aI))))) (dC (.d (.int 0)))) (gN 3)) <|
   cf (ad9 (ar 2) (pw (ah (gu (ah (ar 3) (ah (dC (.d (.int 1))) (aI)))) (ah (gu (ah (ar 3) (ah (dC (.d (.int 9))) (aI)))) (aI))))) (gN 2))
   (dn)) <|
  eA (dOp dS (ar 2) (bO ay (ah (ar 0) (ah (dCB iX (ah (ar 2) (aI))) (aI)))))
abbrev mP:List Str:=["_law_bag_here", "_law_thing", "_law_right", "_law_rows", "_law_at", "_law_letters", "_law_names", "_law_k"]
def lU(ay:SpD)(bF:SpD)(cH:SpD):TSd:=
  bz (dIf (aW (dOp oV (bO ay (ah (ar 0) (ah (dC (.d (.int 8))) (aI)))) (dC (.d (.int 0)))))
   (bz (cf (dOp dS (pw (ah (dC (.d .none)) (ah (gu (aI)) (ah (gu (ah (gu (ah (dC (.d (.str "a"))) (ah (dC (.d (.int 1))) (aI)))) (aI))) (ah (wR) (ah (dC (.d (.str "ab"))) (ah (dC (.d (.int 5))) (ah (dC (.d (.bool true))) (ah (pw (aI)) (aI)))))))))) (bO ay (ah (ar 0) (ah (dC (.d (.int 8))) (aI))))) (gN 1)) <|
   eA (gu (ah (ar 1) (ah (dC (.d (.int 0))) (aI)))))
   (dn)) <|
  bz (cf (bO bF (ah (ar 0) (aI))) (gN 2)) <|
  bz (cf (dCB ib (ah (ar 2) (aI))) (gN 3)) <|
  bz (cf (dCB iX (ah (ar 2) (aI))) (gN 4)) <|
  bz (dIf (aW (dOp yF (bO ay (ah (ar 0) (ah (dC (.d (.int 3))) (aI)))) (dC (.d (.int 0)))))
   (bz (cf (bO ay (ah (ar 0) (ah (dOp d0 (dCB iX (ah (ar 2) (aI))) (dC (.d (.int 1)))) (aI)))) (gN 4)) <|
   cf (dOp vB (dOp vB (ahO (ar 3) (dv) (hV (ar 4))) (oz (ah (bO cH (ah (ar 0) (ah (dSl (ar 2) (dv) (hV (ar 4))) (aI)))) (aI)))) (ahO (ar 3) (hV (ar 4)) (dv))) (gN 3))
   (bz (cf (dC (.d (.str "bcdfg"))) (gN 5)) <|
   bz (cf (ad8 (agy (ah (aiE (dOp aa1 (ar 2) (dC (.d (.int 5)))) (dv) (hV (dC (.d (.int 5))))) (ah (ar 5) (aI)))) (gT 2 (cm (gN 0) (cm (gN 1) (jl)))) (oJ) (gu (ah (dOp d0 (dSl (dOp dS (ar 0) (dC (.d (.int 0)))) (dv) (hV (dC (.d (.int 7))))) (ar 1)) (ah (dOp dS (ar 0) (dC (.d (.int 1)))) (aI)))) 2 []) (gN 3)) <|
   bz (cf (xM (dLC (yz (ar 3)) (gN 0) (oJ) (dOp dS (ar 0) (dC (.d (.int 0)))) 1 [])) (gN 6)) <|
   bz (dIf (aW (dOp lM (dLC (dh (ar 6)) (gN 0) (aW (dOp yF (aaV (ar 1) (ar 0)) (dC (.d (.int 1))))) (ar 0) 1 [6]) (pw (aI))))
    (cf (ad8 (dh (ar 5)) (gN 0) (oJ) (gu (ah (ar 0) (ah (dC (.d (.int 2))) (aI)))) 1 []) (gN 3))
    (dn)) <|
   cf (dC (.d (.int 4))) (gN 4))) <|
  bz (yE (lK (ah (bO ay (ah (ar 0) (ah (dC (.d (.int 3))) (aI)))) (aI))) (gN 7)
   (gq (iP (ar 3) (bO cH (ah (ar 0) (ah (ar 2) (aI))))))) <|
  eA (gu (ah (qo (ar 3)) (ah (dCB wL (ah (ar 4) (ah (dC (.d (.int 4))) (aI)))) (aI))))
abbrev kS:List Str:=["self"]
def kh:TSd:=
  eA (pR ao (ar 0) "next_slot")
abbrev qe:List Str:=["_law_door", "_law_parted"]
def pP(bh:SpD)(aK:SpD)(aT:SpX):TSd:=
  eA (pw (ah (fm ao "slot" bh (ar 0) aI) (ah (fm ao "owner" aK (ar 0) aI) (ah (dLC (dh (ar 1)) (gT 2 (cm (gN 0) (cm (gN 1) (jl)))) (oJ) (mL ao "waits" aT (λ _ _ _=>False) (ar 2) (ah (ar 0) (aI))) 2 [0]) (aI)))))
abbrev tZ:List Str:=["shares", "many", "one_round"]
def tJ(Ex:XE)(aF:SpX)(bo:SpD):TSd:=
  bz (gq (sI aF Ex (ah (ar 0) (aI)))) <|
  bz (cf (bO bo (ah (ar 0) (aI))) (gN 2)) <|
  eA (dLC (lK (ah (ar 1) (aI))) (gN 0) (oJ) (dOp dS (ar 1) (dOp eB (ar 0) (dCB iX (ah (ar 1) (aI))))) 1 [2])
abbrev k7:List Str:=["_law_way", "_law_door", "_law_thing", "e"]
def jN(dA:SpX)(aO:SpX)(aD:SpX):TSd:=
  bz (aib (λ Ex =>
   dIf (aW (dOp oV (ar 0) (dC (.d (.int 0)))))
    (gq (sI dA Ex (ah (ar 2) (ah (dC (.d (.int 5))) (aI)))))
    (dIf (aW (dOp oV (ar 0) (dC (.d (.int 1)))))
     (gq (sO ao aO Ex (ah (ar 2) (aI))))
     (gq (mL ao "new_shares" aD Ex (ar 1) (ah (ar 2) (aI)))))) (ac8 (yD [(av,true)]) 3
   (bz (dIf (ad6 (aW (adu (yD [(av,true)]) (ar 3))) (ad6 (aW (adu (yD [(av,true)]) (ar 3))) (sk (aW (adu (yD [(av,false)]) (ar 3))))))
     (eA (abS [av] (ar 3) "at"))
     (dn)) <|
    eA (dC (.d (.str "other")))) (λ _ _ _ _=>False))) <|
  eA (dC (.d (.str "told")))
abbrev eC:List Str:=["self", "hands", "free", "behind"]
def eL:TSd:=
  bz (vN (cf (dLC (rZ (ar 1)) (gT 2 (cm (gN 0) (cm (gN 1) (jl)))) (aW (dOp yF (ar 1) (dC (.d (.int 0))))) (ar 0) 2 []) (gN 2))) <|
  bz (cf (dLC (dh (ar 2)) (gN 0) (dOr (aW (dOp (qj false) (pR ao (ar 1) "number_led") (dC (.d .none)))) (aW (dOp yF (ar 0) (pR ao (ar 1) "number_led")))) (ar 0) 1 [0]) (gN 3)) <|
  eA (afB (ahy (ar 3) (ar 2)))
abbrev jR:List Str:=["self", "copies", "used", "hands", "led", "number"]
def jP(aM:SpD)(aC:SpD)(aY:SpD):TSd:=
  bz (cf (ahy (dLC (dh (ar 1)) (gN 0) (aW (dOp dS (ar 0) (dC (.d (.int 2))))) (ar 0) 1 []) (ar 1)) (gN 2)) <|
  bz (cf (dDC (dh (ar 2)) (gT 3 (cm (gN 0) (cm (gN 1) (cm (gN 2) (jl))))) (oJ) (ar 0) (ar 1) 3 []) (gN 3)) <|
  bz (cf (oz (aI)) (gN 4)) <|
  bz (cf (fm ao "number_next" aM (ar 0) (ah (ar 3) (aI))) (gN 5)) <|
  bz (abt (ad6 (aW (dOp (qj true) (ar 5) (dC (.d .none)))) (aW (fm ao "is_waited_at" aC (ar 0) aI)))
   (bz (gq (iP (ar 4) (gu (ah (fm ao "use" aY (ar 0) aI) (ah (ar 5) (aI)))))) <|
   bz (wm (ar 3) (ar 5) (dC (.d (.int 1))) (λ i j=>i-j)) <|
   bz (eQ ao (ar 0) (ar 5) "number_led") <|
   cf (fm ao "number_next" aM (ar 0) (ah (ar 3) (aI))) (gN 5))) <|
  eA (ar 4)
abbrev aeI:List Str:=["_law_script", "_law_bag_here", "_law_parted", "_law_door", "_law_k", "_law_turn", "_law_thing", "_law_at", "_law_way", "_law_kept", "_law_state_here", "_law_again", "_law_found", "_law_one"]
def agq(eF:SpD)(bF:SpD)(aO:SpX)(ay:SpD)(cB:SpX)(aY:SpD)(cx:SpD)(cE:SpD)(bG:SpD)(aK:SpD)(bh:SpD)(bX:SpD):TSd:=
  bz (cf (bO eF (ah (ar 0) (aI))) (gN 1)) <|
  bz (cf (bO bF (ah (ar 1) (aI))) (gN 2)) <|
  bz (cf (sO ao aO (λ _ _ _=>False) (ah (qo (dCB ib (ah (ar 2) (aI)))) (aI))) (gN 3)) <|
  bz (yE (lK (ah (bO ay (ah (ar 1) (ah (dC (.d (.int 9))) (aI)))) (aI))) (gN 4)
   (bz (gq (mL ao "ask" cB (λ _ _ _=>False) (ar 3) (ah (dOp dS (dOp dS (ar 2) (bO ay (ah (ar 1) (ah (dCB iX (ah (ar 2) (aI))) (aI))))) (dC (.d (.int 0)))) (ah (dOp d0 (dC (.d (.int 1))) (bO ay (ah (ar 1) (ah (dC (.d (.int 5))) (aI))))) (aI))))) <|
   dIf (aW (dOp oV (bO ay (ah (ar 1) (ah (dC (.d (.int 2))) (aI)))) (dC (.d (.int 0)))))
    (gq (fm ao "use" aY (ar 3) aI))
    (dn))) <|
  bz (yE (lK (ah (dC (.d (.int 8))) (aI))) (gN 5)
   (bz (cf (bO cx (ah (ar 1) (aI))) (gT 2 (cm (gN 6) (cm (gN 7) (jl))))) <|
   bz (cf (bO ay (ah (ar 1) (ah (dC (.d (.int 3))) (aI)))) (gN 8)) <|
   bz (dIf (ad6 (aW (dOp (qj false) (ar 6) (dC (.d .none)))) (aW (dOp oV (ar 8) (dC (.d (.int 1))))))
    (cf (dC (.d (.int 0))) (gN 8))
    (dn)) <|
   bz (cf (dCB vQ (ah (ar 6) (aI))) (gN 9)) <|
   bz (cf (bO cE (ah (ar 3) (ah (ar 2) (aI)))) (gN 10)) <|
   bz (yE (lK (ah (dOp d0 (dC (.d (.int 1))) (bO ay (ah (ar 1) (ah (dC (.d (.int 2))) (aI))))) (aI))) (gN 11)
    (bz (cf (bO bG (ah (ar 8) (ah (ar 3) (ah (ar 6) (aI))))) (gN 12)) <|
    bz (dIf (dOr (aW (dOp lM (ar 12) (ar 7))) (dOr (aW (dCB gA (ah (ar 12) (ah (dC (.t "bool")) (aI))))) (aW (dOp lM (dCB vQ (ah (ar 6) (aI))) (ar 9)))))
     (eA (dC (.d (.bool false))))
     (dn)) <|
    dIf (aW (dOp lM (bO cE (ah (ar 3) (ah (ar 2) (aI)))) (ar 10)))
     (eA (dC (.d (.bool false))))
     (dn))) <|
   bz (dIf (dOr (aW (dOp lM (bO bG (ah (dC (.d (.int 0))) (ah (ar 3) (ah (qo (dCB ib (ah (ar 2) (aI)))) (aI))))) (dC (.d (.str "told"))))) (aW (dOp lM (bO bG (ah (dC (.d (.int 1))) (ah (ar 3) (ah (qo (dCB ib (ah (ar 2) (aI)))) (aI))))) (dC (.d (.str "told"))))))
    (eA (dC (.d (.bool false))))
    (dn)) <|
   dIf (aW (dOp oV (bO ay (ah (ar 1) (ah (dC (.d (.int 2))) (aI)))) (dC (.d (.int 0)))))
    (gq (fm ao "use" aY (ar 3) aI))
    (dn))) <|
  bz (yE (wW (oz (ah (abn ao (noX aO)) (ah (sO ao aO (λ _ _ _=>False) (ah (dC (.d .none)) (aI))) (ah (aaW ao (noX aO) (dC (.d .none))) (aI)))))) (gN 13)
   (dIf (dOr (aW (dOp (qj true) (fm ao "owner" aK (ar 13) aI) (dC (.d .none)))) (dOr (aW (dOp (qj true) (fm ao "use" aY (ar 13) aI) (dC (.d .none)))) (dOr (aW (dOp lM (fm ao "slot" bh (ar 13) aI) (dC (.d (.int 0))))) (aW (dOp lM (fm ao "lead" bX (ar 13) (ah (pw (ah (gu (ah (dC (.d (.int 1))) (ah (dC (.d (.int 2))) (ah (dC (.d (.bool true))) (aI))))) (aI))) (aI))) (pw (aI)))))))
    (eA (dC (.d (.bool false))))
    (dn))) <|
  eA (dC (.d (.bool true)))
abbrev Sh:=List (Str×Nat)
def bp(r:Str×Nat):PyData:=.tuple [.str r.1,.int (r.2:Nat)]
def shD(S:Sh):PyData:=.list (S.map bp)
structure OkS(S:Sh):Prop where
 ne:S≠[]
 len:S.length<=4
 row:∀ r∈S,wd r.1=true/\1<=r.2/\r.2<=9
 nd:(S.map (·.1)).Nodup
def wn(S:Sh):Nat:=(S.map (·.2)).sum
def sv(S:Sh)(i:Nat):Int:=(((S.map (·.2)).getD i 1:Nat):Int)
def cv(c:List Int)(i:Nat):Int:=c.getD i 0
def Rl(S:Sh)(c:List Int)(t:Int)(i:Nat):Prop:=cv c i * (wn S:Nat) / sv S i<=t
def due(W s c:Int):Int:=-(-(c+1) * W / s)
def Du(S:Sh)(c:List Int)(i:Nat):Int:=due (wn S:Nat) (sv S i) (cv c i)
def ub(S:Sh)(c:List Int)(t:Int)(i:Nat):Prop:=i<S.length/\Rl S c t i/\∀ j,j<S.length->Rl S c t j->Du S c i<=Du S c j/\(j<i->Du S c i<Du S c j)
theorem ub.uniq(h:ub S c t i)(k:ub S c t j):i=j:=by
 have h1:=h.2.2 j k.1 k.2.1;have h2:=k.2.2 i h.1 h.2.1;rcases Nat.lt_trichotomy i j with e | e | e
 ·have:=h2.2 e;omega
 ·exact e
 ·have:=h1.2 e;omega
theorem acz(h:∃ i,i<S.length/\Rl S c t i):∃ i,ub S c t i:=by
 have key:∀ m,m<=S.length->(∀ j,j<m->¬ Rl S c t j)\/∃ i,i<m/\Rl S c t i/\∀ j,j<m->Rl S c t j->Du S c i<=Du S c j/\(j<i->Du S c i<Du S c j):=by
  intro m
  induction m with
  | zero=>intro _;exact .inl λ j hj=>absurd hj (Nat.not_lt_zero _)
  | succ m ih =>
   intro hm;rcases ih (by omega) with h | ⟨i,hi,hr,hb⟩
   ·by_cases q:Rl S c t m
    ·refine .inr ⟨m,by omega,q,λ j hj hrj=>?_⟩
     by_cases e:j<m
     ·exact absurd hrj (h j e)
     ·have e:j=m:=by omega
      subst e;exact⟨Int.le_refl _,λ z=>absurd z (Nat.lt_irrefl _)⟩
    ·refine .inl λ j hj=>?_
     by_cases e:j<m
     ·exact h j e
     ·have e:j=m:=by omega
      subst e;exact q
   ·by_cases q:Rl S c t m/\Du S c m<Du S c i
    ·refine .inr ⟨m,by omega,q.1,λ j hj hrj=>?_⟩
     by_cases e:j<m
     ·have:=(hb j e hrj).1;exact⟨by omega,λ _=>by omega⟩
     ·have e:j=m:=by omega
      subst e;exact⟨Int.le_refl _,λ z=>absurd z (Nat.lt_irrefl _)⟩
    ·refine .inr ⟨i,by omega,hr,λ j hj hrj=>?_⟩
     by_cases e:j<m
     ·exact hb j e hrj
     ·have e:j=m:=by omega
      subst e;have:¬ Du S c j<Du S c i:=λ z=>q ⟨hrj,z⟩;exact⟨by omega,λ z=>by omega⟩
 obtain⟨i,hi,hr⟩:=h;rcases key S.length (Nat.le_refl _) with h | ⟨j,h⟩
 ·exact absurd hr (h i hi)
 ·exact⟨j,h⟩
open Classical in
noncomputable def pk(S:Sh)(c:List Int)(t:Int):Nat:=if h:∃ i,ub S c t i then h.choose else 0
theorem w5(h:∃ i,ub S c t i):ub S c t (pk S c t):=by
 unfold pk;rw[dif_pos h];exact h.choose_spec
theorem agn(h:ub S c t i):pk S c t=i:=(w5 ⟨i,h⟩).uniq h
noncomputable def nx(S:Sh)(c:List Int)(t:Int):List Int:=c.set (pk S c t) (cv c (pk S c t)+1)
noncomputable def st(S:Sh):Nat->List Int
 | 0=>List.replicate S.length 0
 | t+1=>nx S (st S t) t
theorem mq(h:i<c.length):cv (c.set i x) j=if j=i then x else cv c j:=by
 unfold cv
 by_cases e:j=i
 ·subst e;rw[if_pos rfl,List.getD_eq_getElem?_getD,List.getElem?_set_self h];rfl
 ·rw[if_neg e,List.getD_eq_getElem?_getD,List.getElem?_set_ne (Ne.symm e),<- List.getD_eq_getElem?_getD]
theorem sum_set:∀ (c:List Int) (i:Nat) (x:Int),i<c.length->(c.set i x).sum=c.sum-cv c i+x
 | [],_,_,h=>absurd h (Nat.not_lt_zero _)
 | a::c,0,x,_=>by show x+c.sum=a+c.sum-a+x;omega
 | a::c,i+1,x,h=>by
  have ih:=sum_set c i x (by simpa using h);have e:cv (a::c) (i+1)=cv c i:=by simp[cv]
  rw[e];show a+(c.set i x).sum=a+c.sum-cv c i+x;rw[ih];omega
theorem wsum:∀ (cs:List Int) (ns:List Nat) (k W:Int),cs.length=ns.length->(∀ i,i<cs.length->k * ((ns.getD i 1:Nat):Int)<=cv cs i * W)->k * ((ns.sum:Nat):Int)<=cs.sum * W
 | [],[],k,W,_,_=>by simp
 | [],_::_,_,_,h,_=>by simp at h
 | _::_,[],_,_,h,_=>by simp at h
 | a::cs,n::ns,k,W,h,hb=>by
  have ih:=wsum cs ns k W (by simpa using h) λ i hi=>by
   have:=hb (i+1) (by simpa using hi)
   simpa [cv] using this
  have h0:k * (n:Int)<=a * W:=by simpa [cv] using hb 0 (by simp)
  have e1:(((n::ns).sum:Nat):Int)=(n:Int)+((ns.sum:Nat):Int):=by simp
  have e2:(a::cs).sum=a+cs.sum:=rfl;rw[e1,e2,Int.mul_add,Int.add_mul];omega
theorem pT(hO:OkS S)(hi:i<S.length):1<=sv S i/\sv S i<=9:=by
 have hr:=hO.row S[i] (List.getElem_mem hi);have e:sv S i=(S[i].2:Nat):=by simp[sv,List.getD,List.getElem?_map,List.getElem?_eq_getElem hi]
 rw[e];omega
theorem tF(hO:OkS S):1<=wn S/\wn S<=36:=by
 have up:∀ T:Sh,(∀ r∈T,1<=r.2/\r.2<=9)->T.length<=wn T/\wn T<=9 * T.length:=by
  intro T
  induction T with
  | nil=>intro _;simp[wn]
  | cons r T ih =>
   intro h;have h1:=h r (by simp);have h2:=ih λ x hx=>h x (by simp[hx]);have e:wn (r::T)=r.2+wn T:=by simp[wn]
   rw[e,List.length_cons];omega
 have h:=up S λ r hr=>(hO.row r hr).2;have h1:=List.length_pos_iff.mpr hO.ne;have h2:=hO.len;omega
theorem afL(hO:OkS S)(hl:c.length=S.length)(hs:c.sum=t):∃ i,i<S.length/\Rl S c t i:=by
 by_cases h:∃ i,i<S.length/\Rl S c t i
 ·exact h
 exfalso
 have hw:=wsum c (S.map (·.2)) (t+1) (wn S:Nat) (by rw[hl,List.length_map]) λ i hi=>by
  have hi':i<S.length:=by omega
  have hn:¬ Rl S c t i:=λ z=>h ⟨i,hi',z⟩;unfold Rl at hn;have hp:=pT hO hi';have:t+1<=cv c i * (wn S:Nat) / sv S i:=by omega
  exact(Int.le_ediv_iff_mul_le (show 0<sv S i by omega)).mp this
 have e:(((S.map (·.2)).sum:Nat):Int)=(wn S:Nat):=rfl;rw[e,hs,Int.add_mul] at hw;have:=(tF hO).1;omega
structure ag9(S:Sh)(c:List Int)(t:Nat):Prop where
 len:c.length=S.length
 sum:c.sum=(t:Int)
 bd:∀ i,0<=cv c i/\cv c i<=(t:Int)
theorem ag9.best(hO:OkS S)(h:ag9 S c t):ub S c t (pk S c t):=w5 (acz (afL hO h.len h.sum))
theorem j6(hO:OkS S):∀ t,ag9 S (st S t) t
 | 0=>by
  refine⟨by simp[st],?_,λ i=>?_⟩
  ·show(List.replicate S.length (0:Int)).sum=0
   induction S.length with
   | zero=>rfl
   | succ n ih=>rw[List.replicate_succ];show 0+(List.replicate n (0:Int)).sum=0;rw[ih];rfl
  ·have:cv (st S 0) i=0:=by
    simp only[cv,st,List.getD_eq_getElem?_getD,List.getElem?_replicate]
    split<;>rfl
   omega
 | t+1=>by
  have ih:=j6 hO t;have hb:=ih.best hO;have hi:pk S (st S t) t<(st S t).length:=by rw[ih.len];exact hb.1
  refine⟨by simp[st,nx,ih.len],?_,λ i=>?_⟩
  ·show((st S t).set _ _).sum=_;rw[sum_set _ _ _ hi,ih.sum];omega
  ·show 0<=cv ((st S t).set _ _) i/\cv ((st S t).set _ _) i<=_;rw[mq hi];have h1:=ih.bd i;have h2:=ih.bd (pk S (st S t) t)
   split<;>omega
theorem la(hO:OkS S)(t:Nat):ub S (st S t) t (pk S (st S t) t):=(j6 hO t).best hO
theorem afW(hO:OkS S):∀ t,t<=wn S->∀ i,i<S.length->cv (st S t) i<=sv S i
 | 0,_,i,hi=>by have h1:=((j6 hO 0).bd i).2;have h2:=pT hO hi;have e:((0:Nat):Int)=0:=rfl;omega
 | t+1,ht,i,hi=>by
  have ih:=afW hO t (by omega) i hi;have hb:=la hO t;have hl:pk S (st S t) t<(st S t).length:=by rw[(j6 hO t).len];exact hb.1
  show cv ((st S t).set _ _) i<=_;rw[mq hl]
  split
  ·rename_i e
   rw[<- e];have hr:Rl S (st S t) t i:=by rw[e];exact hb.2.1
   unfold Rl at hr
   by_cases q:cv (st S t) i=sv S i
   ·have h2:=pT hO hi;rw[q,Int.mul_ediv_cancel_left _ (by omega)] at hr;omega
   ·omega
  ·exact ih
def ss(S:Sh):List Int:=S.map λ r=>((r.2:Nat):Int)
theorem o6:∀ (a b:List Int),a.length=b.length->(∀ i,i<a.length->cv a i<=cv b i)->a.sum=b.sum->a=b
 | [],[],_,_,_=>rfl
 | [],_::_,h,_,_=>by simp at h
 | _::_,[],h,_,_=>by simp at h
 | x::a,y::b,h,hb,hs=>by
  have le:∀ (a b:List Int),a.length=b.length->(∀ i,i<a.length->cv a i<=cv b i)->a.sum<=b.sum:=by
   intro a
   induction a with
   | nil=>intro b h _;cases b with
    | nil=>simp
    | cons _ _=>simp at h
   | cons x a ih =>
    intro b h hb;cases b with
    | nil=>simp at h
    | cons y b =>
     have h1:=ih b (by simpa using h) λ i hi=>by simpa [cv] using hb (i+1) (by simpa using hi)
     have h2:x<=y:=by simpa [cv] using hb 0 (by simp)
     show x+a.sum<=y+b.sum;omega
  have h1:=le a b (by simpa using h) λ i hi=>by simpa [cv] using hb (i+1) (by simpa using hi)
  have h2:x<=y:=by simpa [cv] using hb 0 (by simp)
  have hs':x+a.sum=y+b.sum:=hs;have e1:x=y:=by omega
  have e2:a.sum=b.sum:=by omega
  rw[e1,o6 a b (by simpa using h) (λ i hi=>by simpa [cv] using hb (i+1) (by simpa using hi)) e2]
theorem aaN(S:Sh):(ss S).sum=(wn S:Nat):=by
 induction S with
 | nil=>rfl
 | cons r S ih =>
  have e:wn (r::S)=r.2+wn S:=by simp[wn]
  show((r.2:Nat):Int)+(ss S).sum=_;rw[ih,e];omega
theorem abO(hi:i<S.length):cv (ss S) i=sv S i:=by simp[cv,ss,sv,List.getD,List.getElem?_map,List.getElem?_eq_getElem hi]
theorem ai8(hO:OkS S):st S (wn S)=ss S:=by
 have h:=j6 hO (wn S);refine o6 _ _ (by rw[h.len];simp[ss]) (λ i hi=>?_) (by rw[h.sum,aaN]);have hi':i<S.length:=by rw[<- h.len];exact hi
 rw[abO hi'];exact afW hO _ (Nat.le_refl _) i hi'
def aal(S:Sh)(c:List Int):List Int:=List.zipWith (· + ·) c (ss S)
theorem lR(hl:c.length=S.length)(hi:i<S.length):cv (aal S c) i=cv c i+sv S i:=by rw[<- abO hi];have h1:c[i]? =some (c[i]'(by omega)):=List.getElem?_eq_getElem (by omega);have h2:(ss S)[i]? =some ((ss S)[i]'(by simp[ss];omega)):=List.getElem?_eq_getElem (by simp[ss];omega);unfold cv aal;simp only[List.getD_eq_getElem?_getD,List.getElem?_zipWith,h1,h2,Option.getD_some]
theorem sg(hl:c.length=S.length):(aal S c).length=S.length:=by simp[aal,ss,hl]
theorem abk(hO:OkS S)(hl:c.length=S.length)(hi:i<S.length):Rl S (aal S c) (t+(wn S:Nat)) i ↔ Rl S c t i:=by
 unfold Rl;rw[lR hl hi,Int.add_mul,Int.mul_comm (sv S i),Int.add_mul_ediv_right _ _ (by have:=pT hO hi;omega)];omega
theorem abl(hO:OkS S)(hl:c.length=S.length)(hi:i<S.length):Du S (aal S c) i=Du S c i+(wn S:Nat):=by
 unfold Du due;rw[lR hl hi];have e:-(cv c i+sv S i+1) * ((wn S:Nat):Int)=-(cv c i+1) * ((wn S:Nat):Int)+(-((wn S:Nat):Int)) * sv S i:=by rw[show -(cv c i+sv S i+1)=-(cv c i+1) + -(sv S i) from by omega,Int.add_mul,Int.neg_mul (sv S i),Int.neg_mul ((wn S:Nat):Int),Int.mul_comm (sv S i)]
 rw[e,Int.add_mul_ediv_right _ _ (by have:=pT hO hi;omega)];omega
theorem abx(hO:OkS S)(hl:c.length=S.length)(hb:ub S c t (pk S c t)):pk S (aal S c) (t+(wn S:Nat))=pk S c t:=by refine agn ⟨hb.1,(abk hO hl hb.1).mpr hb.2.1,λ j hj hr=>?_⟩;have h:=hb.2.2 j hj ((abk hO hl hj).mp hr);rw[abl hO hl hb.1,abl hO hl hj];exact⟨by omega,λ z=>by have:=h.2 z;omega⟩
theorem aaP(hl:a.length=b.length)(h:∀ i,i<a.length->cv a i=cv b i):a=b:=by
 refine List.ext_getElem hl λ i h1 h2=>?_;have:=h i h1
 simpa [cv,List.getD,List.getElem?_eq_getElem h1,List.getElem?_eq_getElem h2] using this
theorem abb(hO:OkS S):∀ t,st S (t+wn S)=aal S (st S t)
 | 0=>by
  rw[Nat.zero_add,ai8 hO];refine aaP (by rw[sg (j6 hO 0).len];simp[ss]) λ i hi=>?_;have hi':i<S.length:=by simpa [ss] using hi
  have h0:=(j6 hO 0).bd i;rw[lR (j6 hO 0).len hi',abO hi'];have e:((0:Nat):Int)=0:=rfl;omega
 | t+1=>by
  have ih:=abb hO t;have ok:=j6 hO t;have hb:=la hO t;have e1:t+1+wn S=(t+wn S)+1:=by omega
  rw[e1];show nx S (st S (t+wn S)) ((t+wn S:Nat):Int)=aal S (nx S (st S t) t);rw[ih,show((t+wn S:Nat):Int)=(t:Int)+(wn S:Nat) from by omega];have hp:=abx hO ok.len hb;have hi:pk S (st S t) t<(st S t).length:=by rw[ok.len];exact hb.1
  unfold nx;rw[hp];have l1:=sg ok.len;have l2:((st S t).set (pk S (st S t) t) (cv (st S t) (pk S (st S t) t)+1)).length=S.length:=by rw[List.length_set];exact ok.len
  refine aaP (by rw[List.length_set,l1,sg l2]) λ i hi'=>?_;have hi2:i<S.length:=by rw[List.length_set,l1] at hi';exact hi'
  rw[mq (by rw[l1];exact hb.1),lR l2 hi2,mq hi,lR ok.len hi2,lR ok.len hb.1]
  split
  ·rename_i e
   subst e;omega
  ·rfl
noncomputable def own(S:Sh)(t:Nat):Nat:=pk S (st S t) t
theorem tR(hO:OkS S)(t:Nat):own S t<S.length:=(la hO t).1
theorem adD(hO:OkS S)(t:Nat):own S (t+wn S)=own S t:=by
 unfold own;rw[abb hO,show((t+wn S:Nat):Int)=(t:Int)+(wn S:Nat) from by omega];exact abx hO (j6 hO t).len (la hO t)
theorem adH(hO:OkS S)(t:Nat):own S t=own S (t % wn S):=by
 have key:∀ k r,own S (r+k * wn S)=own S r:=by
  intro k
  induction k with
  | zero=>intro r;simp
  | succ k ih =>
   intro r;rw[Nat.succ_mul,<- Nat.add_assoc,adD hO,ih]
 have:=key (t / wn S) (t % wn S);rw[<- this,Nat.mul_comm,Nat.mod_add_div]
def nmS(S:Sh)(i:Nat):Str:=(S.map (·.1)).getD i ""
noncomputable def rw0(S:Sh)(m:Nat):List Str:=(List.range m).map λ t=>nmS S (own S t)
theorem xY(S:Sh)(i:Nat):cv (st S 0) i=0:=by
 simp only[cv,st,List.getD_eq_getElem?_getD,List.getElem?_replicate]
 split<;>rfl
structure OkE(S:Sh):Prop where
 len:S.length<=4
 row:∀ r∈S,wd r.1=true/\1<=r.2/\r.2<=9
 nd:(S.map (·.1)).Nodup
theorem OkS.e(h:OkS S):OkE S:=⟨h.len,h.row,h.nd⟩
def btw(i lo hi:Int):Bool:=decide (lo<=i)&&decide (i<=hi)
def isW:PyData->Bool
 | .str z=>wd z
 | _=>false
def inB(lo hi:Int):PyData->Bool
 | .int i=>btw i lo hi
 | _=>false
def aeo:PyData->Bool
 | .int _=>true
 | _=>false
def bM:SpD:=λ ws M Q=>∃ d,ws=[.d d]/\Q (.d (.bool (aeo d))) M
theorem pA:∀ ws M Q,bM ws M Q->ws.length=1:=by rintro ws M Q ⟨d,rfl,_⟩;rfl
theorem nB:∀ ws M Q,bM ws M Q->iJ {nx:=λ _ M'=>Q (.d .none) M',rt:=Q} (bc iN ws) M:=by
 rintro ws M Q ⟨d,rfl,k⟩;refine⟨_,rfl,_,_,_,rfl,.d,.int,_,rfl,?_⟩;cases d with
 | int i=>exact fo ⟨_,rfl,_,_,_,rfl,.d,.bool,_,rfl,k⟩
 | bool b=>exact fo ⟨_,rfl,_,_,_,rfl,.d,.bool,_,rfl,k⟩
 | _=>exact ik k
def bP:SpD:=λ ws M Q=>∃ (d:PyData) (lo hi:Int),ws=[.d d,.d (.int lo),.d (.int hi)]/\Q (.d (.bool (inB lo hi d))) M
theorem nF:∀ ws M Q,bP ws M Q->ws.length=3:=by rintro ws M Q ⟨i,lo,hi,rfl,_⟩;rfl
theorem lJ:∀ ws M Q,bP ws M Q->gD bM {nx:=λ _ M'=>Q (.d .none) M',rt:=Q} (bc gG ws) M:=by
 rintro ws M Q ⟨d,lo,hi,rfl,k⟩;refine⟨_,rfl,d,rfl,_,rfl,?_⟩;cases d with
 | int i =>
  refine fo ⟨_,rfl,_,rfl,.inl ⟨_,_,rfl,rfl,_,rfl,?_⟩⟩;have k':Q (.d (.bool (btw i lo hi))) M:=k;unfold btw at k'
  by_cases h:lo<=i
  ·rw[decide_eq_true h] at k' ⊢;exact fo ⟨_,rfl,.inl ⟨_,_,rfl,rfl,k'⟩⟩
  ·rw[decide_eq_false h] at k' ⊢;exact ik k'
 | _=>exact ik k
def bE:SpD:=λ ws M Q=>∃ d,ws=[.d d]/\(∀ z,d=.str z->z.length<=1000)/\Q (.d (.bool (isW d))) M
theorem rM:∀ ws M Q,bE ws M Q->ws.length=1:=by rintro ws M Q ⟨d,rfl,_⟩;rfl
theorem adW(d:PyData):lq d "str" = true ↔ ∃ z,d=.str z:=by
 cases d<;>simp[lq,tyD]
theorem oK:∀ ws M Q,bE ws M Q->jZ {nx:=λ _ M'=>Q (.d .none) M',rt:=Q} (bc iu ws) M:=by
 rintro ws M Q ⟨d,rfl,hz,k⟩;refine⟨_,rfl,_,_,_,rfl,.d,.str,_,rfl,?_⟩;cases hs:lq d "str" with
 | false =>
  have:isW d=false:=by
   cases d with
   | str z=>simp[lq,tyD] at hs
   | _=>rfl
  rw[this] at k;exact k
 | true =>
  obtain⟨z,rfl⟩:=(adW d).mp hs;have hl:=hz z rfl;have hfit:yG (.d (.str z))=true:=decide_eq_true (few hl);refine⟨_,rfl,_,_,rfl,rfl,hfit,.inl ⟨_,_,rfl,rfl,_,rfl,?_⟩⟩;have no:∀ b:Bool,b=false->(decide (1<=z.length)&&decide (z.length<=8))=b->Q (.d (.bool false)) M:=λ b hb e=>by
   have:isW (.str z)=false:=by simp only[isW,wd,e,hb,Bool.false_and]
   rw[this] at k;exact k
  have fin:(decide (1<=z.length)&&decide (z.length<=8))=true->eA (dCB za (ah (dLC (dh (ar 0)) (gN 0) (oJ) (fH qA qA (dC (.d (.str "a"))) (ar 0) (dC (.d (.str "z")))) 1 []) (aI))) {nx:=λ _ M'=>Q (.d .none) M',rt:=Q} (bc iu [.d (.str z)]) M:=by
   intro hb;refine⟨_,rfl,_,rfl,?_⟩;dsimp only;refine yj (λ w=>match w with
    | .d (.str y)=>some (.bool (ck (y.cps.toList.headD 0)))
    | _=>none) ?hl (λ w hw P' hp=>?_) ?_
   case hl=>rw[List.length_map,str_len];exact few hl
   ·obtain⟨c,_,rfl⟩:=List.mem_map.mp hw;refine⟨_,rfl,.inr ⟨_,_,rfl,rfl,_,rfl,?_⟩⟩;have ea:("a" : Str).cps.toList=[97]:=by decide +kernel
    have ez:("z" : Str).cps.toList=[122]:=by decide +kernel
    have ec:(⟨#[c]⟩:Str).cps.toList=[c]:=rfl;have q1:(!decide ((⟨#[c]⟩:Str).cps.toList<("a" : Str).cps.toList))=!decide (c<97):=by rw[ea,ec,lt1]
    have q2:(!decide (("z" : Str).cps.toList<(⟨#[c]⟩:Str).cps.toList))=!decide (122<c):=by rw[ez,ec,lt1]
    refine ia (λ h=>?_) (λ h=>?_)
    ·have h0:(!decide (c<97))=true:=q1.symm.trans h;refine .inr ⟨_,_,rfl,rfl,_,rfl,rfl,?_⟩;have e:ck c=!decide (122<c):=by
      have h':¬ c<97:=by simpa using h0
      by_cases h2:122<c
      ·simp only[ck,h2,decide_true,Bool.not_true,Bool.and_eq_false_iff,decide_eq_false_iff_not];omega
      ·simp only[ck,h2,decide_false,Bool.not_false,Bool.and_eq_true,decide_eq_true_eq];omega
     have hp':P' (some (.bool (ck c))):=hp;rw[e,<- q2] at hp';exact hp'
    ·have h0:(!decide (c<97))=false:=q1.symm.trans h;refine⟨_,rfl,rfl,?_⟩;have e:ck c=false:=by
      have h':c<97:=by simpa using h0
      simp[ck];omega
     have hp':P' (some (.bool (ck c))):=hp;rw[e] at hp';exact hp'
   ·have e2:((z.cps.toList.map λ c=>W.d (.str ⟨#[c]⟩)).filterMap λ w=>match w with
      | .d (.str y)=>some (PyData.bool (ck (y.cps.toList.headD 0)))
      | _=>none)=(z.cps.toList.map ck).map PyData.bool:=by
     rw[abg (λ c=>W.d (.str ⟨#[c]⟩)) _ (λ c=>PyData.bool (ck c)) (λ c=>rfl),List.map_map];rfl
    rw[e2];refine⟨z.cps.toList.map ck,rfl,?_⟩;have e3:(z.cps.toList.map ck).all id=isW (.str z):=by simp only[isW,wd,hb,Bool.true_and,List.all_map];rfl
    rw[e3];exact k
  cases h1:decide ((1:Int)<=((z.length:Nat):Int)) with
  | false =>
   refine⟨_,rfl,?_⟩;refine no _ rfl ?_;have:¬ (1:Int)<=(z.length:Nat):=of_decide_eq_false h1;have:¬ 1<=z.length:=by omega
   simp[this]
  | true =>
   refine .inl ⟨_,_,rfl,rfl,_,rfl,?_⟩;have g1:(1:Int)<=(z.length:Nat):=of_decide_eq_true h1;cases h2:decide (((z.length:Nat):Int)<=8) with
   | false =>
    refine no _ rfl ?_;have:¬ ((z.length:Nat):Int)<=8:=of_decide_eq_false h2;have:¬ z.length<=8:=by omega
    simp[this]
   | true =>
    have g2:((z.length:Nat):Int)<=8:=of_decide_eq_true h2;exact fin (by simp;omega)
def ud:PyData->Bool
 | .tuple [a,b]=>isW a&&inB 1 9 b
 | _=>false
theorem afu(h:ud x=true):∃ r:Str×Nat,x=bp r/\wd r.1=true/\1<=r.2/\r.2<=9:=by
 unfold ud at h
 split at h
 ·rename_i a b
  rw[Bool.and_eq_true] at h;obtain⟨h1,h2⟩:=h;cases a<;>simp only[isW] at h1<;>try cases h1
  cases b<;>simp only[inB] at h2<;>try cases h2
  rename_i z n
  simp only[btw,Bool.and_eq_true,decide_eq_true_eq] at h2;obtain⟨k,rfl⟩:=Int.eq_ofNat_of_zero_le (show 0<=n by omega);exact⟨(z,k),rfl,h1,by show 1<=k;omega,by show k<=9;omega⟩
 ·cases h
theorem acV(h:wd r.1=true)(h1:1<=r.2)(h9:r.2<=9):ud (bp r)=true:=by show(wd r.1&&btw (r.2:Nat) 1 9)=true;rw[h];simp only[btw,Bool.true_and,Bool.and_eq_true,decide_eq_true_eq];omega
def Rs(d:PyData):Prop:=∀ ds,d=.tuple ds->∀ z,ds[0]? =some (.str z)->z.length<=1000
theorem Rs.row(h:wd r.1=true):Rs (bp r):=λ ds e z hz=>by
 unfold bp at e;cases e;have:PyData.str r.1=.str z:=by simpa using hz
 cases this;have:=(tW h).2;omega
def bb:SpD:=λ ws M Q=>∃ d,ws=[.d d]/\Rs d/\Q (.d (.bool (ud d))) M
theorem jm:∀ ws M Q,bb ws M Q->ws.length=1:=by rintro ws M Q ⟨r,rfl,_⟩;rfl
theorem cT(i j:Int):d6 (.int i) (.int j)=true:=by simp[d6,lA,SeqAt.shaped,PyData.canLay0,PyData.depth,PyData.hasDict]
theorem two_of(h:l.length=2):∃ a b,l=[a,b]:=by
 match l,h with
 | [a,b],_=>exact⟨a,b,rfl⟩
theorem iR:∀ ws M Q,bb ws M Q->gx bE bP {nx:=λ _ M'=>Q (.d .none) M',rt:=Q} (bc gC ws) M:=by
 rintro ws M Q ⟨d,rfl,hR,k⟩;refine⟨_,rfl,_,_,_,rfl,.d,.tuple,_,rfl,?_⟩;cases hs:lq d "tuple" with
 | false =>
  have:ud d=false:=by
   cases d with
   | tuple ds=>rw[ail] at hs;cases hs
   | _=>rfl
  rw[this] at k;exact ik k
 | true =>
  obtain⟨ds,rfl⟩:∃ ds,d=.tuple ds:=by
   cases d<;>simp[lq,tyD] at hs;exact⟨_,rfl⟩
  refine fo ⟨_,rfl,_,_,rfl,rfl,rfl,_,_,.d,.d,cT _ _,_,rfl,?_⟩
  by_cases h2:ds.length=2
  ·obtain⟨a,b,rfl⟩:=two_of h2;refine ux (by rw[cG];rfl) ⟨_,rfl,0,_,rfl,rfl,rfl,a,rfl,λ z e=>hR _ rfl z (by rw[e];rfl),_,rfl,?_⟩;have k':Q (.d (.bool (isW a&&inB 1 9 b))) M:=k;cases ha:isW a with
   | false=>rw[ha] at k';exact ik k'
   | true =>
    rw[ha,Bool.true_and] at k';exact fo ⟨_,rfl,1,_,rfl,rfl,rfl,b,1,9,rfl,k'⟩
  ·have:ud (.tuple ds)=false:=by
    unfold ud
    split
    ·rename_i e;cases e;exact absurd rfl h2
    ·rfl
   rw[this] at k;refine km ?_ k;rw[cG,decide_eq_false (λ z=>h2 (by omega))]
inductive Bad(d:PyData):Nat->Prop
 | no (h:∀ ds,d=.list ds->ds=[]):Bad d 0
 | row (S:Sh) (x:PyData) (r:List PyData) (e:d=.list (S.map bp++x::r)) (hS:OkE S) (hl:r.length<=100) (hx:Rs x) (hb:4<=S.length\/ud x=false\/∃ y,x=bp y/\y.1∈S.map (·.1)):Bad d S.length
inductive dH(ws:List W) (M:MH) (Q:QD) (E:XQ):Prop
 | ok (S:Sh) (z0:ws=[.d (shD S)]) (z1:OkS S) (z2:Q (.d .none) M):dH ws M Q E
 | no (d:PyData) (i:Nat) (z0:ws=[.d d]) (z1:Bad d i) (z2:∀ a,M a=none->E a (bf M a (.exc av [("at",.d (.int (i:Nat)))]))):dH ws M Q E
def aF:SpX:=dH
theorem iK:∀ ws M Q E,aF ws M Q E->ws.length=1:=by rintro ws M Q E (⟨S,rfl,_⟩ | ⟨d,i,rfl,_⟩)<;>rfl
def adL:TTd:=dOr (aW (dOp aga (ar 1) (dC (.d (.int 4))))) (dOr (sk (aW (bO bb (ah (ar 2) (aI))))) (aW (dOp (acQ false) (dOp dS (ar 2) (dC (.d (.int 0)))) (dLC (dh (dSl (ar 0) (dv) (hV (ar 1)))) (gN 0) (oJ) (dOp dS (ar 0) (dC (.d (.int 0)))) 1 []))))
theorem rj{ds:List PyData}{S:Sh}{i:Nat}{x:PyData}{M:MH}{Q:Bool->MH->Prop}(hi:i<=ds.length)(h10:S.length<=4)(ht:ds.take i=(S.take i).map bp)(hx:Rs x)(h1:4<=i->Q true M)(h2:i<4->ud x=false->Q true M)
  (h3:∀ y:Str×Nat,i<4->x=bp y->wd y.1=true->1<=y.2/\y.2<=9->Q (decide (y.1∈(S.take i).map (·.1))) M):adL [some (.d (.list ds)),some (.d (.int (i:Nat))),some (.d x)] M Q:=by
 refine⟨_,rfl,_,_,rfl,rfl,_,rfl,?_⟩
 by_cases h4:4<=i
 ·rw[decide_eq_true (show(4:Int)<=(i:Nat) by omega)];exact fo (h1 h4)
 rw[decide_eq_false (show ¬ (4:Int)<=(i:Nat) by omega)];refine ik ⟨_,rfl,x,rfl,hx,_,rfl,?_⟩;cases hb:ud x with
 | false=>exact fo (h2 (by omega) hb)
 | true =>
  obtain⟨y,rfl,hw,h5,h9⟩:=afu hb;refine ik ⟨_,rfl,0,_,rfl,rfl,rfl,_,rfl,_,rfl,_,rfl,_,rfl,rfl,_,rfl,?_⟩;rw[iF hi,ht,List.map_map];refine qR (S.take i) (W.d ∘ bp) (λ r=>.str r.1) (λ τ=>∃ x,τ=[x]) (by rw[List.length_take];omega) ⟨_,rfl⟩ (λ r' hr' τ hτ R h=>?_) (λ τ=>?_)
  ·obtain⟨x,rfl⟩:=hτ;exact⟨_,rfl,0,_,rfl,rfl,rfl,_,rfl,h _ ⟨_,rfl⟩⟩
  ·refine⟨y.1,(S.take i).map λ r=>r.1,rfl,?_,_,rfl,?_⟩
   ·have e:dG ((S.take i).map λ r=>r.1)=((S.take i).map λ r=>PyData.str r.1).map W.d:=by unfold dG;rw[List.map_map,List.map_map];rfl
    rw[e];exact .l
   ·rw[if_neg (by decide)];exact h3 y (by omega) rfl hw ⟨h5,h9⟩
theorem ach{ds:List PyData}{i:Nat}{w:W}(h:(nE ds)[i]? =some w):∃ x,ds[i]? =some x/\w=.d (.tuple [.int (i:Nat),x]):=by have:=sR (L:=ds) (f:=id) (by rw[List.map_id];exact h);exact this
theorem h8:∀ ws M Q E,aF ws M Q E->fN (λ a _ M=>E a M) bb {nx:=λ _ M'=>Q (.d .none) M',rt:=Q} (bc fR ws) M:=by
 rintro ws M Q E (⟨S,rfl,hO,k⟩ | ⟨d,i,rfl,hB,k⟩)
 ·refine⟨_,rfl,_,_,_,rfl,.d,.list,_,rfl,?_⟩;rw[show lq (shD S) "list" = true from afR _];refine ik ⟨_,rfl,_,.l,?_⟩;have hne:(!(S.map bp).isEmpty)=true:=by
   cases hs:S with
   | nil=>exact absurd hs hO.ne
   | cons _ _=>rfl
  refine km (by rw[hne];rfl) ⟨_,rfl,_,rfl,?_⟩;refine⟨λ i τ M'=>M'=M/\∃ x2 x3,τ=[some (.d (shD S)),x2,x3],⟨rfl,_,_,rfl⟩,?_,?_⟩
  ·rintro i w τ M' hw ⟨rfl,x2,x3,rfl⟩;obtain⟨r,hr,rfl⟩:=sR hw;have hi:=(List.getElem?_eq_some_iff.mp hr).1;have h4:=hO.len;have hrow:=hO.row r (List.mem_of_getElem? hr);refine⟨_,rfl,rfl,_,_,rfl,_,_,rfl,rfl,?_⟩;refine rj (S:=S) (by rw[List.length_map];omega) h4 (by rw[List.map_take]) (.row hrow.1) (λ z=>by omega) (λ _ z=>by rw[acV hrow.1 hrow.2.1 hrow.2.2] at z;cases z) λ y _ e _ _=>?_;have ey:y.1=r.1:=by unfold bp at e;injection e with e;injection e with e _;injection e with e;exact e.symm
   rw[ey];have hn:r.1 ∉ (S.take i).map (·.1):=by rw[List.map_take];exact nY hO.nd (by rw[List.getElem?_map,hr];rfl)
   rw[decide_eq_false hn];exact⟨rfl,_,_,rfl⟩
  ·rintro τ M' ⟨rfl,x2,x3,rfl⟩;exact k
 ·cases hB with
  | no h =>
   refine⟨_,rfl,_,_,_,rfl,.d,.list,_,rfl,?_⟩;cases hs:lq d "list" with
   | false=>exact fo (fo ⟨rfl,by simp,k⟩)
   | true =>
    obtain⟨ds,rfl⟩:∃ ds,d=.list ds:=by
     cases d<;>simp[lq,tyD] at hs;exact⟨_,rfl⟩
    cases h ds rfl;exact ik ⟨_,rfl,_,.l,fo ⟨rfl,by simp,k⟩⟩
  | row S x r e hS hl hx hb =>
   subst e;have h4:=hS.len;refine⟨_,rfl,_,_,_,rfl,.d,.list,_,rfl,?_⟩;rw[afR];refine ik ⟨_,rfl,_,.l,?_⟩;have hne:(!(S.map bp++x::r).isEmpty)=true:=by cases S<;>rfl
   refine km (by rw[hne];rfl) ⟨_,rfl,_,rfl,?_⟩;refine⟨λ i τ M'=>i<=S.length/\M'=M/\∃ x2 x3,τ=[some (.d (.list (S.map bp++x::r))),x2,x3],⟨Nat.zero_le _,rfl,_,_,rfl⟩,?_,?_⟩
   ·rintro i w τ M' hw ⟨hi,rfl,x2,x3,rfl⟩;obtain⟨y,hy,rfl⟩:=ach hw;refine⟨_,rfl,rfl,_,_,rfl,_,_,rfl,rfl,?_⟩;have hil:i<=(S.map bp++x::r).length:=by simp;omega
    have htk:(S.map bp++x::r).take i=(S.take i).map bp:=by rw[List.take_append_of_le_length (by rw[List.length_map];exact hi),List.map_take]
    by_cases hlt:i<S.length
    ·obtain⟨r',hr⟩:∃ r',S[i]? =some r':=⟨S[i],List.getElem?_eq_getElem hlt⟩;have ey:y=bp r':=by rw[List.getElem?_append_left (by rw[List.length_map];exact hlt),List.getElem?_map,hr] at hy;exact(Option.some.inj hy).symm
     subst ey;have hrow:=hS.row r' (List.mem_of_getElem? hr);refine rj (S:=S) hil h4 htk (.row hrow.1) (λ z=>by omega) (λ _ z=>by rw[acV hrow.1 hrow.2.1 hrow.2.2] at z;cases z) λ y _ e _ _=>?_;have ey:y.1=r'.1:=by unfold bp at e;injection e with e;injection e with e _;injection e with e;exact e.symm
     rw[ey];have hn:r'.1 ∉ (S.take i).map (·.1):=by rw[List.map_take];exact nY hS.nd (by rw[List.getElem?_map,hr];rfl)
     rw[decide_eq_false hn];exact⟨hlt,rfl,_,_,rfl⟩
    ·have ei:i=S.length:=by omega
     subst ei;have ey:y=x:=by rw[List.getElem?_append_right (by rw[List.length_map];exact Nat.le_refl _),List.length_map,Nat.sub_self] at hy;exact(Option.some.inj hy).symm
     subst ey;refine rj (S:=S) hil h4 htk hx (λ _=>⟨_,rfl,rfl,by simp,k⟩) (λ _ _=>⟨_,rfl,rfl,by simp,k⟩) λ y h5 e hw h9=>?_;have hin:y.1∈(S.take S.length).map (·.1):=by
      rw[List.take_length];rcases hb with hb | hb | ⟨y',e',hm⟩
      ·omega
      ·rw[e,acV hw h9.1 h9.2] at hb;cases hb
      ·have ey:y.1=y'.1:=by rw[e] at e';unfold bp at e';injection e' with e';injection e' with e' _;injection e'
       rw[ey];exact hm
     rw[decide_eq_true hin];exact⟨_,rfl,rfl,by simp,k⟩
   ·rintro τ M' ⟨hi,rfl,x2,x3,rfl⟩;have:(nE (S.map bp++x::r)).length=S.length+(r.length+1):=by simp[nE]
    omega
def dz:SpD:=λ ws M Q=>∃ u W s:Int,ws=[.d (.int u),.d (.int W),.d (.int s)]/\0<=W/\W<=1000/\1<=s/\s<=9/\Q (.d (.int (due W s u))) M
theorem uU:∀ ws M Q,dz ws M Q->ws.length=3:=by rintro ws M Q ⟨u,W,s,rfl,_⟩;rfl
theorem qQ:∀ ws M Q,dz ws M Q->tH {nx:=λ _ M'=>Q (.d .none) M',rt:=Q} (bc tE ws) M:=by
 rintro ws M Q ⟨u,W,s,rfl,h0,h1,h2,h3,k⟩;exact⟨_,rfl,.inl ⟨_,_,rfl,rfl,_,rfl,_,rfl,_,_,rfl,rfl,.inr ⟨by omega,by omega⟩,_,rfl,_,_,rfl,rfl,⟨by omega,by omega⟩,_,rfl,k⟩⟩
def kvL(N:List Str)(c:List Int):List (Key×W):=List.zipWith (λ z n=>((.inr z:Key),W.d (.int n))) N c
theorem jQ:∀ {N:List Str} {c:List Int} {i:Nat} {z:Str} {n:Int},N.Nodup->N[i]? =some z->c[i]? =some n->gR (kvL N c) (.inr z)=some (.d (.int n))
 | [],_,_,_,_,_,h,_=>by simp at h
 | _::_,[],_,_,_,_,_,h=>by simp at h
 | y::N,m::c,0,z,n,nd,h1,h2=>by simp at h1 h2;subst h1 h2;show gR (((.inr y:Key),W.d (.int m))::kvL N c) (.inr y)=_;rw[lb,if_pos rfl]
 | y::N,m::c,i+1,z,n,nd,h1,h2=>by have hz:z∈N:=List.mem_of_getElem? (by simpa using h1);have hne:y≠z:=λ e=>(List.nodup_cons.mp nd).1 (e ▸ hz);show gR (((.inr y:Key),W.d (.int m))::kvL N c) (.inr z)=_;rw[lb,if_neg λ e=>hne (Sum.inr.inj e)];exact jQ (List.nodup_cons.mp nd).2 (by simpa using h1) (by simpa using h2)
theorem vS:∀ {N:List Str} {c:List Int} {i:Nat},N.Nodup->N.length=c.length->N[i]? =some z->(kvL N c).map (λ p=>if p.1=(.inr z:Key) then (p.1,W.d (.int x)) else p)=kvL N (c.set i x)
 | [],_,_,_,_,h=>by simp at h
 | _::_,[],_,_,h,_=>by simp at h
 | y::N,m::c,0,nd,hl,h=>by
  simp at h;subst h;have hn:=(List.nodup_cons.mp nd).1;show((if ((.inr y:Key),W.d (.int m)).1=(.inr y:Key) then _ else _)::(kvL N c).map _)=((.inr y:Key),W.d (.int x))::kvL N c;rw[if_pos rfl];congr 1;have:∀ p∈kvL N c,p.1≠(.inr y:Key):=by intro p hp e;unfold kvL at hp;obtain⟨j,hj,ej⟩:=List.mem_iff_getElem.mp hp;rw[List.getElem_zipWith] at ej;subst ej;have:N[j]'(by simp at hj;omega)=y:=Sum.inr.inj e;exact hn (this ▸ List.getElem_mem _)
  conv=>rhs;rw[<- List.map_id (kvL N c)]
  refine List.map_congr_left λ p hp=>?_;rw[if_neg (this p hp)];rfl
 | y::N,m::c,i+1,nd,hl,h=>by have hz:z∈N:=List.mem_of_getElem? (by simpa using h);have hne:y≠z:=λ e=>(List.nodup_cons.mp nd).1 (e ▸ hz);show((if ((.inr y:Key),W.d (.int m)).1=(.inr z:Key) then _ else _)::(kvL N c).map _)=((.inr y:Key),W.d (.int m))::kvL N (c.set i x);rw[if_neg λ e=>hne (Sum.inr.inj e),vS (List.nodup_cons.mp nd).2 (by simpa using hl) (by simpa using h)]
theorem rO(nd:N.Nodup)(hl:N.length=c.length)(h:N[i]? =some z):vd (kvL N c) (.inr z) (.d (.int x))=kvL N (c.set i x):=by
 have hi:i<c.length:=by rw[<- hl];exact(List.getElem?_eq_some_iff.mp h).1
 unfold vd;rw[sE,jQ nd h (List.getElem?_eq_getElem hi),Option.isSome_some,if_pos rfl];exact vS nd hl h
theorem zF(hn:N.length=n)(hz:z ∉ N):vd (kvL N (List.replicate n 0)) (.inr z) (.d (.int 0))=kvL (N++[z]) (List.replicate (n+1) 0):=by
 have hno:∀ p∈kvL N (List.replicate n 0),decide (p.1=(.inr z:Key))=false:=by intro p hp;unfold kvL at hp;obtain⟨j,hj,ej⟩:=List.mem_iff_getElem.mp hp;rw[List.getElem_zipWith] at ej;subst ej;refine decide_eq_false λ e=>hz ?_;have:N[j]'(by simp at hj;omega)=z:=Sum.inr.inj e;exact this ▸ List.getElem_mem _
 unfold vd;rw[if_neg (by rw[Bool.not_eq_true,List.any_eq_false];intro p hp;simpa using hno p hp)];unfold kvL;rw[List.replicate_succ',List.zipWith_append (by simp[hn])];rfl
def nmL(S:Sh):List Str:=S.map (·.1)
theorem mV(h:S[i]? =some r):(nmL S)[i]? =some r.1/\nmS S i=r.1:=by
 have e:(nmL S)[i]? =some r.1:=by simp[nmL,List.getElem?_map,h]
 exact⟨e,by unfold nmS;rw[List.getD_eq_getElem?_getD];unfold nmL at e;rw[e];rfl⟩
theorem afr(h:S[i]? =some r):sv S i=(r.2:Nat):=by simp[sv,List.getD,List.getElem?_map,h]
theorem wM(h:i<c.length):c[i]? =some (cv c i):=by simp[cv,List.getD,List.getElem?_eq_getElem h]
def acD(S:Sh)(c:List Int)(t:Int)(j:Nat):Bool:=decide (cv c j * (wn S:Nat) / sv S j<=t)
def ly(S:Sh)(c:List Int)(t:Int)(n:Nat):List Nat:=(List.range n).filter (acD S c t)
def rdS(S:Sh)(j:Nat):PyData:=(S.map bp).getD j .none
theorem xo(h:S[j]? =some r):rdS S j=bp r:=by simp[rdS,List.getD,List.getElem?_map,h]
theorem pB(S:Sh)(c:List Int)(t:Int)(n:Nat):ly S c t (n+1)=if acD S c t n=true then ly S c t n++[n] else ly S c t n:=by
 unfold ly;rw[List.range_succ,List.filter_append];cases h:acD S c t n with
 | true=>simp[h]
 | false=>simp[h]
theorem jx:j∈ly S c t n ↔ j<n/\Rl S c t j:=by
 unfold ly acD Rl;simp
theorem acO:(ly S c t n).Pairwise (· < ·):=by
 unfold ly;exact List.Pairwise.sublist List.filter_sublist List.pairwise_lt_range
theorem ahI{l:List Nat}(h:l.Pairwise (· < ·)){i j a b:Nat}(hi:l[i]? =some a)(hj:l[j]? =some b)(hab:a<b):i<j:=by
 obtain⟨h1,e1⟩:=List.getElem?_eq_some_iff.mp hi;obtain⟨h2,e2⟩:=List.getElem?_eq_some_iff.mp hj;rcases Nat.lt_trichotomy i j with e | e | e
 ·exact e
 ·subst e;omega
 ·have:=List.pairwise_iff_getElem.mp h j i h2 h1 e;omega
theorem yO(hj:(ly S c t S.length)[i]? =some j)
  (hb:∀ m,m<(ly S c t S.length).length->Du S c ((ly S c t S.length).getD i 0)<=Du S c ((ly S c t S.length).getD m 0)/\(m<i->Du S c ((ly S c t S.length).getD i 0)<Du S c ((ly S c t S.length).getD m 0))):ub S c t j:=by
 have hm:=jx.mp (List.mem_of_getElem? hj);have ej:(ly S c t S.length).getD i 0=j:=by simp[List.getD,hj]
 refine⟨hm.1,hm.2,λ j' hj' hr'=>?_⟩;obtain⟨m,hm1,hm2⟩:=List.mem_iff_getElem.mp (jx.mpr ⟨hj',hr'⟩);have em:(ly S c t S.length)[m]? =some j':=by rw[List.getElem?_eq_getElem hm1,hm2]
 have e2:(ly S c t S.length).getD m 0=j':=by simp[List.getD,em]
 have h:=hb m hm1;rw[ej,e2] at h;exact⟨h.1,λ z=>h.2 (ahI acO em hj z)⟩
theorem aay(S:Sh)(t:Nat):rw0 S (t+1)=rw0 S t++[nmS S (own S t)]:=by
 unfold rw0;rw[List.range_succ,List.map_append];rfl
theorem vI(a:List Str)(z:Str):dG (a++[z])=dG a++[.d (.str z)]:=by simp[dG]
abbrev cdR:MO:=.code fg ⟨51,41,51,92⟩
def bo:SpD:=λ ws M Q=>∃ S:Sh,ws=[.d (shD S)]/\OkS S/\M aB=some cdR/\∀ p M',M p=none->M' p=some (.lst (dG (rw0 S (wn S))))->Ext M M'->Q (.m p) M'
theorem o7:∀ ws M Q,bo ws M Q->ws.length=1:=by rintro ws M Q ⟨S,rfl,_⟩;rfl
theorem mW:∀ ws M Q,bo ws M Q->mO dz {nx:=λ _ M'=>Q (.d .none) M',rt:=Q} (bc mz ws) M:=by
 rintro ws M Q ⟨S,rfl,hO,hC,k⟩;have sl:=s16;have wp:=tF hO;have h4:=hO.len;have nd:(nmL S).Nodup:=hO.nd;refine⟨_,rfl,_,rfl,?_⟩;rw[List.map_map];refine qR S (W.d ∘ bp) (λ r=>.int (r.2:Nat)) (λ τ=>∃ x y,τ=[x,y]) (by omega) ⟨_,_,rfl⟩ (λ r hr τ hτ R h=>?_) (λ τ=>?_)
 ·obtain⟨x,y,rfl⟩:=hτ;exact⟨_,rfl,rfl,_,_,rfl,_,_,rfl,rfl,_,rfl,_,rfl,h _ ⟨_,_,rfl⟩⟩
 have es:(S.map λ r=>PyData.int ((r.2:Nat):Int))=(ss S).map PyData.int:=by simp[ss]
 refine⟨_,ss S,rfl,by rw[es];exact .d,by simp[ss];omega,λ n hn=>?_,?_⟩
 ·obtain⟨r,hr,rfl⟩:=List.mem_map.mp hn;have:=(hO.row r hr).2;omega
 rw[aaN];refine⟨_,rfl,_,rfl,λ d hd=>?_⟩;refine⟨λ i τ M'=>M'=bf M d (.dic (kvL ((nmL S).take i) (List.replicate i 0)))/\∃ x y,τ=[x,y],⟨rfl,_,_,rfl⟩,?_,?_⟩
 ·rintro i w τ M' hw ⟨rfl,x,y,rfl⟩;rw[List.map_map] at hw;obtain⟨r,hr,rfl⟩:=fG hw;have hi:=(List.getElem?_eq_some_iff.mp hr).1;obtain⟨hn,_⟩:=mV hr;refine⟨_,rfl,rfl,_,_,rfl,_,_,rfl,rfl,_,rfl,_,.inr r.1,ag,rfl,?_,?_,_,_,rfl⟩
  ·have:(kvL ((nmL S).take i) (List.replicate i 0)).length<=i:=by simp[kvL];omega
   omega
  ·have ht:(nmL S).take (i+1)=(nmL S).take i++[r.1]:=by rw[List.take_succ,hn];rfl
   rw[hZ,zF (N:=(nmL S).take i) (by rw[List.length_take];simp[nmL];omega) (nY nd hn),ht]
 rintro τ M1 ⟨e1,x,y,rfl⟩;have hd1:M1 d=some (.dic (kvL (nmL S) (st S 0))):=by rw[e1,ag];have:(nmL S).take ((S.map bp).map W.d).length=nmL S:=List.take_of_length_le (by simp[nmL]);rw[this];simp[st]
 have x1:Ext M M1:=by rw[e1];exact Ext.new hd
 refine⟨few (by simp),λ a ha=>?_⟩;have da:d≠a:=λ e=>by rw[e,ha] at hd1;cases hd1
 have haM:M a=none:=by
  cases q:M a with
  | none=>rfl
  | some o=>rw[x1 a o q] at ha;cases ha
 refine⟨_,rfl,_,rfl,by omega,by omega,?_⟩;refine⟨λ t τ M'=>M' d=some (.dic (kvL (nmL S) (st S t)))/\M' a=some (.lst (dG (rw0 S t)))/\Ext M M'/\∃ x4 x5 x6 x7,τ=[some (.d (shD S)),some (.d (.int ((wn S:Nat):Int))),some (.m d),some (.m a),x4,x5,x6,x7],⟨by rw[aj da];exact hd1,ag,x1.trans (Ext.new ha),_,_,_,_,rfl⟩,?_,?_⟩
 ·rintro t w τ M2 hw ⟨md,ma,x2,x4,x5,x6,x7,rfl⟩;obtain⟨ht,rfl⟩:=ja hw;have ht:t<wn S:=by omega
  rw[Int.zero_add];have ok:=j6 hO t;have nl:(nmL S).length=(st S t).length:=by rw[ok.len];simp[nmL]
  have get:∀ {j r},S[j]? =some r->gR (kvL (nmL S) (st S t)) (.inr r.1)=some (.d (.int (cv (st S t) j))):=λ {j r} hj =>
   jQ nd (mV hj).1 (wM (by rw[ok.len];exact(List.getElem?_eq_some_iff.mp hj).1))
  refine⟨_,rfl,_,rfl,?_⟩;refine⟨λ i acc τ M'=>M'=M2/\acc=(ly S (st S t) t i).map (rdS S)/\∃ x y,τ=[x,y,some (.m d),some (.d (.int ((wn S:Nat):Int))),some (.d (.int (t:Int)))],⟨rfl,rfl,_,_,rfl⟩,?_,?_⟩
  ·rintro i w acc τ M' hw ⟨rfl,rfl,x,y,rfl⟩;rw[List.map_map] at hw;obtain⟨r,hr,rfl⟩:=fG hw;have hi:=(List.getElem?_eq_some_iff.mp hr).1;have hrow:=hO.row r (List.mem_of_getElem? hr);have hacc:((ly S (st S t) t i).map (rdS S)).length<=i:=by rw[List.length_map];have:=List.length_filter_le (acD S (st S t) t) (List.range i);rw[List.length_range] at this;exact this
   refine⟨by omega,_,rfl,rfl,_,_,rfl,_,_,rfl,rfl,?_⟩;have eb:acD S (st S t) t i=decide (cv (st S t) i * ((wn S:Nat):Int) / ((r.2:Nat):Int)<=(t:Int)):=by unfold acD;rw[afr hr]
   refine⟨_,rfl,_,rfl,d,_,.inr r.1,_,rfl,.inl md,rfl,get hr,_,rfl,_,_,rfl,rfl,.inr ⟨by omega,by omega⟩,_,rfl,_,_,rfl,rfl,⟨by omega,by omega⟩,_,rfl,.inl ⟨_,_,rfl,rfl,_,rfl,?_⟩⟩;refine ia (λ h=>?_) (λ h=>?_)
   ·refine⟨_,rfl,_,rfl,_,rfl,few (by simp),_,rfl,rfl,?_,_,_,rfl⟩;rw[pB,if_pos (eb.trans h),List.map_append];show _=_++[rdS S i];rw[xo hr];rfl
   ·refine⟨rfl,?_,_,_,rfl⟩;rw[pB,if_neg (by rw[eb.trans h];decide)]
  ·rintro acc τ M' ⟨rfl,rfl,x,y,rfl⟩;rw[List.length_map,List.length_map];have hb:=la hO t;have hne:(ly S (st S t) t S.length).map (rdS S)≠[]:=by intro e;have hm:=jx.mpr ⟨hb.1,hb.2.1⟩;rw[List.map_eq_nil_iff.mp e] at hm;cases hm
   refine⟨_,rfl,_,rfl,hne,x2 _ _ hC,λ i=>Du S (st S t) ((ly S (st S t) t S.length).getD i 0),λ i d' hd'=>?_,λ i d' hd' hbest=>?_⟩
   ·obtain⟨j,hj,rfl⟩:=fG hd';have hjn:=(jx.mp (List.mem_of_getElem? hj)).1;obtain⟨r,hr⟩:∃ r,S[j]? =some r:=⟨_,List.getElem?_eq_getElem hjn⟩;have hrow:=hO.row r (List.mem_of_getElem? hr);have ej:(ly S (st S t) t S.length).getD i 0=j:=by simp[List.getD,hj]
    rw[xo hr];refine⟨_,rfl,_,rfl,0,_,rfl,rfl,rfl,d,_,.inr r.1,_,rfl,.inl md,rfl,get hr,_,rfl,_,rfl,1,_,rfl,rfl,rfl,cv (st S t) j,(wn S:Nat),(r.2:Nat),rfl,by omega,by omega,by omega,by omega,?_,rfl⟩;show W.d (.int (due _ _ _))=W.d (.int (Du S (st S t) _));rw[ej];unfold Du;rw[afr hr]
   ·obtain⟨j,hj,rfl⟩:=fG hd';have hB:ub S (st S t) t j:=yO hj λ m hm=>hbest m (by rw[List.length_map];exact hm);have hpk:pk S (st S t) t=j:=agn hB;obtain⟨r,hr⟩:∃ r,S[j]? =some r:=⟨_,List.getElem?_eq_getElem hB.1⟩;rw[xo hr];refine⟨_,rfl,rfl,_,_,rfl,_,_,rfl,rfl,?_⟩;refine⟨_,rfl,_,rfl,d,_,.inr r.1,_,rfl,rfl,md,get hr,?_,1,rfl,rfl,?_⟩
    ·have:(kvL (nmL S) (st S t)).length<=4:=by simp[kvL,nmL];omega
     omega
    rw[rO nd nl (mV hr).1];have est:(st S t).set j (cv (st S t) j+1)=st S (t+1):=by rw[<- hpk];rfl
    rw[est];refine⟨_,rfl,a,_,rfl,by rw[aj (Ne.symm da)];exact ma,_,rfl,_,by rw[aj (Ne.symm da)];exact ma,?_,?_⟩
    ·have:(dG (rw0 S t)).length=t:=by simp[dG,rw0]
     omega
    refine⟨by rw[aj da,ag],?_,λ b o e=>?_,_,_,_,_,rfl⟩
    ·rw[ag,aay,vI];have:own S t=j:=hpk;rw[this,(mV hr).2]
    ·have b1:b≠a:=λ z=>by rw[z,haM] at e;cases e
     have b2:b≠d:=λ z=>by rw[z,hd] at e;cases e
     rw[aj b1,aj b2];exact x2 b o e
 ·rintro τ M2 ⟨md,ma,x2,x4,x5,x6,x7,rfl⟩;have el:(ij 0 ((wn S:Nat):Int).toNat).length=wn S:=by simp[ij]
  rw[el] at ma;exact⟨_,rfl,k a M2 haM ma x2⟩
theorem my:∀ (cs:List Nat) (acc:Array Nat),((cs.map λ c=>(⟨#[c]⟩:Str)).foldl (λ acc p=>acc++("" : Str).cps++p.cps) acc).toList=acc.toList++cs
 | [],acc=>by simp
 | c::cs,acc=>by
  have e:("" : Str).cps = #[]:=by decide +kernel
  rw[List.map_cons,List.foldl_cons,my cs];rw[e];simp
theorem uD(cs:List Nat):(Txt.join "" (cs.map λ c=>(⟨#[c]⟩:Str))).cps.toList=cs:=by
 cases cs with
 | nil=>simp[Txt.join,Builtin.Str.glued,Str.empty]
 | cons c cs =>
  show(((cs.map λ c=>(⟨#[c]⟩:Str)).foldl (λ acc p=>acc++("" : Str).cps++p.cps) #[c])).toList=_;rw[my];rfl
theorem rg:∀ c∈jd.cps.toList,ck c=true:=by decide +kernel
theorem xT(cs:List Nat):((cs.map λ c=>(⟨#[c]⟩:Str)).map (·.length)).sum=cs.length:=by
 induction cs with
 | nil=>rfl
 | cons c cs ih =>
  simp only[List.map_cons,List.sum_cons,ih,List.length_cons];show 1+cs.length=_;omega
theorem kN(x y:Str):(x++y).cps.toList=x.cps.toList++y.cps.toList:=by show(x.cps++y.cps).toList=_;simp
theorem kJ{z:Str}{lo hi:Option Int}{c:Nat}(hc:c∈(Txt.slice z lo hi).cps.toList):c∈z.cps.toList:=by
 unfold Txt.slice at hc
 split at hc
 ·exact hc
 ·have hc':c∈(Builtin.Str.strSliceIndices lo hi 1 z.length).filterMap (z.cps[·]?):=by simpa using hc
  obtain⟨i,_,e⟩:=List.mem_filterMap.mp hc'
  simpa using Array.mem_of_getElem? e
theorem nH{z:Str}{lo hi:Option Int}:(Txt.slice z lo hi).length<=(Builtin.Str.strSliceIndices lo hi 1 z.length).length:=by
 unfold Txt.slice
 split
 ·rename_i h
  simp at h;omega
 ·show(List.filterMap _ _).toArray.size<=_;rw[List.size_toArray];exact List.length_filterMap_le _ _
theorem two_parts{z:Str}{a:Int}(h0:0<=a)(h1:a<=z.length):(Txt.slice z none (some a)).length+(Txt.slice z (some a) none).length<=z.length:=by
 have e1:=nH (z:=z) (lo:=none) (hi:=some a);have e2:=nH (z:=z) (lo:=some a) (hi:=none);have f1:(Builtin.Str.strSliceIndices none (some a) 1 z.length).length<=a.toNat:=by
  unfold Builtin.Str.strSliceIndices sliceRange;simp only[show(1:Int) > 0 by decide,if_true,List.length_map,List.length_range]
  split<;>(try split)<;>(try split)<;>(try simp only[Int.ediv_one])<;>omega
 have f2:(Builtin.Str.strSliceIndices (some a) none 1 z.length).length<=z.length-a.toNat:=by
  unfold Builtin.Str.strSliceIndices sliceRange;simp only[show(1:Int) > 0 by decide,if_true,List.length_map,List.length_range]
  split<;>(try split)<;>(try split)<;>(try simp only[Int.ediv_one])<;>omega
 omega
def p8:List Int:=[1,3,5,7,9,25]
theorem zf:∀ r<26,jd.cps.toList[r]? =some (97+r):=by decide +kernel
theorem abP(h0:0<=i)(h1:i<26):ixW M (.d (.str jd)) i=some (.d (.str ⟨#[97+i.toNat]⟩)):=by obtain⟨n,rfl⟩:=Int.eq_ofNat_of_zero_le h0;simp only[ixW];rw[ng (zf n (by omega))];rfl
theorem rf:∀ a<26,∀ s∈[1,3,5,7,9,25],∀ i<4,∀ j<4,(a+s * i) % 26=(a+s * j) % 26->i=j:=by decide +kernel
theorem uI:∀ r<26,ck (97+r)=true:=by decide +kernel
def kz(z:Str)(pl:Int)(c:Nat):Str:=Txt.slice z none (some pl)++(⟨#[c]⟩:Str)++Txt.slice z (some pl) none
theorem vZ(h:kz z pl c=kz z pl d):c=d:=by
 have e:=congrArg (λ x:Str=>x.cps.toList) h;simp only[kz,kN] at e;have e2:=List.append_cancel_right e;have e3:=List.append_cancel_left e2;have e4:[c]=[d]:=e3
 simpa using e4
theorem zr{z:Str}{pl:Int}{c:Nat}(hz:∀ x∈z.cps.toList,ck x=true)(hl:z.length<=7)(h0:0<=pl)(h1:pl<=z.length)(hc:ck c=true):wd (kz z pl c)=true:=by
 have e:(kz z pl c).cps.toList=(Txt.slice z none (some pl)).cps.toList++[c]++(Txt.slice z (some pl) none).cps.toList:=by simp only[kz,kN]
 have el:(kz z pl c).length=(Txt.slice z none (some pl)).length+1+(Txt.slice z (some pl) none).length:=by rw[<- str_len,e,List.length_append,List.length_append,str_len,str_len];rfl
 have:=two_parts h0 h1;unfold wd;rw[decide_eq_true (show 1<=(kz z pl c).length by omega),decide_eq_true (show(kz z pl c).length<=8 by omega),Bool.true_and,Bool.true_and,List.all_eq_true];intro x hx;rw[e] at hx;rcases List.mem_append.mp hx with hx | hx
 ·rcases List.mem_append.mp hx with hx | hx
  ·exact hz x (kJ hx)
  ·rw[List.mem_singleton.mp hx];exact hc
 ·exact hz x (kJ hx)
def Fr(M M':MH)(p:Addr):Prop:=∀ q o,q≠p->M q=some o->M' q=some o
theorem Fr.trans(h:Fr A B p)(k:Fr B C p):Fr A C p:=λ q o n e=>k q o n (h q o n e)
theorem Fr.of(h:∀ q,q≠p->M' q=M q):Fr M M' p:=λ q o n e=>by rw[h q n];exact e
theorem Fr.ext(h:Ext M M'):Fr M M' p:=λ q o _ e=>h q o e
def sgn(at' st':Int)(j:Nat):Nat:=97+((at'+st' * j) % 26).toNat
theorem adm(a0:0<=at')(a1:at'<26)(hs:st'∈p8)(hi:i<4)(hj:j<4)(h:sgn at' st' i=sgn at' st' j):i=j:=by
 obtain⟨a,rfl⟩:=Int.eq_ofNat_of_zero_le a0;have hs0:∀ s∈p8,0<=s/\s.toNat∈[1,3,5,7,9,25]:=by decide
 obtain⟨s0,sm⟩:=hs0 st' hs;obtain⟨s,rfl⟩:=Int.eq_ofNat_of_zero_le s0;unfold sgn at h;refine rf a (by omega) s (by simpa using sm) i hi j hj ?_;have e:∀ k:Nat,(((a:Nat):Int)+((s:Nat):Int) * ((k:Nat):Int)) % 26=(((a+s * k) % 26:Nat):Int):=λ k=>by rw[<- Int.natCast_mul,<- Int.natCast_add];rfl
 rw[e,e] at h;omega
def bF:SpD:=λ ws M Q=>∃ p:Addr,ws=[.m p]/\Bag M p/\∀ (S:Sh) M',OkS S->Bag M' p->Fr M M' p->Q (.d (shD S)) M'
theorem oM:∀ ws M Q,bF ws M Q->ws.length=1:=by rintro ws M Q ⟨p,rfl,_⟩;rfl
inductive ShP(z:Str) (at' st' pl:Int) (p a:Addr) (M:MH) (i:Nat) (τ:DS) (M':MH):Prop
 | mk (z0:Bag M' p) (z1:Fr M M' p) (R:Sh) (z2:M' a=some (.lst ((R.map bp).map W.d))) (z3:R.length=i) (z4:∀ j r,R[j]? =some r->r.1=kz z pl (sgn at' st' j)/\1<=r.2/\r.2<=9) (x7 x8 x9 x10:Option W) (z5:τ=[some (.m p),some (.d (.str jd)),some (.d (.str z)),some (.d (.int at')),some (.d (.int st')),some (.d (.int pl)),some (.m a),x7,x8,x9,x10]):ShP z at' st' pl p a M i τ M'
theorem nP:∀ ws M Q,bF ws M Q->lV ay {nx:=λ _ M'=>Q (.d .none) M',rt:=Q} (bc mr ws) M:=by
 rintro ws M Q ⟨p,rfl,hb,k⟩;have s16':=s16;have e0:("" : Str).length=0:=by decide +kernel
 have fitA:yG (.d (.str jd))=true:=by decide +kernel
 refine⟨⟨_,rfl⟩,_,rfl,p,8,rfl,hb,by decide,by decide,λ n M1 n0 n1 b1 f1=>⟨n,rfl,by omega,by omega,?_⟩⟩;dsimp only;refine⟨λ i acc τ M'=>Bag M' p/\(∀ q,q≠p->M' q=M q)/\(∃ cs:List Nat,acc=cs.map (λ c=>PyData.str ⟨#[c]⟩)/\cs.length=i/\∀ c∈cs,ck c=true)/\∃ x,τ=[x,some (.d (.str jd)),some (.m p)],⟨b1,f1,⟨[],rfl,rfl,λ _ h=>nomatch h⟩,_,rfl⟩,?_,?_⟩
 ·rintro i w acc τ M' hw ⟨b,f,⟨cs,rfl,hl,hc⟩,x,rfl⟩;obtain⟨hi,rfl⟩:=ja hw;refine⟨by rw[List.length_map];omega,_,rfl,_,rfl,p,26,rfl,b,by decide,by decide,λ r M3 r0 r1 b3 f3=>?_⟩;obtain⟨c,hc1,hm⟩:=wB (M:=M3) (z:=jd) r0 (by rw[aeT];exact r1);refine⟨r,_,rfl,hc1,fitA,_,rfl,b3,λ q hq=>(f3 q hq).trans (f q hq),⟨cs++[c],by simp,by simp[hl],λ c' h'=>?_⟩,_,rfl⟩;rcases List.mem_append.mp h' with h' | h'
  ·exact hc c' h'
  ·rw[List.mem_singleton.mp h'];exact rg c hm
 rintro acc τ M2 ⟨b2,f2,⟨cs,rfl,hl,hc⟩,x,rfl⟩;simp only[ij,List.length_map,List.length_range] at hl;refine⟨"",cs.map λ c=>⟨#[c]⟩,rfl,by rw[List.map_map];rfl,by rw[xT,e0];omega,?_⟩;have hz:=uD cs;have hzl:(Txt.join "" (cs.map λ c=>(⟨#[c]⟩:Str))).length=cs.length:=by rw[<- str_len,hz]
 generalize Txt.join "" (cs.map λ c=>(⟨#[c]⟩:Str))=z at hz hzl;have hzs:∀ x∈z.cps.toList,ck x=true:=by rw[hz];exact hc
 have fitZ:yG (.d (.str z))=true:=decide_eq_true (by omega);refine⟨_,rfl,p,26,rfl,b2,by decide,by decide,λ at' M3 a0 a1 b3 f3=>?_⟩;refine⟨_,rfl,few (by simp),_,rfl,p,6,rfl,b3,by decide,by decide,λ r M4 r0 r1 b4 f4=>?_⟩;obtain⟨st',es,hs⟩:=pN (M:=M4) (ns:=p8) r0 (by simpa [p8] using r1);have hs25:0<=st'/\st'<=25:=by
  have:∀ s∈p8,0<=s/\s<=25:=by decide
  exact this st' hs
 refine⟨r,_,rfl,es,rfl,?_⟩;refine⟨_,rfl,_,rfl,_,_,rfl,rfl,fitZ,.inl ⟨_,_,rfl,rfl,p,_,rfl,b4,by omega,by omega,λ pl M5 p0 p1 b5 f5=>?_⟩⟩;refine⟨few (by simp),λ a ha=>?_⟩;have pa:p≠a:=λ e=>by obtain⟨o,ho⟩:=abI b5;rw[e,ha] at ho;cases ho
 have F5:Fr M M5 p:=Fr.of λ q hq=>by rw[f5 q hq,f4 q hq,f3 q hq,f2 q hq]
 refine⟨_,rfl,p,4,rfl,fD b5 (aj pa),by decide,by decide,λ c M6 c0 c1 b6 f6=>.inl ⟨_,_,rfl,rfl,1+c,rfl,by omega,by omega,?_⟩⟩;refine⟨λ i τ M'=>ShP z at' st' pl p a M i τ M',⟨b6,λ q o nq e=>?_,[],?_,rfl,λ j r h=>by simp at h,_,_,_,_,rfl⟩,?_,?_⟩
 ·have qa:q≠a:=λ z=>by have:=F5 q o nq e;rw[z,ha] at this;cases this
  rw[f6 q nq,aj qa];exact F5 q o nq e
 ·rw[f6 a (Ne.symm pa),ag];rfl
 ·rintro i w τ M' hw ⟨b,f,R,ma,hR,hr,x7,x8,x9,x10,rfl⟩;obtain⟨hi,rfl⟩:=ja hw;rw[Int.zero_add];have hi4:i<4:=by omega
  have hmod:=Int.emod_nonneg (at'+st' * (i:Int)) (show(26:Int)≠0 by decide);have hmod2:=Int.emod_lt_of_pos (at'+st' * (i:Int)) (show(0:Int)<26 by decide);refine⟨_,rfl,_,rfl,_,rfl,_,rfl,_,_,rfl,rfl,.inl ⟨by omega,by omega⟩,.inl ⟨_,_,rfl,rfl,_,_,rfl,rfl,show(0:Int)<26 by decide,_,_,rfl,abP hmod hmod2,fitA,?_⟩⟩;have lc:(⟨#[sgn at' st' i]⟩:Str).length=1:=rfl;have l1:=PySem.Txt.slice_le z none (some pl);have l2:=PySem.Txt.slice_le z (some pl) none;refine⟨_,rfl,_,rfl,_,rfl,_,rfl,fitZ,_,rfl,.inr ⟨_,_,rfl,rfl,?_,_,rfl,_,rfl,_,rfl,_,rfl,fitZ,.inr ⟨_,_,rfl,rfl,?_,?_⟩⟩⟩
  ·show(Txt.slice z none (some pl)).length+(⟨#[sgn at' st' i]⟩:Str).length<=sizeLine;rw[lc];omega
  ·show(Txt.slice z none (some pl)++(⟨#[sgn at' st' i]⟩:Str)).length+_<=sizeLine;rw[len_app,lc];omega
  refine⟨_,rfl,p,9,rfl,b,by decide,by decide,λ v1 M7 v10 v11 b7 f7=>.inl ⟨_,_,rfl,rfl,_,rfl,p,3,rfl,b7,by decide,by decide,λ v2 M8 v20 v21 b8 f8=>.inl ⟨_,_,rfl,rfl,_,rfl,few (by simp),?_⟩⟩⟩;have ma8:M8 a=some (.lst ((R.map bp).map W.d)):=by rw[f8 a (Ne.symm pa),f7 a (Ne.symm pa)];exact ma
  refine⟨_,rfl,a,_,rfl,ma8,_,rfl,_,rfl,_,rfl,p,4,rfl,b8,by decide,by decide,λ r M9 r0 r1 b9 f9=>?_⟩;have ma9:M9 a=some (.lst ((R.map bp).map W.d)):=by rw[f9 a (Ne.symm pa)];exact ma8
  obtain⟨v,ev,hv⟩:=pN (M:=M9) (ns:=[1+v1,1,9,1+v2]) r0 (by simpa using r1);have hv9:1<=v/\v<=9:=by simp only[List.mem_cons,List.not_mem_nil,or_false] at hv;rcases hv with rfl | rfl | rfl | rfl<;>omega
  obtain⟨vn,rfl⟩:=Int.eq_ofNat_of_zero_le (show 0<=v by omega);refine⟨r,_,rfl,ev,rfl,_,rfl,few (by simp),_,ma9,by simp;omega,fD b9 (aj pa),λ q o nq e=>?_,R++[(kz z pl (sgn at' st' i),vn)],?_,by simp[hR],λ j r' h=>?_,_,_,_,_,rfl⟩
  ·have qa:q≠a:=λ z'=>by have:=F5 q o nq e;rw[z',ha] at this;cases this
   rw[aj qa,f9 q nq,f8 q nq,f7 q nq];exact f q o nq e
  ·rw[ag,List.map_append,List.map_append];rfl
  ·by_cases hj:j<R.length
   ·rw[List.getElem?_append_left hj] at h;exact hr j r' h
   ·rw[List.getElem?_append_right (by omega)] at h;have hlt:=(List.getElem?_eq_some_iff.mp h).1;simp at hlt;have ej:j=i:=by omega
    subst ej;rw[hR,Nat.sub_self] at h;simp at h;subst h;exact⟨rfl,by omega,by omega⟩
 ·rintro τ M' ⟨b,f,R,ma,hR,hr,x7,x8,x9,x10,rfl⟩;simp only[ij,List.length_map,List.length_range] at hR;have hRl:1<=R.length/\R.length<=4:=by omega
  refine⟨_,rfl,a,_,rfl,ma,k R _ ⟨λ e=>by rw[e] at hRl;simp at hRl,hRl.2,λ r hm=>?_,?_⟩ ?_ ?_⟩
  ·obtain⟨j,hj,e⟩:=List.mem_iff_getElem.mp hm;obtain⟨h1,h2,h3⟩:=hr j r (by rw[<- e];exact List.getElem?_eq_getElem hj);refine⟨?_,h2,h3⟩;rw[h1];refine zr hzs (by omega) p0 (by omega) (uI _ ?_);have:=Int.emod_lt_of_pos (at'+st' * (j:Int)) (show(0:Int)<26 by decide);omega
  ·rw[List.nodup_iff_pairwise_ne,List.pairwise_iff_getElem];intro i j hi hj hij e;rw[List.getElem_map,List.getElem_map] at e;have hi':i<R.length:=by simpa using hi
   have hj':j<R.length:=by simpa using hj
   rw[(hr i _ (List.getElem?_eq_getElem hi')).1,(hr j _ (List.getElem?_eq_getElem hj')).1] at e;have:=adm a0 a1 hs (by omega) (by omega) (vZ e);omega
  ·refine fD b ?_;simp only[pf,if_neg pa]
  ·intro q o nq e;have qa:q≠a:=λ z'=>by have:=F5 q o nq e;rw[z',ha] at this;cases this
   simp only[pf,if_neg qa];exact f q o nq e
theorem abw(h:t<m):(dG (rw0 S m))[t]? =some (.d (.str (nmS S (own S t)))):=by simp[dG,rw0,List.getElem?_map,List.getElem?_range h]
theorem acF(hn:N.length=c.length)(hz:z ∉ N):vd (kvL N c) (.inr z) (.d (.int x))=kvL (N++[z]) (c++[x]):=by
 have hno:∀ p∈kvL N c,decide (p.1=(.inr z:Key))=false:=by intro p hp;unfold kvL at hp;obtain⟨j,hj,ej⟩:=List.mem_iff_getElem.mp hp;rw[List.getElem_zipWith] at ej;subst ej;refine decide_eq_false λ e=>hz ?_;have:N[j]'(by simp at hj;omega)=z:=Sum.inr.inj e;exact this ▸ List.getElem_mem _
 unfold vd;rw[if_neg (by rw[Bool.not_eq_true,List.any_eq_false];intro p hp;simpa using hno p hp)];unfold kvL;rw[List.zipWith_append hn];rfl
theorem vC(S:Sh)(u:List Int):(kvL (nmL S) u).length<=S.length:=by simp[kvL,nmL];omega
abbrev FD(q r:Addr)(t:Int)(v:W):List (Str×W):=[("asks_waiting",.m q),("owner_round",.m r),("next_slot",.d (.int t)),("number_led",v)]
section
variable {q r:Addr}{t:Int}{v:W}
theorem aa3:(FD q r t v).lookup ("asks_waiting" : Str)=some (.m q):=rfl
theorem agY:(FD q r t v).lookup ("owner_round" : Str)=some (.m r):=rfl
theorem ahK:(FD q r t v).lookup ("next_slot" : Str)=some (.d (.int t)):=rfl
theorem ajt:(FD q r t v).lookup ("number_led" : Str)=some v:=rfl
theorem aja:(FD q r t v).lookup ("number_next" : Str)=none:=rfl
theorem ah1:(FD q r t v).lookup ("begin" : Str)=none:=rfl
theorem abR:(FD q r t v).lookup ("new_shares" : Str)=none:=rfl
theorem afQ:(FD q r t v).lookup ("waits" : Str)=none:=rfl
theorem af7:(FD q r t v).lookup ("is_waited_at" : Str)=none:=rfl
theorem adZ:(FD q r t v).lookup ("owner" : Str)=none:=rfl
theorem ahm:(FD q r t v).lookup ("ask" : Str)=none:=rfl
theorem afT:(FD q r t v).lookup ("slot" : Str)=none:=rfl
theorem ah4:(FD q r t v).lookup ("lead" : Str)=none:=rfl
theorem adO:(FD q r t v).lookup ("use" : Str)=none:=rfl
end
structure Dr(M:MH)(S:Sh)(d q r:Addr)(u:List Int)(t:Int)(v:W):Prop where
 hd:M d=some (.ins ao (FD q r t v))
 hq:M q=some (.dic (kvL (nmL S) u))
 hr:M r=some (.lst (dG (rw0 S (wn S))))
 lu:u.length=S.length
section
variable {M:MH}{S:Sh}{d q r:Addr}{u:List Int}{t:Int}{v:W}
theorem Dr.nq(h:Dr M S d q r u t v):d≠q:=agX h.hd h.hq nofun
theorem Dr.qr(h:Dr M S d q r u t v):q≠r:=agX h.hq h.hr nofun
theorem Dr.ext(h:Dr M S d q r u t v)(x:Ext M M'):Dr M' S d q r u t v:=⟨x _ _ h.hd,x _ _ h.hq,x _ _ h.hr,h.lu⟩
theorem Dr.get(h:Dr M S d q r u t v)(hO:OkS S)(hz:(nmL S)[i]? =some z):gR (kvL (nmL S) u) (.inr z)=some (.d (.int (cv u i))):=
 jQ hO.nd hz (wM (by rw[h.lu];have:=(List.getElem?_eq_some_iff.mp hz).1;simpa [nmL] using this))
end
def bR:SpD:=λ ws M Q=>∃ (d q r:Addr) (t:Int) (v:W),ws=[.m d]/\M d=some (.ins ao (FD q r t v))/\Q (.d .none) (bf M d (.ins ao (FD q r 0 v)))
theorem lP:∀ ws M Q,bR ws M Q->ws.length=1:=by rintro ws M Q ⟨d,q,r,t,v,rfl,_⟩;rfl
theorem kI:∀ ws M Q,bR ws M Q->jj {nx:=λ _ M'=>Q (.d .none) M',rt:=Q} (bc i6 ws) M:=by
 rintro ws M Q ⟨d,q,r,t,v,rfl,hd,k⟩;exact⟨_,rfl,d,_,rfl,hd,(by show 4<1000;decide),k⟩
inductive de(ws:List W) (M:MH) (Q:QD) (E:XQ):Prop
 | mk (S:Sh) (d q r:Addr) (t:Int) (v:W) (kvs:List (Key×W)) (u:List Int) (z0:ws=[.m d,.d (shD S)]) (z1:OkS S) (z2:M aB=some cdR) (z3:M d=some (.ins ao (FD q r t v))) (z4:M q=some (.dic kvs)) (z5:u.length=S.length) (z6:(∀ i z,(nmL S)[i]? =some z->(gR kvs (.inr z)).getD (.d (.int 0))=.d (.int (cv u i)))) (z7:∀ q' r' M',M q'=none->M r'=none->Dr M' S d q' r' u 0 v->Fr M M' d->Q (.d .none) M'):de ws M Q E
 | no (d:Addr) (fs:List (Str×W)) (x:PyData) (i:Nat) (z0:ws=[.m d,.d x]) (z1:Bad x i) (z2:∀ a,M a=none->E a (bf M a (.exc av [("at",.d (.int (i:Nat)))]))):de ws M Q E
def aD:SpX:=de
theorem gU:∀ ws M Q E,aD ws M Q E->ws.length=2:=by rintro ws M Q E (⟨S,d,q,r,t,v,kvs,u,rfl,_⟩ | ⟨d,fs,x,i,rfl,_⟩)<;>rfl
theorem gw:∀ ws M Q E,aD ws M Q E->eS (λ a _ M=>E a M) aF bo bR {nx:=λ _ M'=>Q (.d .none) M',rt:=Q} (bc ff ws) M:=by
 rintro ws M Q E (⟨S,d,q,r,t,v,kvs,u,rfl,hO,hC,hd,hq,lu,hu,k⟩ | ⟨d,fs,x,i,rfl,hB,k⟩)
 case no=>exact⟨_,rfl,.no x i rfl hB k⟩
 have sl:=s16;have h4:=hO.len;have nd:(nmL S).Nodup:=hO.nd;have nl:(nmL S).length=S.length:=by simp[nmL]
 refine⟨_,rfl,.ok S rfl hO ⟨_,rfl,_,rfl,λ p hp=>?_⟩⟩;have pd:d≠p:=bC hd hp;refine⟨λ i τ M'=>M'=bf M p (.dic (kvL ((nmL S).take i) (u.take i)))/\∃ x y,τ=[x,y,some (.m d)],⟨rfl,_,_,rfl⟩,?_,?_⟩
 ·rintro i w τ M' hw ⟨rfl,x,y,rfl⟩;rw[List.map_map] at hw;obtain⟨r',hr,rfl⟩:=fG hw;have hi:=(List.getElem?_eq_some_iff.mp hr).1;obtain⟨hn,_⟩:=mV hr;refine⟨_,rfl,rfl,_,_,rfl,_,_,rfl,rfl,_,rfl,_,rfl,d,_,_,rfl,cu hd hp,aa3,.k (cu hq hp),_,rfl,_,.k (k:=.inr r'.1) (cu hq hp),_,.inr r'.1,ag,rfl,?_,?_,_,_,rfl⟩
  ·have:(kvL ((nmL S).take i) (u.take i)).length<=i:=by simp[kvL];omega
   omega
  ·have ht:(nmL S).take (i+1)=(nmL S).take i++[r'.1]:=by rw[List.take_succ,hn];rfl
   have hu':u.take (i+1)=u.take i++[cv u i]:=by rw[List.take_succ,wM (by omega)];rfl
   rw[hZ,hu i r'.1 hn,acF (by rw[List.length_take,List.length_take];omega) (nY nd hn),ht,hu']
 rintro τ M1 ⟨e1,x,y,rfl⟩;have hp1:M1 p=some (.dic (kvL (nmL S) u)):=by rw[e1,ag];have e2:(nmL S).take ((S.map bp).map W.d).length=nmL S:=List.take_of_length_le (by simp[nmL]);have e3:u.take ((S.map bp).map W.d).length=u:=List.take_of_length_le (by simp[lu]);rw[e2,e3]
 have x1:Ext M M1:=by rw[e1];exact Ext.new hp
 refine⟨_,rfl,d,_,rfl,x1 _ _ hd,(by show 4<1000;decide),?_⟩;have hC1:(bf M1 d (.ins ao (FD p r t v))) aB=some cdR:=by rw[aj (agX hC hd nofun)];exact x1 _ _ hC
 refine⟨_,rfl,S,rfl,hO,hC1,λ a M3 ha ma x3=>?_⟩;have hd3:M3 d=some (.ins ao (FD p r t v)):=x3 _ _ ag;have hp3:M3 p=some (.dic (kvL (nmL S) u)):=x3 _ _ (by rw[aj (Ne.symm pd)];exact hp1);have ad:a≠d:=λ e=>by rw[e] at ha;exact absurd (ag.symm.trans ha) nofun
 refine⟨_,rfl,d,_,rfl,hd3,(by show 4<1000;decide),?_⟩;refine⟨_,rfl,d,_,rfl,ag,ah1 (q:=p) (r:=a) (t:=t) (v:=v),d,p,a,t,v,rfl,ag,?_⟩;refine k p a _ hp (x1.none (by rw[aj ad] at ha;exact ha)) ⟨ag,?_,?_,lu⟩ λ b o n e=>?_
 ·rw[aj (Ne.symm pd),aj (Ne.symm pd)];exact hp3
 ·rw[aj ad,aj ad];exact ma
 ·rw[aj n,aj n];exact x3 _ _ (by rw[aj n];exact x1 _ _ e)
def nR:SpD:=λ ws M Q=>∃ (S:Sh) (d:Addr),ws=[.m d,.d (shD S)]/\OkS S/\M aB=some cdR/\M d=some (.ins ao [])/\∀ q r M',M q=none->M r=none->Dr M' S d q r (List.replicate S.length 0) 0 (.d .none)->Fr M M' d->Q (.d .none) M'
def nG:SpD:=λ ws M Q=>∃ (d:Addr),ws=[.m d,.d .none]/\M d=some (.ins ao [])/\∀ q r M',M q=none->M r=none->Dr M' [] d q r [] 0 (.d .none)->Fr M M' d->Q (.d .none) M'
def nA:List W->MH->XQ->Prop:=λ ws M E=>∃ (d:Addr) (x:PyData) (i:Nat),ws=[.m d,.d x]/\x ≠ .none/\Bad x i/\M d=some (.ins ao [])/\∀ a M',M a=none->M' a=some (.exc av [("at",.d (.int (i:Nat)))])->Fr M M' d->E a M'
def aO:SpX:=λ ws M Q E=>nR ws M Q\/nG ws M Q\/nA ws M E
theorem og:∀ ws M Q E,aO ws M Q E->ws.length=2:=by rintro ws M Q E (⟨S,d,rfl,_⟩ | ⟨d,rfl,_⟩ | ⟨d,x,i,rfl,_⟩)<;>rfl
theorem lF:∀ ws M Q E,aO ws M Q E->j7 (λ a _ M=>E a M) aD {nx:=λ _ M'=>Q (.d .none) M',rt:=Q} (bc kP ws) M:=by
 rintro ws M Q E (⟨S,d,rfl,hO,hC,hd,k⟩ | ⟨d,rfl,hd,k⟩ | ⟨d,x,i,rfl,hx,hB,hd,k⟩)
 case inr.inl =>
  refine λ p hp=>⟨_,rfl,d,_,rfl,cu hd hp,by decide,few (by simp),λ a ha=>⟨_,rfl,d,_,rfl,cu ag ha,(by show 1<1000;decide),?_⟩⟩;refine⟨_,rfl,d,_,rfl,ag,(by show 2<1000;decide),_,rfl,d,_,rfl,ag,(by show 3<1000;decide),?_⟩;have pd:d≠p:=bC hd hp;have ha':bf (bf M p (.dic [])) d (.ins ao (qz "asks_waiting" (.m p) [])) a=none:=ha;have ad:a≠d:=λ e=>by rw[e,ag] at ha';cases ha'
  have ap:a≠p:=λ e=>by rw[aj (e ▸ pd.symm),e,ag] at ha';cases ha'
  have haM:M a=none:=by rw[aj ad,aj ap] at ha';exact ha'
  refine⟨_,rfl,rfl,_,rfl,ik ?_⟩;refine k p a _ hp haM ⟨ag,?_,?_,rfl⟩ λ b o n e=>?_
  ·rw[aj pd.symm,aj pd.symm,aj pd.symm,aj ap.symm,aj pd.symm,ag];rfl
  ·rw[aj ad,aj ad,aj ad,ag];rfl
  ·rw[aj n,aj n,aj n,aj (bC e haM),aj n,aj (bC e hp)];exact e
 case inr.inr =>
  refine λ p hp=>⟨_,rfl,d,_,rfl,cu hd hp,by decide,few (by simp),λ a ha=>⟨_,rfl,d,_,rfl,cu ag ha,(by show 1<1000;decide),?_⟩⟩;refine⟨_,rfl,d,_,rfl,ag,(by show 2<1000;decide),_,rfl,d,_,rfl,ag,(by show 3<1000;decide),?_⟩;have pd:d≠p:=bC hd hp;have ha':bf (bf M p (.dic [])) d (.ins ao (qz "asks_waiting" (.m p) [])) a=none:=ha;have ad:a≠d:=λ e=>by rw[e,ag] at ha';cases ha'
  have ap:a≠p:=λ e=>by rw[aj (e ▸ pd.symm),e,ag] at ha';cases ha'
  have haM:M a=none:=by rw[aj ad,aj ap] at ha';exact ha'
  have hn:xor true (isNone (.d x))=true:=by
   cases x with
   | none=>exact absurd rfl hx
   | _=>rfl
  refine⟨_,rfl,rfl,_,rfl,ux hn ?_⟩;refine⟨_,rfl,d,_,rfl,ag,abR (q:=p) (r:=a) (t:=0) (v:=.d .none),_,rfl,.no d [] x i rfl hB λ b hb=>k b _ ?_ ag λ c o n e=>?_⟩
  ·cases e:M b with
   | none=>rfl
   | some o =>
    have n:b≠d:=λ z=>by rw[z] at hb;exact absurd (ag.symm.trans hb) nofun
    rw[aj n,aj n,aj n,aj (bC e haM),aj n,aj (bC e hp),e] at hb;cases hb
  ·have e5:bf (bf (bf (bf (bf (bf M p (.dic [])) d (.ins ao (qz "asks_waiting" (.m p) []))) a (.lst [])) d (.ins ao (qz "owner_round" (.m a) (qz "asks_waiting" (.m p) [])))) d (.ins ao (qz "next_slot" (.d (.int 0)) (qz "owner_round" (.m a) (qz "asks_waiting" (.m p) []))))) d (.ins ao (FD p a 0 (.d .none))) c=some o:=by rw[aj n,aj n,aj n,aj (bC e haM),aj n,aj (bC e hp)];exact e
   exact cu e5 hb
 refine λ p hp=>⟨_,rfl,d,_,rfl,cu hd hp,by decide,few (by simp),λ a ha=>⟨_,rfl,d,_,rfl,cu ag ha,(by show 1<1000;decide),?_⟩⟩;refine⟨_,rfl,d,_,rfl,ag,(by show 2<1000;decide),_,rfl,d,_,rfl,ag,(by show 3<1000;decide),?_⟩;have pd:d≠p:=bC hd hp;have ha':bf (bf M p (.dic [])) d (.ins ao (qz "asks_waiting" (.m p) [])) a=none:=ha;have ad:a≠d:=λ e=>by rw[e,ag] at ha';cases ha'
 have ap:a≠p:=λ e=>by rw[aj (e ▸ pd.symm),e,ag] at ha';cases ha'
 have haM:M a=none:=by rw[aj ad,aj ap] at ha';exact ha'
 have cd:aB≠d:=agX hC hd nofun;have cp:aB≠p:=bC hC hp;have ca:aB≠a:=bC hC haM;refine⟨_,rfl,rfl,_,rfl,fo ?_⟩;refine⟨_,rfl,d,_,rfl,ag,abR (q:=p) (r:=a) (t:=0) (v:=.d .none),_,rfl,.mk S d p a 0 (.d .none) [] (List.replicate S.length 0) rfl hO ?_ ag ?_ (by simp) (λ i z _=>?_) λ q' r' M' hq' hr' hD hF=>k q' r' M' ?_ ?_ hD λ b o n e=>hF b o n ?_⟩
 ·rw[aj cd,aj cd,aj cd,aj ca,aj cd,aj cp];exact hC
 ·rw[aj pd.symm,aj pd.symm,aj pd.symm,aj ap.symm,aj pd.symm,ag]
 ·have:cv (List.replicate S.length 0) i=0:=xY S i;rw[this];rfl
 ·cases e:M q' with
  | none=>rfl
  | some o =>
   have n:q'≠d:=λ z=>by rw[z] at hq';exact absurd (ag.symm.trans hq') nofun
   rw[aj n,aj n,aj n,aj (bC e haM),aj n,aj (bC e hp),e] at hq';cases hq'
 ·cases e:M r' with
  | none=>rfl
  | some o =>
   have n:r'≠d:=λ z=>by rw[z] at hr';exact absurd (ag.symm.trans hr') nofun
   rw[aj n,aj n,aj n,aj (bC e haM),aj n,aj (bC e hp),e] at hr';cases hr'
 ·rw[aj n,aj n,aj n,aj (bC e haM),aj n,aj (bC e hp)];exact e
theorem rG(hO:OkE S){i:Nat}{z:Str}(hz:(nmL S)[i]? =some z):wd z=true:=by obtain⟨r,hr,e⟩:=List.mem_map.mp (List.mem_of_getElem? hz);rw[<- e];exact(hO.row r hr).1
theorem Dr.aiA(h:Dr M S d q r u t v)(hO:OkE S)(hz:(nmL S)[i]? =some z):gR (kvL (nmL S) u) (.inr z)=some (.d (.int (cv u i))):=
 jQ hO.nd hz (wM (by rw[h.lu];have:=(List.getElem?_eq_some_iff.mp hz).1;simpa [nmL] using this))
theorem afy(hz:z ∉ N):gR (kvL N c) (.inr z)=none:=by
 have hno:∀ p∈kvL N c,decide (p.1=(.inr z:Key))=false:=by intro p hp;unfold kvL at hp;obtain⟨j,hj,ej⟩:=List.mem_iff_getElem.mp hp;rw[List.getElem_zipWith] at ej;subst ej;refine decide_eq_false λ e=>hz ?_;have:N[j]'(by simp at hj;omega)=z:=Sum.inr.inj e;exact this ▸ List.getElem_mem _
 generalize kvL N c=l at hno
 induction l with
 | nil=>rfl
 | cons p l ih =>
  have h0:=hno p (by simp);have:=ih λ q hq=>hno q (by simp[hq]);unfold gR at this ⊢;simp only[List.find?,h0];exact this
inductive ie(ws:List W) (M:MH) (Q:QD) (E:XQ):Prop
 | mk (S:Sh) (d q r:Addr) (u:List Int) (t:Int) (v:W) (z:Str) (z0:ws=[.m d,.d (.str z)]) (z1:OkE S) (z2:Dr M S d q r u t v) (z3:wd z=true) (z4:∀ i,(nmL S)[i]? =some z->Q (.d (.int (cv u i))) M) (z5:z ∉ nmL S->∀ a,M a=none->E a (bf M a (.exc aU [("name",.d (.str z))]))):ie ws M Q E
def aT:SpX:=ie
theorem lE:∀ ws M Q E,aT ws M Q E->ws.length=2:=by rintro ws M Q E ⟨S,d,q,r,u,t,v,z,rfl,_⟩;rfl
theorem jK:∀ ws M Q E,aT ws M Q E->ji (λ a _ M=>E a M) bE {nx:=λ _ M'=>Q (.d .none) M',rt:=Q} (bc i9 ws) M:=by
 rintro ws M Q E ⟨S,d,q,r,u,t,v,z,rfl,hO,H,hw,k,x⟩;have hl:z.length<=1000:=by have:=(tW hw).2;omega
 refine⟨_,rfl,.str z,rfl,(λ y e=>by injection e with e;rw[<- e];exact hl),_,rfl,km (by show(!wd z)=false;rw[hw];rfl) ⟨_,rfl,_,rfl,d,_,_,rfl,H.hd,aa3,_,.k (k:=.inr z) H.hq,_,rfl,?_⟩⟩
 by_cases hm:z∈nmL S
 ·obtain⟨i,hi,e⟩:=List.getElem_of_mem hm;have hz:(nmL S)[i]? =some z:=by rw[List.getElem?_eq_getElem hi,e]
  have g:=H.aiA hO hz;rw[g];exact ik ⟨_,rfl,d,_,_,rfl,H.hd,aa3,_,rfl,q,_,.inr z,_,rfl,.inl H.hq,rfl,g,k i hz⟩
 ·rw[afy hm];exact fo ⟨_,rfl,rfl,by simp,x hm⟩
def lin(n c:Int):Int:=if 0 > (if 40-c<n then 40-c else n) then 0 else (if 40-c<n then 40-c else n)
inductive kB(ws:List W) (M:MH) (Q:QD) (E:XQ):Prop
 | mk (S:Sh) (d q r:Addr) (u:List Int) (t:Int) (v:W) (z:Str) (n:Int) (z0:ws=[.m d,.d (.str z),.d (.int n)]) (z1:OkE S) (z2:Dr M S d q r u t v) (z3:wd z=true) (z4:∀ i,(nmL S)[i]? =some z->Q (.d (.int (lin n (cv u i)))) (bf M q (.dic (kvL (nmL S) (u.set i (cv u i+lin n (cv u i))))))) (z5:z ∉ nmL S->∀ a,M a=none->E a (bf M a (.exc aU [("name",.d (.str z))]))):kB ws M Q E
def cB:SpX:=kB
theorem pQ:∀ ws M Q E,cB ws M Q E->ws.length=3:=by rintro ws M Q E ⟨S,d,q,r,u,t,v,z,n,rfl,_⟩;rfl
theorem ou:∀ ws M Q E,cB ws M Q E->mN (λ a _ M=>E a M) aT {nx:=λ _ M'=>Q (.d .none) M',rt:=Q} (bc l9 ws) M:=by
 rintro ws M Q E ⟨S,d,q,r,u,t,v,z,n,rfl,hO,H,hw,k,x⟩;have sl:=s16;have h4:=hO.len;refine⟨_,rfl,_,rfl,d,_,rfl,H.hd,afQ,_,rfl,S,d,q,r,u,t,v,z,rfl,hO,H,hw,λ i hz=>?_,x⟩;refine⟨_,_,rfl,rfl,_,_,rfl,_,_,rfl,?_⟩;refine⟨_,rfl,d,_,_,rfl,H.hd,aa3,_,rfl,q,_,.inr z,cv u i,rfl,rfl,H.hq,H.aiA hO hz,?_,_,rfl,_,rfl,rfl,_,rfl,?_⟩
 ·have:=vC S u;omega
 ·rw[rO (N:=nmL S) hO.nd (by rw[H.lu];simp[nmL]) hz];exact k i hz
def lI:SpD:=λ ws M Q=>∃ (S:Sh) (d q r:Addr) (u:List Int) (t:Nat) (v:W),ws=[.m d]/\OkS S/\Dr M S d q r u t v/\Q (.d (.str (nmS S (own S t)))) M
def aK:SpD:=λ ws M Q=>lI ws M Q\/∃ (d q r:Addr) (u:List Int) (t:Int) (v:W),ws=[.m d]/\Dr M [] d q r u t v/\Q (.d .none) M
theorem lN:∀ ws M Q,aK ws M Q->ws.length=1:=by rintro ws M Q (⟨S,d,q,r,u,t,v,rfl,_⟩ | ⟨d,q,r,u,t,v,rfl,_⟩)<;>rfl
theorem kl:∀ ws M Q,aK ws M Q->i8 {nx:=λ _ M'=>Q (.d .none) M',rt:=Q} (bc jb ws) M:=by
 rintro ws M Q (⟨S,d,q,r,u,t,v,rfl,hO,H,k⟩ | ⟨d,q,r,u,t,v,rfl,H,k⟩)
 case inr=>exact⟨_,rfl,d,_,_,rfl,H.hd,agY,_,.m H.hr,fo k⟩
 have wp:=tF hO;have hlt:t % wn S<wn S:=Nat.mod_lt _ (by omega);have hne:(dG (rw0 S (wn S))).isEmpty=false:=by
  cases e:dG (rw0 S (wn S)) with
  | nil=>have:=congrArg List.length e;simp[dG,rw0] at this;omega
  | cons _ _=>rfl
 refine⟨_,rfl,d,_,_,rfl,H.hd,agY,_,.m H.hr,?_⟩;rw[hne];refine ik ?_;have el:pq M (.m r)=some (wn S):=by simp only[pq,H.hr];simp[dG,rw0]
 have ix:ixW M (.m r) ((t:Int) % ((wn S:Nat):Int))=some (.d (.str (nmS S (own S t)))):=by rw[show((t:Int) % ((wn S:Nat):Int))=((t % wn S:Nat):Int) from rfl,adH hO t];exact zy H.hr (ng (abw hlt))
 exact⟨_,rfl,d,_,_,rfl,H.hd,agY,_,rfl,d,_,_,rfl,H.hd,ahK,_,rfl,d,_,_,rfl,H.hd,agY,_,_,rfl,el,rfl,_,_,rfl,rfl,by omega,_,_,rfl,ix,rfl,k⟩
theorem sA:∀ {N:List Str} {u:List Int},N.length=u.length->(kvL N u).map (·.2)=qP u
 | [],[],_=>rfl
 | [],_::_,h=>by simp at h
 | _::_,[],h=>by simp at h
 | z::N,n::u,h=>by have ih:=sA (N:=N) (u:=u) (by simpa using h);show W.d (.int n)::(kvL N u).map (·.2)=W.d (.int n)::qP u;rw[ih]
theorem tT:∀ {N:List Str} {u:List Int},N.length=u.length->(kvL N u).map (·.1)=N.map Sum.inr
 | [],[],_=>rfl
 | [],_::_,h=>by simp at h
 | _::_,[],h=>by simp at h
 | z::N,n::u,h=>by have ih:=tT (N:=N) (u:=u) (by simpa using h);show(.inr z:Key)::(kvL N u).map (·.1)=(.inr z:Key)::N.map Sum.inr;rw[ih]
def aC:SpD:=λ ws M Q=>∃ (S:Sh) (d q r:Addr) (u:List Int) (t:Int) (v:W),ws=[.m d]/\Dr M S d q r u t v/\Q (.d (.bool (u.any λ n=>n != 0))) M
theorem fV:∀ ws M Q,aC ws M Q->ws.length=1:=by rintro ws M Q ⟨S,d,q,r,u,t,v,rfl,_⟩;rfl
theorem fK:∀ ws M Q,aC ws M Q->dU {nx:=λ _ M'=>Q (.d .none) M',rt:=Q} (bc dP ws) M:=by
 rintro ws M Q ⟨S,d,q,r,u,t,v,rfl,H,k⟩;exact⟨_,rfl,d,_,_,rfl,H.hd,aa3,q,_,u,rfl,H.hq,sA (by rw[H.lu];simp[nmL]),k⟩
def qY(n o:Nat):List Nat:=(List.range n).drop o++(List.range n).take o
theorem vy(ho:o<n)(hk:k<n):(qY n o)[k]? =some ((o+k) % n):=by
 unfold qY
 by_cases h:o+k<n
 ·rw[List.getElem?_append_left (by simp;omega),List.getElem?_drop,List.getElem?_range (by omega),Nat.mod_eq_of_lt h]
 ·rw[List.getElem?_append_right (by simp;omega),List.length_drop,List.length_range,List.getElem?_take_of_lt (by omega),List.getElem?_range (by omega)];rw[Nat.mod_eq_sub_mod (by omega),Nat.mod_eq_of_lt (by omega)];congr 1;omega
theorem xx(ho:o<n):(qY n o).length=n:=by
 unfold qY;simp;omega
theorem sV:∀ {l:List Nat} {p:Nat->Bool} {k j:Nat},l[k]? =some j->p j=true->(∀ k',k'<k->∀ j',l[k']? =some j'->p j'=false)->(l.filter p)[0]? =some j
 | [],_,_,_,h,_,_=>by simp at h
 | a::l,p,0,j,h,hp,_=>by simp at h;subst h;rw[List.filter_cons_of_pos hp];rfl
 | a::l,p,k+1,j,h,hp,hn=>by have ha:=hn 0 (by omega) a rfl;rw[List.filter_cons_of_neg (by rw[ha];decide)];exact sV (by simpa using h) hp λ k' hk j' hj=>hn (k'+1) (by omega) j' (by simpa using hj)
def nmD(S:Sh)(j:Nat):PyData:=.str (nmS S j)
def nms(S:Sh):List PyData:=(List.range S.length).map (nmD S)
theorem afz(S:Sh):nms S=(nmL S).map PyData.str:=by
 refine List.ext_getElem (by simp[nms,nmL]) λ i h1 h2=>?_;have hi:i<S.length:=by simpa [nms] using h1
 have:=(mV (List.getElem?_eq_getElem hi)).2;simp[nms,nmD,nmL,this]
theorem abe(h:j<S.length):(nms S)[j]? =some (nmD S j):=by simp[nms,List.getElem?_map,List.getElem?_range h]
theorem kM(h:j<S.length):(nmL S)[j]? =some (nmS S j):=by have:=mV (List.getElem?_eq_getElem h);rw[this.1,this.2]
theorem acx(hO:OkS S)(hi:i<S.length)(hj:j<S.length)(h:nmS S i=nmS S j):i=j:=by
 have hi':i<(nmL S).length:=by simpa [nmL] using hi
 exact(List.getElem?_inj hi' (show(nmL S).Nodup from hO.nd)).mp (by rw[kM hi,kM hj,h])
theorem aaR(hO:OkS S):okD 1 (.list (nms S))=true:=by simp only[okD];refine aaH λ d hd=>?_;obtain⟨j,hj,rfl⟩:=List.mem_map.mp hd;have hj':=List.mem_range.mp hj;simp only[nmD,okD];exact k6 (rG hO.e (kM hj'))
theorem afl(hO:OkS S)(h:j<S.length):vc (nmD S j) (nms S)=true:=by
 have h1:okD 0 (nmD S j)=true:=by simp only[nmD,okD];exact k6 (rG hO.e (kM h))
 simp only[vc,fA (by decide) h1,fA (by decide) (aaR hO),Bool.and_self]
theorem yr(S:Sh)(ho:o<S.length):D.cutD (nms S) (some (o:Int)) none++D.cutD (nms S) none (some (o:Int))=(qY S.length o).map (nmD S):=by rw[sG (by omega),iF (by simp[nms];omega)];unfold nms qY;rw[<- List.map_drop,<- List.map_take,<- List.map_append];rfl
inductive kE(ws:List W) (M:MH) (Q:QD):Prop
 | mk (S:Sh) (d q r:Addr) (u:List Int) (t:Nat) (v:W) (z0:ws=[.m d]) (z1:OkS S\/∀ i,cv u i=0) (z2:Dr M S d q r u t v) (z3:(∀ i,0<=cv u i)) (z4:(((∀ i,cv u i=0)/\Q (.d .none) M)\/∃ k j,k<S.length/\j=(own S t+k) % S.length/\0<cv u j/\(∀ k',k'<k->cv u ((own S t+k') % S.length)=0)/\∀ M',M' d=some (.ins ao (FD q r ((t+1:Nat):Int) v))->M' q=some (.dic (kvL (nmL S) (u.set j (cv u j-1))))->(∀ b o,b≠d->b≠q->M b=some o->M' b=some o)->Q (.d (.str (nmS S j))) M')):kE ws M Q
def aY:SpD:=kE
theorem pj:∀ ws M Q,aY ws M Q->ws.length=1:=by rintro ws M Q ⟨S,d,q,r,u,t,v,rfl,_⟩;rfl
theorem aaO(h:∀ i,cv u i=0):(u.any λ n=>n != 0)=false:=by rw[List.any_eq_false];intro n hn;obtain⟨i,hi,rfl⟩:=List.getElem_of_mem hn;have:=h i;simp[cv,List.getD,List.getElem?_eq_getElem hi] at this;simp[this]
theorem adA(h:0<cv u j):(u.any λ n=>n != 0)=true:=by
 rw[List.any_eq_true]
 by_cases hj:j<u.length
 ·refine⟨u[j],List.getElem_mem hj,?_⟩;have:cv u j=u[j]:=by simp[cv,List.getD,List.getElem?_eq_getElem hj]
  simp;omega
 ·have:cv u j=0:=by simp[cv,List.getD,List.getElem?_eq_none (by omega:u.length<=j)]
  omega
theorem nr:∀ ws M Q,aY ws M Q->lZ aC aK {nx:=λ _ M'=>Q (.d .none) M',rt:=Q} (bc lQ ws) M:=by
 rintro ws M Q ⟨S,d,q,r,u,t,v,rfl,hO,H,h0,k⟩;have sl:=s16;refine⟨_,rfl,d,_,rfl,H.hd,af7,S,d,q,r,u,t,v,rfl,H,_,rfl,?_⟩;rcases k with ⟨hz,k⟩ | ⟨k,j,hk,hj,hp,hn,kk⟩
 ·rw[aaO hz];exact fo k
 have hO:OkS S:=by
  rcases hO with hO | hO
  ·exact hO
  ·have:=hO j;omega
 have h4:=hO.len;rw[adA hp];refine ik ?_;have ho:=tR hO t;have hjn:j<S.length:=by rw[hj];exact Nat.mod_lt _ (by omega)
 refine⟨_,rfl,d,_,_,rfl,H.hd,aa3,q,_,nmL S,rfl,H.hq,tT (by rw[H.lu];simp[nmL]),λ p hp'=>?_⟩;have en:dG (nmL S)=(nms S).map W.d:=by rw[afz,List.map_map];rfl
 refine⟨p,nms S,rfl,by rw[ag,en],?_⟩;have x1:Ext M (pf (bf M p (.lst (dG (nmL S)))) p):=sealed hp';generalize pf (bf M p (.lst (dG (nmL S)))) p=M1 at x1;have H1:=H.ext x1;have ok:=aaR hO;refine⟨_,rfl,nms S,rfl,_,rfl,d,_,rfl,H1.hd,adZ,.inl ⟨S,d,q,r,u,t,v,rfl,hO,H1,nmD S (own S t),own S t,rfl,?_,⟨by simpa [nms] using ho,λ y hy=>?_,λ m y hm hy=>?_⟩,by omega,?_⟩⟩
 ·exact afl hO ho
 ·rw[abe ho] at hy;cases hy;simp[nmD]
 ·rw[abe (by omega)] at hy;cases hy;simp only[nmD,tu];exact decide_eq_false λ e=>by have:=acx hO (by omega) ho e;omega
 refine⟨_,rfl,_,rfl,_,rfl,_,rfl,rfl,_,rfl,_,rfl,_,rfl,_,rfl,rfl,_,_,.d,.d,?_,_,rfl,?_⟩
 ·have a1:(D.cutD (nms S) (some ((own S t:Nat):Int)) none++D.cutD (nms S) none (some ((own S t:Nat):Int))).length=S.length:=by rw[yr S ho,List.length_map,xx ho]
  rw[List.length_append] at a1;omega
 rw[yr S ho];have get:∀ {i},i<S.length->gR (kvL (nmL S) u) (.inr (nmS S i))=some (.d (.int (cv u i))):=λ hi=>H.get hO (kM hi);refine⟨λ i acc τ M'=>M'=M1/\acc=(((qY S.length (own S t)).take i).filter λ j=>decide (0<cv u j)).map (nmD S)/\∃ x,τ=[x,some (.m d)],⟨rfl,rfl,_,rfl⟩,?_,?_⟩
 ·rintro i w acc τ M' hw ⟨rfl,rfl,x,rfl⟩;rw[List.map_map] at hw;obtain⟨j',hj',rfl⟩:=fG hw;have hi:=(List.getElem?_eq_some_iff.mp hj').1;rw[xx ho] at hi;have hjn':j'<S.length:=by rw[vy ho hi] at hj';cases hj';exact Nat.mod_lt _ (by omega)
  have ht:(qY S.length (own S t)).take (i+1)=(qY S.length (own S t)).take i++[j']:=by rw[List.take_succ,hj'];rfl
  refine⟨?_,_,rfl,d,_,_,rfl,H1.hd,aa3,_,rfl,q,_,.inr (nmS S j'),_,rfl,.inl H1.hq,rfl,get hjn',_,_,rfl,rfl,_,rfl,?_⟩
  ·rw[List.length_map];have:=List.length_filter_le (λ j=>decide (0<cv u j)) ((qY S.length (own S t)).take i);rw[List.length_take] at this;omega
  refine ia (λ h=>?_) (λ h=>?_)
  ·refine⟨_,rfl,_,rfl,rfl,?_,_,rfl⟩;have e1:([j'].filter λ j=>decide (0<cv u j))=[j']:=by simp only[List.filter,h]
   rw[ht,List.filter_append,List.map_append,e1];rfl
  ·refine⟨rfl,?_,_,rfl⟩;have e1:([j'].filter λ j=>decide (0<cv u j))=[]:=by simp only[List.filter,h]
   rw[ht,List.filter_append,e1,List.append_nil]
 rintro acc τ M' ⟨rfl,rfl,x,rfl⟩;have el:(qY S.length (own S t)).take (((qY S.length (own S t)).map (nmD S)).map W.d).length=qY S.length (own S t):=List.take_of_length_le (by simp);rw[el];have hf:((qY S.length (own S t)).filter λ j=>decide (0<cv u j))[0]? =some j:=sV (k:=k) (by rw[hj];exact vy ho hk) (decide_eq_true hp) λ k' hk' j' hj'=>by rw[vy ho (by omega)] at hj';cases hj';rw[hn k' hk'];rfl
 have ix:∀ M2,ixW M2 (.d (.list (((qY S.length (own S t)).filter λ j=>decide (0<cv u j)).map (nmD S)))) 0=some (.d (nmD S j)):=λ M2=>agL (i:=0) rfl hf;refine⟨_,rfl,d,_,_,rfl,H1.hd,aa3,_,rfl,0,_,rfl,ix _,rfl,q,_,.inr (nmS S j),cv u j,rfl,rfl,H1.hq,get hjn,?_,1,rfl,rfl,?_⟩
 ·have:=vC S u;omega
 rw[rO (N:=nmL S) hO.nd (by rw[H.lu];simp[nmL]) (kM hjn)];have hd2:∀ o,bf M' q o d=some (.ins ao (FD q r t v)):=λ o=>by rw[aj H.nq];exact H1.hd
 refine⟨_,rfl,d,_,_,rfl,hd2 _,ahK,1,_,rfl,hd2 _,(by show 4<1000;decide),_,rfl,0,_,rfl,ix _,rfl,?_⟩;refine kk _ ag ?_ λ b o n1 n2 e=>?_
 ·rw[aj H.nq.symm,ag]
 ·rw[aj n1,aj n2];exact x1 _ _ e
def bh:SpD:=λ ws M Q=>∃ (d q r:Addr) (t:Int) (v:W),ws=[.m d]/\M d=some (.ins ao (FD q r t v))/\Q (.d (.int t)) M
theorem nc:∀ ws M Q,bh ws M Q->ws.length=1:=by rintro ws M Q ⟨d,q,r,t,v,rfl,_⟩;rfl
theorem lz:∀ ws M Q,bh ws M Q->kh {nx:=λ _ M'=>Q (.d .none) M',rt:=Q} (bc kS ws) M:=by
 rintro ws M Q ⟨d,q,r,t,v,rfl,hd,k⟩;exact⟨_,rfl,d,_,_,rfl,hd,ahK,k⟩
theorem sC(h:[x][i]? =some w):i=0/\w=x:=by
 cases i with
 | zero=>exact⟨rfl,(Option.some.inj h).symm⟩
 | succ i=>simp at h
def aM:SpD:=λ ws M Q=>∃ (d q r a:Addr) (t:Int),ws=[.m d,.m a]/\M d=some (.ins ao (FD q r t (.d .none)))/\M a=some (.dic (kD [(.inl 1,.int 2)]))/\Q (.d (.int 1)) M
theorem gv:∀ ws M Q,aM ws M Q->ws.length=2:=by rintro ws M Q ⟨d,q,r,a,t,rfl,_⟩;rfl
theorem fU:∀ ws M Q,aM ws M Q->eL {nx:=λ _ M'=>Q (.d .none) M',rt:=Q} (bc eC ws) M:=by
 rintro ws M Q ⟨d,q,r,a,t,rfl,hd,ha,k⟩;have sl:=s16;refine⟨a,_,ha,_,rfl,a,[(.inl 1,.int 2)],rfl,ag,?_⟩;refine⟨λ i acc τ M'=>M'=bf M a (.fdic (kD [(.inl 1,.int 2)]))/\acc=[PyData.int 1].take i/\∃ x y,τ=[x,y],⟨rfl,rfl,_,_,rfl⟩,?_,?_⟩
 ·rintro i w acc τ M' hw ⟨rfl,rfl,x,y,rfl⟩;obtain⟨rfl,rfl⟩:=sC hw;exact⟨by simp;omega,_,rfl,rfl,_,_,rfl,_,_,rfl,rfl,_,rfl,_,_,rfl,rfl,_,rfl,fo ⟨_,rfl,_,rfl,rfl,rfl,_,_,rfl⟩⟩
 rintro acc τ M' ⟨rfl,rfl,x,y,rfl⟩;refine⟨ag,?_⟩;rw[tQ ha];refine⟨_,rfl,_,rfl,?_⟩;refine⟨λ i acc τ M'=>M'=M/\acc=[PyData.int 1].take i/\∃ x,τ=[x,some (.m d)],⟨rfl,rfl,_,rfl⟩,?_,?_⟩
 ·rintro i w acc τ M' hw ⟨rfl,rfl,x,rfl⟩;obtain⟨rfl,rfl⟩:=sC hw;exact⟨by simp;omega,_,rfl,d,_,_,rfl,hd,ajt,rfl,_,rfl,fo (fo ⟨_,rfl,_,rfl,rfl,rfl,_,rfl⟩)⟩
 rintro acc τ M' ⟨rfl,rfl,x,rfl⟩;refine⟨_,rfl,_,.l,fo ⟨[1],rfl,(λ e=>nomatch e),λ m hm _=>?_⟩⟩;rw[List.mem_singleton.mp hm];exact k
abbrev cp1:PyData:=.tuple [.int 1,.int 2,.bool true]
def bX:SpD:=λ ws M Q=>∃ (d q r:Addr) (u:List Int) (t:Int),ws=[.m d,.d (.list [cp1])]/\(∀ i,cv u i=0)/\Dr M [] d q r u t (.d .none)/\∀ p M',M p=none->M' p=some (.lst [])->Ext M M'->Q (.m p) M'
theorem ni:∀ ws M Q,bX ws M Q->ws.length=2:=by rintro ws M Q ⟨d,q,r,u,t,rfl,_⟩;rfl
theorem lC:∀ ws M Q,bX ws M Q->jP aM aC aY {nx:=λ _ M'=>Q (.d .none) M',rt:=Q} (bc jR ws) M:=by
 rintro ws M Q ⟨d,q,r,u,t,rfl,hu,H,k⟩;have sl:=s16;refine⟨_,rfl,_,rfl,?_⟩;refine⟨λ i acc τ M'=>M'=M/\acc=[cp1].take i/\∃ x,τ=[x],⟨rfl,rfl,_,rfl⟩,?_,?_⟩
 ·rintro i w acc τ M' hw ⟨rfl,rfl,x,rfl⟩;obtain⟨rfl,rfl⟩:=sC hw;exact⟨by simp;omega,_,rfl,2,_,rfl,rfl,rfl,_,rfl,fo ⟨_,rfl,_,rfl,rfl,rfl,_,rfl⟩⟩
 rintro acc τ M' ⟨rfl,rfl,x,rfl⟩;refine⟨_,.l,fo ⟨_,rfl,_,rfl,λ h hh=>?_⟩⟩;refine⟨λ i τ M1=>M1=bf M' h (.dic (kD ([(.inl 1,.int 2)].take i)))/\∃ x y z,τ=[x,y,z],⟨rfl,_,_,_,rfl⟩,?_,?_⟩
 ·rintro i w τ M1 hw ⟨rfl,x,y,z,rfl⟩;obtain⟨rfl,rfl⟩:=sC hw;exact⟨_,rfl,rfl,_,_,rfl,_,_,rfl,_,_,rfl,rfl,_,rfl,_,rfl,_,.inl 1,ag,rfl,by show 0<sizeLine;omega,by rw[hZ];rfl,_,_,_,rfl⟩
 rintro τ M1 ⟨e1,x,y,z,rfl⟩;have mh:M1 h=some (.dic (kD [(.inl 1,.int 2)])):=by rw[e1,ag];rfl
 have x1:Ext M' M1:=by rw[e1];exact Ext.new hh
 have H1:=H.ext x1;refine⟨few (by simp),λ f hf=>?_⟩;have lh:h≠f:=bC mh hf;have H2:=H1.ext (Ext.new (o:=.lst []) hf);refine⟨_,rfl,d,_,rfl,H2.hd,aja,_,rfl,d,q,r,h,t,rfl,H2.hd,by rw[aj lh];exact mh,?_⟩;refine⟨λ _ τ M2=>M2=bf M1 f (.lst [])/\∃ x1 x2 x3,τ=[some (.m d),x1,x2,x3,some (.m f),some (.d (.int 1))],⟨0,rfl,_,_,_,rfl⟩,?_⟩;rintro m τ M2 ⟨rfl,x1',x2,x3,rfl⟩;refine⟨_,rfl,rfl,_,rfl,fo ⟨_,rfl,d,_,rfl,H2.hd,af7,[],d,q,r,u,_,_,rfl,H2,_,rfl,?_⟩⟩;rw[aaO hu];exact ik ⟨_,rfl,k f _ (x1.none hf) ag (x1.trans (Ext.new hf))⟩
theorem abU:∀ c<128,∀ q,q=34\/q=39->∀ x∈Builtin.Str.reprChar q c,x<128:=by
 have h:((List.range 128).all λ c=>([34,39]:List Nat).all λ q=>(Builtin.Str.reprChar q c).all λ x=>decide (x<128))=true:=by decide +kernel
 intro c hc q hq x hx;have h1:=List.all_eq_true.mp h c (List.mem_range.mpr hc);have h2:=List.all_eq_true.mp h1 q (by simpa using hq);exact of_decide_eq_true (List.all_eq_true.mp h2 x hx)
theorem sr(q:Nat)(hq:q=34\/q=39):∀ (l:List Nat) (acc:Array Nat),(∀ c∈l,c<128)->(∀ c∈acc.toList,c<128)->∀ c∈(l.foldl (λ out c=>out++(Builtin.Str.reprChar q c).toArray) acc).toList,c<128
 | [],acc,_,h=>h
 | a::l,acc,h1,h2=>by
  refine sr q hq l _ (λ c hc=>h1 c (by simp[hc])) λ c hc=>?_;simp only[Array.toList_append,List.mem_append] at hc;rcases hc with hc | hc
  ·exact h2 c hc
  ·exact abU a (h1 a (by simp)) q hq c (by simpa using hc)
theorem aah(h:Asc z):Asc (reprText z):=by
 intro c hc;have hq:reprQuote z=34\/reprQuote z=39:=by
  unfold reprQuote
  split
  ·exact .inl rfl
  ·exact .inr rfl
 have hc':c∈((z.cps.foldl (λ out c=>out++(Builtin.Str.reprChar (reprQuote z) c).toArray) #[reprQuote z]).push (reprQuote z)).toList:=hc;rw[Array.toList_push,<- Array.foldl_toList] at hc';rcases List.mem_append.mp hc' with h1 | h1
 ·refine sr _ hq z.cps.toList _ h (λ x hx=>?_) c h1;simp at hx;rcases hq with hq | hq<;>omega
 ·simp at h1;rcases hq with hq | hq<;>omega
theorem sY:∀ (ts:List Str) (k:Nat) (acc:Str),Asc acc->(∀ t∈ts,Asc t)->Asc (textFrom k acc ts)
 | [],_,_,h,_=>h
 | t::ts,k,acc,h,h2=>by
  refine sY ts (k+1) _ (d4 (d4 h ?_) (h2 t (by simp))) λ x hx=>h2 x (by simp[hx])
  split<;>exact dq (by decide +kernel)
theorem nu:∀ ts:List Str,(∀ t∈ts,Asc t)->Asc (Str.join ", " ts)
 | [],_=>dq (by decide +kernel)
 | [x],h=>h x (by simp)
 | x::y::r,h=>by show Asc (x ++ ", " ++ Str.join ", " (y::r));exact d4 (d4 (h x (by simp)) (dq (by decide +kernel))) (nu (y::r) λ t ht=>h t (by simp[ht]))
theorem yU(h:∀ t∈ts,Asc t):Asc (listText ts):=d4 (sY ts 0 _ (dq (by decide +kernel)) h) (dq (by decide +kernel))
theorem acp(h:∀ t∈ts,Asc t):Asc (tupleText ts):=by
 unfold tupleText;refine d4 (d4 (dq (by decide +kernel)) (nu ts h)) ?_
 split<;>exact dq (by decide +kernel)
theorem aab(h:∀ t∈ts,Asc t):Asc (dictText ts):=by
 unfold dictText;exact d4 (d4 (dq (by decide +kernel)) (nu ts h)) (dq (by decide +kernel))
mutual
theorem iz:∀ (d:PyData),cO d=true->Asc d.shown
 | .none,_=>by rw[PyData.shown];exact dq (by decide +kernel)
 | .bool b,_=>by rw[PyData.shown];cases b<;>exact dq (by decide +kernel)
 | .int i,_=>λ c hc=>by
  by_cases h:c<128
  ·exact h
  ·exact absurd hc (shown_int_free' ⟨by omega,by omega⟩ i)
 | .str z,h=>by rw[PyData.shown];exact aah (tf (by simpa only[cO] using h))
 | .list ds,h=>by rw[PyData.shown];exact yU (iU ds (by simpa only[cO] using h))
 | .tuple ds,h=>by rw[PyData.shown];exact acp (iU ds (by simpa only[cO] using h))
 | .dict kvs,h=>by rw[PyData.shown];exact aab (mM kvs (by simpa only[cO] using h))
theorem iU:∀ (ds:List PyData),jr ds=true->∀ t∈PyData.shownAll ds,Asc t
 | [],_,t,ht=>by simp[PyData.shownAll] at ht
 | d::ds,h,t,ht=>by
  simp only[jr,Bool.and_eq_true] at h;simp only[PyData.shownAll,List.mem_cons] at ht;rcases ht with rfl | ht
  ·exact iz d h.1
  ·exact iU ds h.2 t ht
theorem mM:∀ (ds:List (PyData×PyData)),qb ds=true->∀ t∈PyData.shownKv ds,Asc t
 | [],_,t,ht=>by simp[PyData.shownKv] at ht
 | (k,d)::ds,h,t,ht=>by
  simp only[qb,Bool.and_eq_true] at h;simp only[PyData.shownKv,List.mem_cons] at ht;rcases ht with rfl | ht
  ·exact d4 (d4 (iz k h.1.1) (dq (by decide +kernel))) (iz d h.1.2)
  ·exact mM ds h.2 t ht
end
structure Bd(b k:Nat)(d:PyData):Prop where
 f:cO d=true
 l:ig d=true
 k:d.depth<=k
 b:big d<=b
theorem Bd.mono{b k b' k':Nat}{d:PyData}(h:Bd b k d)(hb:b<=b')(hk:k<=k'):Bd b' k' d:=⟨h.f,h.l,Nat.le_trans h.k hk,Nat.le_trans h.b hb⟩
theorem Bd.rp{b k:Nat}{d:PyData}(h:Bd b k d)(hb:b<=4000000)(hk:k<=60):gO d=true:=yI h.f (Nat.le_trans h.b hb) (Nat.le_trans h.k hk) h.l
theorem agz(h:(cO d&&ig d&&decide (d.depth<=1)&&decide (big d<=2000))=true):Bd 2000 1 d:=by simp only[Bool.and_eq_true,decide_eq_true_eq] at h;exact⟨h.1.1.1,h.1.1.2,h.1.2,h.2⟩
theorem ag5:∀ {ds:List PyData},(∀ d∈ds,Bd b k d)->jr ds=true/\jh ds=true/\PyData.depthAll ds<=k
 | [],_=>by simp[jr,jh,PyData.depthAll]
 | d::ds,h=>by obtain⟨h1,h2,h3⟩:=ag5 (ds:=ds) λ x hx=>h x (by simp[hx]);have hd:=h d (by simp);refine⟨by simp[jr,hd.f,h1],by simp[jh,hd.l,h2],?_⟩;have:=hd.k;simp only[PyData.depthAll];omega
theorem aey(h:∀ d∈ds,Bd b k d):Bd (ds.length * (b+2)+3) (k+1) (.tuple ds):=by obtain⟨h1,h2,h3⟩:=ag5 h;have h4:=qL (c:=b) λ d hd=>(h d hd).b;exact⟨by simpa only[cO] using h1,by simpa only[ig] using h2,by simp only[PyData.depth];omega,by simp only[big];omega⟩
theorem af1(h:∀ d∈ds,Bd b k d):Bd (ds.length * (b+2)+3) (k+1) (.list ds):=by obtain⟨h1,h2,h3⟩:=ag5 h;have h4:=qL (c:=b) λ d hd=>(h d hd).b;exact⟨by simpa only[cO] using h1,by simpa only[ig] using h2,by simp only[PyData.depth];omega,by simp only[big];omega⟩
theorem ae4(h:Bd b k d):Bd (10 * b+2) 1 (.str (qN d)):=by
 have ha:uN (qN d)=true/\(qN d).length<=b:=by
  have hs:uN d.shown=true/\d.shown.length<=b:=⟨ahf (iz d h.f),Nat.le_trans (shown_le d h.f) h.b⟩;cases d with
  | str z =>
   have h1:=h.b;have h2:=h.f;simp only[big] at h1;simp only[cO] at h2;exact⟨h2,by show z.length<=b;omega⟩
  | _=>exact hs
 exact⟨by simp only[cO];exact ha.1,rfl,by simp[PyData.depth],by simp only[big];omega⟩
theorem ahu(h:OkE S):okD 2 (shD S)=true:=by
 have big:(2:Nat) ^ 100 > 10000000:=by decide
 have:∀ l:Sh,(∀ r∈l,wd r.1=true/\1<=r.2/\r.2<=9)->okA 1 (l.map bp)=true:=by
  intro l
  induction l with
  | nil=>intro _;rfl
  | cons r l ih =>
   intro hl;have hr:=hl r (by simp);simp only[List.map_cons,bp,okA,okD,Bool.and_true,Bool.and_eq_true,decide_eq_true_eq];exact⟨⟨k6 hr.1,by omega⟩,ih λ x hx=>hl x (by simp[hx])⟩
 simp only[shD,okD];exact this S h.row
theorem adq(h:OkE T):d6 (.list (T.map bp)) (.list [])=true/\PyData.eqv (.list (T.map bp)) (.list [])=decide (T=[]):=by
 refine⟨?_,?_⟩
 ·show(lA _&&lA _)=true;rw[show lA (.list (T.map bp))=true from fA (by decide) (ahu h),fA (k:=1) (d:=.list []) (by decide) (by rfl)];rfl
 ·cases T with
  | nil=>decide
  | cons r rs=>rw[List.map_cons,PyData.eqv];rfl
theorem abv{i:Nat}{r:Str×Nat}(hr:S[i]? =some r):ixW M (.d (shD S)) (i:Int)=some (.d (bp r)):=by
 unfold ixW shD;simp only;rw[ng (v:=bp r) (by rw[List.getElem?_map,hr];rfl)];rfl
theorem jB(P:DS->MH->Prop)(hb:∀ τ' M',P τ' M'->b E τ' M')(ha:(∀ τ' M',P τ' M'->b E τ' M')->bz a b E τ M):bz a b E τ M:=ha hb
theorem ahP(hy:wd y=true):Bd 2000 1 (.str y):=by have:=tW hy;refine⟨by simp only[cO];exact k6 hy,rfl,by simp[PyData.depth],by simp only[big];omega⟩
theorem afk(n:Nat)(h:n<=9):Bd 2000 1 (.int (n:Nat)):=by
 have:∀ n,n<10->(cO (.int (n:Nat))&&ig (.int (n:Nat))&&decide ((PyData.int (n:Nat)).depth<=1)&&decide (big (.int (n:Nat))<=2000))=true:=by decide +kernel
 exact agz (this n (by omega))
theorem tK{r:Str×Nat}(h:wd r.1=true)(h9:r.2<=9):Bd 5000 4 (bp r):=
 (aey (ds:=[.str r.1,.int (r.2:Nat)]) (b:=2000) (k:=1) λ d hd=>by
  simp only[List.mem_cons,List.not_mem_nil,or_false] at hd;rcases hd with rfl | rfl
  ·exact ahP h
  ·exact afk _ h9).mono (by simp) (by decide)
def wrL:List PyData:=[.list [.str "free",.int 3],.tuple [.str "free"],.tuple [.str "free",.int 3,.int 1],.tuple [.str "Free",.int 3],.tuple [.str "",.int 3],.tuple [.str "a1",.int 3],.tuple [.str "abcdefghi",.int 3],.tuple [.none,.int 3],
 .tuple [.int 5,.int 3],.tuple [.str "free",.int 0],.tuple [.str "free",.int 10],.tuple [.str "free",.int (-1)],.tuple [.str "free",.bool true],.tuple [.str "free",.str "3"],.tuple [.str "free",.none],
 .none,.str "ab",.int 7,.tuple [.tuple [.str "a"],.int 2],.tuple [.list [.str "a"],.int 2],.dict [],.tuple []]
def rsB:PyData->Bool
 | .tuple (.str z::_)=>decide (z.length<=1000)
 | _=>true
theorem ai9(h:rsB x=true):Rs x:=λ ds e z hz=>by
 subst e;cases ds with
 | nil=>simp at hz
 | cons a ds =>
  have:a=.str z:=by simpa using hz
  subst this;exact of_decide_eq_true h
structure Wr(S:Sh)(x:PyData):Prop where
 rs:Rs x
 bd:Bd 5000 4 x
 no:ud x=false\/∃ y,x=bp y/\y.1∈S.map (·.1)
theorem abH(S:Sh):∀ x∈wrL,Wr S x:=by
 have h:(wrL.all λ x=>rsB x&&(cO x&&ig x&&decide (x.depth<=4)&&decide (big x<=5000))&&!ud x)=true:=by decide +kernel
 intro x hx;have:=List.all_eq_true.mp h x hx;simp only[Bool.and_eq_true,decide_eq_true_eq,Bool.not_eq_true'] at this;exact⟨ai9 this.1.1,⟨this.1.2.1.1.1,this.1.2.1.1.2,this.1.2.1.2,this.1.2.2⟩,.inl this.2⟩
inductive mj(ws:List W) (M:MH) (Q:QD):Prop
 | mk (p:Addr) (S:Sh) (z0:ws=[.m p,.d (shD S)]) (z1:OkE S) (z2:Bag M p) (z3:∀ x M',Wr S x->Bag M' p->(∀ b,b≠p->M' b=M b)->Q (.d x) M'):mj ws M Q
def cH:SpD:=mj
theorem qM:∀ ws M Q,cH ws M Q->ws.length=2:=by rintro ws M Q ⟨p,S,rfl,_⟩;rfl
theorem qf:∀ ws M Q,cH ws M Q->qm ay {nx:=λ _ M'=>Q (.d .none) M',rt:=Q} (bc pK ws) M:=by
 rintro ws M Q ⟨p,S,rfl,hO,hb,k⟩;have sl:=s16;have h4:=hO.len;refine⟨_,rfl,few (by simp),_,rfl,few (by simp),_,rfl,few (by simp),_,rfl,few (by simp),_,rfl,few (by simp),_,rfl,few (by simp),_,rfl,few (by simp),_,rfl,few (by simp),_,rfl,few (by simp),?_⟩;refine⟨_,rfl,_,rfl,few (by simp),_,rfl,few (by simp),_,rfl,few (by simp),1,rfl,_,rfl,few (by simp),_,rfl,few (by simp),_,rfl,few (by simp),_,rfl,few (by simp),_,rfl,few (by simp),_,_,.d,.d,few (by simp),?_⟩;refine⟨_,rfl,_,rfl,few (by simp),_,rfl,few (by simp),_,rfl,few (by simp),_,rfl,few (by simp),_,rfl,few (by simp),_,rfl,few (by simp),_,_,.d,.d,few (by simp),?_⟩;dsimp only[gN];refine jB (λ τ' M'=>∃ L x3,τ'=[some (.m p),some (.d (shD S)),some (.d (.list L)),x3]/\(∀ x∈L,Wr S x)/\1<=L.length/\L.length<=100/\Bag M' p/\∀ b,b≠p->M' b=M b) (λ τ' M1 ⟨L,x3,e,hL,l1,l2,b1,f1⟩=>?_) (λ rest=>?_)
 case refine_1 =>
  subst e;refine⟨_,rfl,_,rfl,_,rfl,_,_,rfl,rfl,rfl,p,(L.length:Nat),rfl,b1,by omega,by omega,λ r M2 r0 r1 b2 f2=>?_⟩;obtain⟨d,ed,hd⟩:=ab3 (M:=M2) (ds:=L) r0 (by omega);exact⟨r,_,rfl,ed,rfl,k d M2 (hL d hd) b2 λ b n=>by rw[f2 b n,f1 b n]⟩
 obtain⟨n1,n2⟩:=adq hO;refine⟨_,rfl,_,rfl,few (by simp),_,_,.d,.d,n1,_,rfl,?_⟩;show if (!PyData.eqv (.list (S.map bp)) (.list []))=true then _ else _;rw[n2]
 by_cases hS:S=[]
 ·rw[decide_eq_true hS];exact ik (rest _ _ ⟨_,_,rfl,abH S,by decide,by decide,hb,λ _ _=>rfl⟩)
 rw[decide_eq_false hS];have hpos:1<=S.length:=by
  cases S with
  | nil=>exact absurd rfl hS
  | cons _ _=>simp
 have el:pq M (.d (shD S))=some S.length:=by simp[pq,shD]
 refine fo ⟨_,rfl,_,rfl,_,rfl,_,_,rfl,el,rfl,p,(S.length:Nat),rfl,hb,by omega,by omega,λ r M2 r0 r1 b2 f2=>?_⟩;obtain⟨n,rfl⟩:=Int.eq_ofNat_of_zero_le r0;have hn:n<S.length:=by omega
 obtain⟨y,hy⟩:∃ y,S[n]? =some y:=⟨S[n],List.getElem?_eq_getElem hn⟩;have hyr:=hO.row y (List.mem_of_getElem? hy);refine⟨_,_,rfl,abv hy,rfl,0,_,rfl,rfl,rfl,_,rfl,_,rfl,_,rfl,few (by simp),_,rfl,_,rfl,few (by simp),_,rfl,few (by simp),_,_,.d,.d,few (by simp),?_⟩;have hin:y.1∈S.map (·.1):=List.mem_map.mpr ⟨y,List.mem_of_getElem? hy,rfl⟩;have good:∀ m:Nat,1<=m->m<=9->Wr S (bp (y.1,m)):=λ m m1 m9=>⟨.row hyr.1,tK hyr.1 m9,.inr ⟨(y.1,m),rfl,hin⟩⟩;refine rest _ _ ⟨wrL++[bp (y.1,1),bp (y.1,9)],_,rfl,λ x hx=>?_,by simp[wrL],by simp[wrL],b2,f2⟩;rcases List.mem_append.mp hx with hx | hx
 ·exact abH S x hx
 ·simp only[List.mem_cons,List.not_mem_nil,or_false] at hx;rcases hx with rfl | rfl
  ·exact good 1 (by decide) (by decide)
  ·exact good 9 (by decide) (by decide)
def otL:List PyData:=[.none,.tuple [],.tuple [.tuple [.str "a",.int 1]],.dict [],.str "ab",.int 5,.bool true,.list []]
theorem agh:∀ x∈otL,Bad x 0/\Bd 60000 6 x:=by
 have h:(otL.all λ x=>(cO x&&ig x&&decide (x.depth<=6)&&decide (big x<=60000))&&(match x with | .list ds=>ds.isEmpty | _=>true))=true:=by decide +kernel
 intro x hx;have:=List.all_eq_true.mp h x hx;simp only[Bool.and_eq_true,decide_eq_true_eq] at this;refine⟨.no λ ds e=>?_,⟨this.1.1.1.1,this.1.1.1.2,this.1.1.2,this.1.2⟩⟩;subst e;exact List.isEmpty_iff.mp this.2
inductive RwP(p:Addr) (M:MH) (S:Sh) (n:Nat) (τ:DS) (M':MH):Prop
 | mk (c:Addr) (S0:Sh) (x:PyData) (r:List PyData) (x1 x5 x6 x7:Option W) (e:τ=[some (.m p),x1,some (.d (shD S)),some (.m c),some (.d (.int ((S0.length:Nat):Int))),x5,x6,x7]) (hc:M c=none) (mc:M' c=some (.lst ((S0.map bp++x::r).map W.d))) (h0:OkE S0) (hx:Rs x)
   (hb:4<=S0.length\/ud x=false\/∃ y,x=bp y/\y.1∈S0.map (·.1)) (bx:∀ y∈x::r,Bd 5000 4 y) (hl:r.length<=4+n) (b:Bag M' p) (f:Fr M M' p):RwP p M S n τ M'
def z5:Str:= "bcdfg"
theorem ahD:∀ i<5,∃ c,z5.cps.toList[i]? =some c/\ck c=true:=by
 have:∀ i<5,(match z5.cps.toList[i]? with | some c=>ck c | none=>false)=true:=by decide +kernel
 intro i hi;have h:=this i hi;cases e:z5.cps.toList[i]? with
 | none=>rw[e] at h;cases h
 | some c=>rw[e] at h;exact⟨c,rfl,h⟩
theorem age:uN z5=true:=by decide +kernel
theorem aff:z5.cps.toList.length=5:=by decide +kernel
theorem afA{es fs:List PyData}{i:Nat}(h:(zD es fs)[i]? =some w):∃ d e,es[i]? =some d/\fs[i]? =some e/\w=.d (.tuple [d,e]):=by
 unfold zD at h;rw[List.getElem?_map] at h;have hi:i<min es.length fs.length:=by
  by_cases q:i<min es.length fs.length
  ·exact q
  ·rw[List.getElem?_eq_none (by simpa using q)] at h;cases h
 rw[List.getElem?_range hi] at h;cases h;have h1:i<es.length:=by omega
 have h2:i<fs.length:=by omega
 refine⟨es[i],fs[i],List.getElem?_eq_getElem h1,List.getElem?_eq_getElem h2,?_⟩;simp[List.getD,List.getElem?_eq_getElem h1,List.getElem?_eq_getElem h2]
theorem sl7(z:Str):(Txt.slice z none (some 7)).length<=7:=by
 have e1:=nH (z:=z) (lo:=none) (hi:=some 7);have f1:(Builtin.Str.strSliceIndices none (some 7) 1 z.length).length<=7:=by
  unfold Builtin.Str.strSliceIndices sliceRange;simp only[show(1:Int) > 0 by decide,if_true,List.length_map,List.length_range]
  split<;>(try split)<;>(try split)<;>(try simp only[Int.ediv_one])<;>omega
 omega
theorem agj(hz:wd z=true)(hc:ck c=true):wd (Txt.slice z none (some 7)++(⟨#[c]⟩:Str))=true:=by
 have h7:=sl7 z;have e:=kN (Txt.slice z none (some 7)) ⟨#[c]⟩;have el:(Txt.slice z none (some 7)++(⟨#[c]⟩:Str)).length=(Txt.slice z none (some 7)).length+1:=by rw[<- str_len,e,List.length_append,str_len];rfl
 unfold wd;rw[el,decide_eq_true (show 1<=(Txt.slice z none (some 7)).length+1 by omega),decide_eq_true (show(Txt.slice z none (some 7)).length+1<=8 by omega),Bool.true_and,Bool.true_and,List.all_eq_true];intro x hx;rw[e] at hx;rcases List.mem_append.mp hx with hx | hx
 ·exact aaM hz x (kJ hx)
 ·have:x=c:=by simpa using hx
  rw[this];exact hc
structure aeL(U:Sh):Prop where
 len:U.length=5
 row:∀ r∈U,wd r.1=true/\1<=r.2/\r.2<=9
theorem aeL.cut(h:aeL U)(nd:(U.map (·.1)).Nodup):∃ (S0:Sh) (x:PyData),U.map bp=S0.map bp++x::[]/\OkE S0/\S0.length=4/\Rs x/\Bd 5000 4 x:=by
 have h5:=h.len;have h4:4<U.length:=by omega
 have hr:=h.row U[4] (List.getElem_mem h4);refine⟨U.take 4,bp U[4],?_,⟨by rw[List.length_take];omega,λ r hr=>h.row r (List.mem_of_mem_take hr),?_⟩,by rw[List.length_take];omega,.row hr.1,tK hr.1 hr.2.2⟩
 ·have e:U=U.take 4++[U[4]]:=by
   have:U.take 5=U.take 4++[U[4]]:=by rw[List.take_succ,List.getElem?_eq_getElem h4];rfl
   rw[<- this,List.take_of_length_le (by omega)]
  conv=>lhs;rw[e]
  rw[List.map_append];rfl
 ·rw[List.map_take];exact(List.take_sublist _ _).nodup nd
def vL:Sh:=z5.cps.toList.map λ c=>(⟨#[c]⟩,2)
theorem zz:aeL vL/\(vL.map (·.1)).Nodup:=by
 refine⟨⟨by decide +kernel,λ r hr=>?_⟩,by decide +kernel⟩;have:(vL.all λ r=>wd r.1&&decide (1<=r.2)&&decide (r.2<=9))=true:=by decide +kernel
 have:=List.all_eq_true.mp this r hr;simp only[Bool.and_eq_true,decide_eq_true_eq] at this;exact⟨this.1.1,this.1.2,this.2⟩
def t5(S:Sh):Sh:=(List.replicate 5 S).flatten.take 5
theorem tX(S:Sh):(List.replicate 5 S).flatten.length=5 * S.length:=by rw[L2.len_rep]
theorem afb(h:1<=S.length):D.cutD ((List.replicate 5 (S.map bp)).flatten) none (some 5)=(t5 S).map bp:=by
 have e:(List.replicate 5 (S.map bp)).flatten=((List.replicate 5 S).flatten).map bp:=by rw[List.map_flatten,List.map_replicate]
 rw[e];refine(iF (i:=5) (by rw[List.length_map,tX];omega)).trans ?_;rw[<- List.map_take];rfl
theorem abd(h:1<=S.length):(t5 S).length=5:=by
 unfold t5;rw[List.length_take,tX];omega
theorem abC(h:r∈t5 S):r∈S:=by have:=List.mem_of_mem_take h;obtain⟨l,hl,hr⟩:=List.mem_flatten.mp this;rw[List.mem_replicate] at hl;rw[<- hl.2];exact hr
def uR(T:Sh)(i:Nat):Str×Nat:=(Txt.slice (T.getD i ("",0)).1 none (some 7)++(⟨#[z5.cps.toList.getD i 0]⟩:Str),(T.getD i ("",0)).2)
def uL(T:Sh):Sh:=(List.range 5).map (uR T)
theorem ah8(hO:OkS S)(h:1<=S.length):aeL (uL (t5 S)):=by
 refine⟨by simp[uL],λ r hr=>?_⟩;obtain⟨i,hi,rfl⟩:=List.mem_map.mp hr;have hi:=List.mem_range.mp hi;have hl:=abd h;obtain⟨c,hc,hs⟩:=ahD i hi;have e1:z5.cps.toList.getD i 0=c:=by simp[List.getD,hc]
 have e2:(t5 S).getD i ("",0)=(t5 S)[i]'(by omega):=by simp[List.getD,List.getElem?_eq_getElem (show i<(t5 S).length by omega)]
 have hr:=hO.row _ (abC (List.getElem_mem (show i<(t5 S).length by omega)));refine⟨?_,?_⟩
 ·show wd (Txt.slice ((t5 S).getD i ("",0)).1 none (some 7)++(⟨#[z5.cps.toList.getD i 0]⟩:Str))=true;rw[e1,e2];exact agj hr.1 hs
 ·show 1<=((t5 S).getD i ("",0)).2/\((t5 S).getD i ("",0)).2<=9;rw[e2];exact hr.2
theorem ac0(T:Sh)(h:i<5):((uL T).take (i+1)).map bp=((uL T).take i).map bp++[bp (uR T i)]:=by
 have:(uL T)[i]? =some (uR T i):=by unfold uL;rw[List.getElem?_map,List.getElem?_range h];rfl
 rw[List.take_succ,this,List.map_append];rfl
theorem adC(N:List Str)(z:Str):(N.map PyData.str).countP (λ y=>PyData.eqv y (.str z))=N.countP (λ y=>decide (y=z)):=by rw[List.countP_map];exact congrArg (λ f=>N.countP f) (funext λ y=>tu y z)
theorem aeP{N:List Str}(h:N.filter (λ z=>decide (1<N.countP λ y=>decide (y=z)))=[]):N.Nodup:=by
 rw[List.nodup_iff_count];intro z
 by_cases hz:z∈N
 ·have:=List.filter_eq_nil_iff.mp h z hz;have e:N.count z=N.countP λ y=>decide (y=z):=by rw[List.count_eq_countP];exact congrArg (λ f=>N.countP f) (funext λ y=>by by_cases q:y=z<;>simp[q])
  rw[e]
  simpa using this
 ·rw[List.count_eq_zero_of_not_mem hz];exact Nat.zero_le _
theorem yf{N:List Str}(h:∀ z∈N,wd z=true):okD 1 (.list (N.map PyData.str))=true:=by
 have:∀ l:List Str,(∀ z∈l,wd z=true)->okA 0 (l.map PyData.str)=true:=by
  intro l
  induction l with
  | nil=>intro _;rfl
  | cons z l ih =>
   intro hl;have hr:=hl z (by simp);simp only[List.map_cons,okA,okD,Bool.and_eq_true];exact⟨k6 hr,ih λ x hx=>hl x (by simp[hx])⟩
 simp only[okD];exact this N h
theorem acB{N:List Str}(h:∀ z∈N,wd z=true):d6 (.list (N.map PyData.str)) (.list [])=true/\PyData.eqv (.list (N.map PyData.str)) (.list [])=decide (N=[]):=by
 refine⟨?_,?_⟩
 ·show(lA _&&lA _)=true;rw[show lA (.list (N.map PyData.str))=true from fA (by decide) (yf h),fA (k:=1) (d:=.list []) (by decide) (by rfl)];rfl
 ·cases N with
  | nil=>decide
  | cons r rs=>rw[List.map_cons,PyData.eqv];rfl
theorem acW{N:List Str}(h:∀ z∈N,wd z=true){z:Str}(hz:z∈N):vc (.str z) (N.map PyData.str)=true:=by
 have h1:okD 0 (.str z)=true:=by simp only[okD];exact k6 (h z hz)
 simp only[vc,fA (by decide) h1,fA (by decide) (yf h),Bool.and_self]
inductive jS(ws:List W) (M:MH) (Q:QD):Prop
 | mk (p:Addr) (z0:ws=[.m p]) (z1:Bag M p) (z2:∀ x i M',Bad x i->Bd 60000 6 x->Bag M' p->Fr M M' p->Q (.d (.tuple [x,.int ((i:Nat):Int)])) M'):jS ws M Q
def cx:SpD:=jS
theorem oP:∀ ws M Q,cx ws M Q->ws.length=1:=by rintro ws M Q ⟨p,rfl,_⟩;rfl
theorem gi(b:Bag M p)(h:M c=none):c≠p:=λ e=>by obtain⟨_,_,_,_,z,_⟩:=b;rw[e,z] at h;cases h
theorem mY{M M':MH}{p c:Addr}(b:Bag M p)(f:Fr M M' p)(b':Bag M' p)(h:M' c=none):M c=none:=by
 cases e:M c with
 | none=>rfl
 | some o =>
  rw[f c o (gi b' h) e] at h;cases h
theorem nO:∀ ws M Q,cx ws M Q->lU ay bF cH {nx:=λ _ M'=>Q (.d .none) M',rt:=Q} (bc mP ws) M:=by
 rintro ws M Q ⟨p,rfl,hb,k⟩;have sl:=s16;refine⟨_,rfl,p,8,rfl,hb,by decide,by decide,λ y M1 y0 y1 b1 g1=>⟨_,_,.d,.d,cT _ _,_,rfl,ia (λ _=>?_) (λ _=>?_)⟩⟩
 ·refine⟨_,rfl,few (by simp),_,rfl,few (by simp),_,rfl,few (by simp),_,rfl,few (by simp),_,rfl,few (by simp),_,rfl,p,8,rfl,b1,by decide,by decide,λ r M2 r0 r1 b2 g2=>?_⟩;obtain⟨d,ed,hd⟩:=ab3 (M:=M2) (ds:=otL) r0 (by simpa [otL] using r1);obtain⟨h1,h2⟩:=agh d hd;exact⟨r,_,rfl,ed,rfl,_,rfl,_,rfl,few (by simp),k d 0 M2 h1 h2 b2 (Fr.of λ q n=>by rw[g2 q n,g1 q n])⟩
 have F1:Fr M M1 p:=Fr.of g1;refine⟨_,rfl,p,rfl,b1,λ S M2 hO b2 f2=>?_⟩;have h4:=hO.len;have hpos:1<=S.length:=by
  cases e:S with
  | nil=>exact absurd e hO.ne
  | cons _ _=>simp
 refine⟨_,rfl,_,_,rfl,.l,λ a ha=>?_⟩;have F2:=F1.trans f2;have ap:=gi b2 ha;have haM:=mY hb F2 b2 ha;have b3:Bag (bf M2 a (.lst ((S.map bp).map W.d))) p:=fD b2 (aj ap.symm);have F3:Fr M (bf M2 a (.lst ((S.map bp).map W.d))) p:=F2.trans (Fr.ext (Ext.new ha));have a3:bf M2 a (.lst ((S.map bp).map W.d)) a=some (.lst ((S.map bp).map W.d)):=ag;generalize bf M2 a (.lst ((S.map bp).map W.d))=M3 at b3 F3 a3;have el:∀ N:MH,pq N (.d (shD S))=some S.length:=λ N=>by simp[pq,shD]
 refine⟨_,rfl,_,_,rfl,el _,rfl,?_⟩;dsimp only[gN];refine jB (λ τ' M'=>RwP p M S 0 τ' M') (λ τ' M4 P=>?_) (λ rest=>?_)
 case refine_1 =>
  obtain⟨c,S0,x,r,x1,x5,x6,x7,rfl,hc,mc,h0,hx,hbd,bx,hl,b4,f4⟩:=P;refine⟨_,rfl,p,3,rfl,b4,by decide,by decide,λ n M5 n0 n1 b5 g5=>⟨n,rfl,by omega,by omega,?_⟩⟩;have cp:c≠p:=gi hb hc;refine⟨λ i τ M'=>RwP p M S i τ M',⟨c,S0,x,r,x1,x5,x6,x7,rfl,hc,by rw[g5 c cp];exact mc,h0,hx,hbd,bx,hl,b5,f4.trans (Fr.of g5)⟩,?_,?_⟩
  ·rintro i w τ M6 hw ⟨c,S0,x,r,x1,x5,x6,x7,rfl,hc,mc,h0,hx,hbd,bx,hl,b6,f6⟩;obtain⟨hi,rfl⟩:=ja hw;have cp:c≠p:=gi hb hc;have h04:=h0.len;refine⟨_,rfl,c,_,rfl,mc,_,rfl,_,rfl,p,S,rfl,hO.e,b6,λ y M7 wy b7 g7=>⟨_,by rw[g7 c cp];exact mc,?_,?_⟩⟩
   ·simp only[List.length_map,List.length_append,List.length_cons];omega
   refine⟨c,S0,x,r++[y],x1,x5,x6,_,rfl,hc,?_,h0,hx,hbd,λ z hz=>?_,by rw[List.length_append];simp;omega,fD b7 (aj cp.symm),λ q o nq e=>?_⟩
   ·rw[ag];simp
   ·rcases List.mem_cons.mp hz with rfl | hz
    ·exact bx _ (by simp)
    ·rcases List.mem_append.mp hz with hz | hz
     ·exact bx _ (by simp[hz])
     ·rw[List.mem_singleton.mp hz];exact wy.bd
   ·have qc:q≠c:=bC e hc;rw[aj qc,g7 q nq];exact f6 q o nq e
  ·rintro τ M6 ⟨c,S0,x,r,x1,x5,x6,x7,rfl,hc,mc,h0,hx,hbd,bx,hl,b6,f6⟩;have cp:c≠p:=gi hb hc;have h04:=h0.len;simp only[ij,List.length_map,List.length_range] at hl;refine⟨_,rfl,c,_,rfl,mc,_,rfl,_,_,rfl,_,rfl,few (by simp),?_⟩;have em:(if (4:Int)<((S0.length:Nat):Int) then (4:Int) else ((S0.length:Nat):Int))=((S0.length:Nat):Int):=if_neg (by omega);rw[em];refine k _ S0.length _ (.row S0 x r rfl h0 (by omega) hx hbd) ?_ (fD b6 (by simp only[pf,if_neg cp.symm])) λ q o nq e=>?_
   ·refine(af1 (b:=5000) (k:=4) λ d hd=>?_).mono ?_ (by decide)
    ·rcases List.mem_append.mp hd with hd | hd
     ·obtain⟨y,hy,rfl⟩:=List.mem_map.mp hd;have:=h0.row y hy;exact tK this.1 this.2.2
     ·exact bx d hd
    ·have:(S0.map bp++x::r).length<=4+(1+6):=by simp;omega
     have:=Nat.mul_le_mul_right 5002 this;omega
   ·have qc:q≠c:=bC e hc;simp only[pf,if_neg qc];exact f6 q o nq e
 refine⟨_,rfl,p,3,rfl,b3,by decide,by decide,λ n M4 n0 n1 b4 g4=>⟨_,_,rfl,rfl,_,rfl,ia (λ _=>?_) (λ _=>?_)⟩⟩
 ·have a4:M4 a=some (.lst ((S.map bp).map W.d)):=by rw[g4 a ap];exact a3
  refine⟨_,rfl,_,rfl,_,_,rfl,el _,rfl,.inl ⟨_,_,rfl,rfl,p,_,rfl,b4,by omega,by omega,λ j M5 j0 j1 b5 g5=>?_⟩⟩;obtain⟨j,rfl⟩:=Int.eq_ofNat_of_zero_le j0;have hj:j<=S.length:=by omega
  have a5:M5 a=some (.lst ((S.map bp).map W.d)):=by rw[g5 a ap];exact a4
  have F5:Fr M M5 p:=(F3.trans (Fr.of g4)).trans (Fr.of g5);have hO':OkE (S.take j):=⟨by rw[List.length_take];omega,λ r hr=>hO.row r (List.mem_of_mem_take hr),by rw[List.map_take];exact(List.take_sublist _ _).nodup hO.nd⟩;have ecut:∀ {β:Type} (g:PyData->β),D.cutD ((S.map bp).map g) none (some (j:Int))=((S.take j).map bp).map g:=λ g=>by rw[iF (by simp;omega),<- List.map_take,<- List.map_take]
  have ecut0:D.cutD (S.map bp) none (some (j:Int))=(S.take j).map bp:=by rw[iF (by simp;omega),<- List.map_take]
  have edrop:∀ {β:Type} (xs:List β),D.cutD xs (some (j:Int)) none=xs.drop j:=λ xs=>sG j0;refine⟨_,rfl,_,rfl,_,rfl,a,_,rfl,a5,λ c1 hc1=>?_⟩;have x1:=Ext.new (o:=.lst (D.cutD ((S.map bp).map W.d) none (some (j:Int)))) hc1;have m1:bf M5 c1 (.lst (D.cutD ((S.map bp).map W.d) none (some (j:Int)))) c1=some (.lst (D.cutD ((S.map bp).map W.d) none (some (j:Int)))):=ag;have b6:=Ext.bag x1 b5;have c1p:=gi b5 hc1;have a6:=x1 _ _ a5;have F6:=F5.trans (Fr.ext x1);generalize bf M5 c1 (.lst (D.cutD ((S.map bp).map W.d) none (some (j:Int))))=M6 at m1 b6 a6 F6;rw[ecut] at m1;refine⟨_,rfl,_,rfl,_,rfl,_,rfl,_,rfl,rfl,?_⟩;rw[ecut0];refine⟨p,S.take j,rfl,hO',b6,λ x M7 wx b7 g7=>⟨few (by simp),λ c2 hc2=>?_⟩⟩;have m17:M7 c1=some (.lst (((S.take j).map bp).map W.d)):=by rw[g7 c1 c1p];exact m1
  have a7:M7 a=some (.lst ((S.map bp).map W.d)):=by rw[g7 a ap];exact a6
  have F7:Fr M M7 p:=F6.trans (Fr.of g7);have hlen:(S.take j).length=j:=by rw[List.length_take];omega
  refine⟨c1,c2,_,_,rfl,rfl,cu m17 hc2,ag,by simp;omega,λ c3 hc3=>?_⟩;have x3:Ext M7 (bf (bf M7 c2 (.lst [.d x])) c3 (.lst (((S.take j).map bp).map W.d++[.d x]))):=(Ext.new hc2).trans (Ext.new hc3);have m3:bf (bf M7 c2 (.lst [.d x])) c3 (.lst (((S.take j).map bp).map W.d++[.d x])) c3=some (.lst (((S.take j).map bp).map W.d++[.d x])):=ag;generalize bf (bf M7 c2 (.lst [.d x])) c3 (.lst (((S.take j).map bp).map W.d++[.d x]))=M8 at x3 m3;refine⟨_,rfl,_,rfl,_,rfl,a,_,rfl,x3 _ _ a7,λ c4 hc4=>?_⟩;have x4:=Ext.new (o:=.lst (D.cutD ((S.map bp).map W.d) (some (j:Int)) none)) hc4;have m4:bf M8 c4 (.lst (D.cutD ((S.map bp).map W.d) (some (j:Int)) none)) c4=some (.lst (D.cutD ((S.map bp).map W.d) (some (j:Int)) none)):=ag;generalize bf M8 c4 (.lst (D.cutD ((S.map bp).map W.d) (some (j:Int)) none))=M9 at x4 m4;rw[edrop] at m4;refine⟨c3,c4,_,_,rfl,rfl,x4 _ _ m3,m4,by simp;omega,λ c5 hc5=>?_⟩;have x9:Ext M7 M9:=x3.trans x4;have x10:=x9.trans (Ext.new (o:=.lst (((S.take j).map bp).map W.d++[.d x]++((S.map bp).map W.d).drop j)) hc5);refine rest _ _ ⟨c5,S.take j,x,(S.drop j).map bp,none,none,none,none,?_,mY hb F7 b7 (x9.none hc5),?_,hO',wx.rs,.inr wx.no,λ y hy=>?_,by simp;omega,Ext.bag x10 b7,F7.trans (Fr.ext x10)⟩
  ·rw[hlen];rfl
  ·rw[ag];simp[List.map_drop]
  ·rcases List.mem_cons.mp hy with rfl | hy
   ·exact wx.bd
   ·obtain⟨r,hr,rfl⟩:=List.mem_map.mp hy;have:=hO.row r (List.mem_of_mem_drop hr);exact tK this.1 this.2.2
 ·have F4:Fr M M4 p:=F3.trans (Fr.of g4);have hlf:((List.replicate (5:Int).toNat (S.map bp)).flatten)=(List.replicate 5 (S.map bp)).flatten:=rfl;refine⟨_,rfl,S.map bp,5,rfl,rfl,by decide,by decide,by simp;omega,λ f hf=>⟨_,rfl,_,.m ag,_,rfl,z5,(t5 S).map bp,by rw[hlf,afb hpos];rfl,age,?_⟩⟩;have x5:=Ext.new (o:=.lst ((List.replicate (5:Int).toNat (S.map bp)).flatten.map W.d)) hf;generalize bf M4 f (.lst ((List.replicate (5:Int).toNat (S.map bp)).flatten.map W.d))=M5 at x5;have b5:=Ext.bag x5 b4;have F5:=F4.trans (Fr.ext x5);have tl:=abd hpos;have zl:(zD ((t5 S).map bp) (gc z5)).length=5:=by simp[zD,gc,tl];decide +kernel
  refine⟨λ i acc τ M'=>M'=M5/\acc=((uL (t5 S)).take i).map bp/\∃ x y,τ=[x,y],⟨rfl,rfl,_,_,rfl⟩,?_,?_⟩
  ·rintro i w acc τ M' hw ⟨rfl,rfl,x,y,rfl⟩;have hi:i<5:=by have:=(List.getElem?_eq_some_iff.mp hw).1;omega
   obtain⟨d,e,hd,he,rfl⟩:=afA hw;obtain⟨r,hr,rfl⟩:=fG hd;obtain⟨c,hc,rfl⟩:=fG (f:=λ c=>PyData.str ⟨#[c]⟩) he;have hrw:=hO.row r (abC (List.mem_of_getElem? hr));have eu:uR (t5 S) i=(Txt.slice r.1 none (some 7)++(⟨#[c]⟩:Str),r.2):=by
    unfold uR;have e1:z5.cps.toList.getD i 0=c:=by simp only[List.getD,hc];rfl
    have e2:(t5 S).getD i ("",0)=r:=by simp only[List.getD,hr];rfl
    rw[e1,e2]
   have fitZ:yG (.d (.str r.1))=true:=decide_eq_true (by have:=(tW hrw.1).2;show r.1.length<=sizeLine;omega);have l7:=sl7 r.1;refine⟨by rw[List.length_map,List.length_take];omega,_,rfl,rfl,_,_,rfl,_,_,rfl,rfl,_,rfl,0,_,rfl,rfl,rfl,_,rfl,_,rfl,fitZ,_,rfl,.inr ⟨_,_,rfl,rfl,by show(Txt.slice r.1 none (some 7)).length+1<=sizeLine;omega,_,rfl,1,_,rfl,rfl,rfl,_,rfl,few (by simp),_,rfl,rfl,?_,_,_,rfl⟩⟩;rw[ac0 _ hi,eu];rfl
  rintro acc τ M' ⟨rfl,rfl,x,y,rfl⟩ c hc;have e5:(uL (t5 S)).take (zD ((t5 S).map bp) (gc z5)).length=uL (t5 S):=List.take_of_length_le (by rw[zl];simp[uL]);rw[e5];have U5:=ah8 hO hpos;generalize uL (t5 S)=U at U5 e5;have x6:=Ext.new (o:=.lst ((U.map bp).map W.d)) hc;have m6:bf M' c (.lst ((U.map bp).map W.d)) c=some (.lst ((U.map bp).map W.d)):=ag;have hcM:=mY hb F5 b5 hc;have b6:=Ext.bag x6 b5;have F6:=F5.trans (Fr.ext x6);generalize bf M' c (.lst ((U.map bp).map W.d))=M6 at x6 m6 b6 F6;have u5:=U5.len;refine⟨c,_,m6,_,rfl,c,_,rfl,ag,?_⟩;rw[List.map_map];refine qR U (W.d ∘ bp) (λ r=>.str r.1) (λ τ=>∃ x,τ=[x]) (by omega) ⟨_,rfl⟩ (λ r hr τ hτ R h=>?_) (λ τ=>?_)
  ·obtain⟨x,rfl⟩:=hτ;exact⟨_,rfl,0,_,rfl,rfl,rfl,_,rfl,h _ ⟨_,rfl⟩⟩
  refine⟨ag,?_⟩;rw[List.map_map] at m6;rw[tQ m6];rw[<- List.map_map] at m6;have hN:∀ z∈U.map (·.1),wd z=true:=λ z hz=>by obtain⟨r,hr,rfl⟩:=List.mem_map.mp hz;exact(U5.row r hr).1
  have eN:(U.map λ r=>PyData.str r.1)=(U.map (·.1)).map PyData.str:=by rw[List.map_map];rfl
  rw[eN];have l5:(U.map (·.1)).length=5:=by rw[List.length_map];exact u5
  generalize hNN:U.map (·.1)=N at hN l5;dsimp only[gN];refine jB (λ τ' M'=>∃ c' V x1 x5 x6 x7,τ'=[some (.m p),x1,some (.d (shD S)),some (.m c'),x5,x6,x7,none]/\M c'=none/\M' c'=some (.lst ((V.map bp).map W.d))/\aeL V/\(V.map (·.1)).Nodup/\Bag M' p/\Fr M M' p) (λ τ' M7 ⟨c',V,x1,x5,x6,x7,e,hc',mc',V5,nd,b7,F7⟩=>?_) (λ rest2=>?_)
  case refine_1 =>
   subst e;obtain⟨S0,x,e0,ok0,l0,hx,bx⟩:=V5.cut nd;rw[e0] at mc';refine rest _ _ ⟨c',S0,x,[],_,_,_,_,by rw[l0];rfl,hc',mc',ok0,hx,.inl (by omega),λ y hy=>?_,by simp,b7,F7⟩;rw[List.mem_singleton.mp hy];exact bx
  refine⟨_,rfl,_,rfl,?_⟩;refine⟨λ i acc τ M'=>M'=M6/\acc=((N.take i).filter λ z=>decide (1<N.countP λ y=>decide (y=z))).map PyData.str/\∃ x,τ=[x,some (.d (.list (N.map PyData.str)))],⟨rfl,rfl,_,rfl⟩,?_,?_⟩
  ·rintro i w acc τ M' hw ⟨rfl,rfl,x,rfl⟩;rw[List.map_map] at hw;obtain⟨z,hz,rfl⟩:=fG hw;have hm:=List.mem_of_getElem? hz;have ht:N.take (i+1)=N.take i++[z]:=by rw[List.take_succ,hz];rfl
   have hle:=List.length_filter_le (λ z=>decide (1<N.countP λ y=>decide (y=z))) (N.take i);rw[List.length_take] at hle;refine⟨by rw[List.length_map];omega,_,rfl,_,rfl,_,rfl,.str z,rfl,acW hN hm,?_⟩;rw[adC];refine⟨_,_,rfl,rfl,_,rfl,?_⟩;have ed:decide ((1:Int)<((N.countP λ y=>decide (y=z):Nat):Int))=decide (1<N.countP λ y=>decide (y=z)):=by
    by_cases q:1<N.countP λ y=>decide (y=z)
    ·rw[decide_eq_true q,decide_eq_true (by omega)]
    ·rw[decide_eq_false q,decide_eq_false (by omega)]
   rw[ed];refine ia (λ h=>?_) (λ h=>?_)
   ·have e1:([z].filter λ z=>decide (1<N.countP λ y=>decide (y=z)))=[z]:=by simp only[List.filter,h]
    refine⟨_,rfl,_,rfl,rfl,?_,_,rfl⟩;rw[ht,List.filter_append,e1,List.map_append];rfl
   ·have e1:([z].filter λ z=>decide (1<N.countP λ y=>decide (y=z)))=[]:=by simp only[List.filter,h]
    refine⟨rfl,?_,_,rfl⟩;rw[ht,List.filter_append,e1,List.append_nil]
  rintro acc τ M7 ⟨rfl,rfl,x,rfl⟩;have eN2:N.take ((N.map PyData.str).map W.d).length=N:=List.take_of_length_le (by simp);rw[eN2];have hF:∀ z∈N.filter (λ z=>decide (1<N.countP λ y=>decide (y=z))),wd z=true:=λ z hz=>hN z (List.mem_filter.mp hz).1;obtain⟨n1,n2⟩:=acB hF;refine⟨_,rfl,few (by simp),_,_,.d,.d,n1,_,rfl,?_⟩;rw[n2]
  by_cases hE:N.filter (λ z=>decide (1<N.countP λ y=>decide (y=z)))=[]
  ·rw[decide_eq_true hE];exact ik (rest2 _ _ ⟨c,U,_,_,_,_,rfl,hcM,m6,U5,by rw[hNN];exact aeP hE,b6,F6⟩)
  rw[decide_eq_false hE];refine fo ⟨_,rfl,_,rfl,?_⟩;refine⟨λ i acc τ M'=>M'=M7/\acc=(vL.take i).map bp/\∃ x,τ=[x],⟨rfl,rfl,_,rfl⟩,?_,?_⟩
  ·rintro i w acc τ M' hw ⟨rfl,rfl,x,rfl⟩;obtain⟨c0,hc0,rfl⟩:=fG hw;have hv:vL[i]? =some (⟨#[c0]⟩,2):=by unfold vL;rw[List.getElem?_map];show Option.map _ (z5.cps.toList[i]?)=_;rw[show z5.cps.toList[i]? =some c0 from hc0];rfl
   have ht:vL.take (i+1)=vL.take i++[(⟨#[c0]⟩,2)]:=by rw[List.take_succ,hv];rfl
   have:=zz.1.len;refine⟨by rw[List.length_map,List.length_take];omega,_,rfl,_,rfl,few (by simp),_,rfl,rfl,?_,_,rfl⟩;rw[ht,List.map_append];rfl
  rintro acc τ M8 ⟨rfl,rfl,x,rfl⟩ c' hc';have ev:∀ n,5<=n->vL.take n=vL:=λ n hn=>List.take_of_length_le (by rw[zz.1.len];exact hn);have e8:(z5.cps.toList.map λ c=>W.d (.str ⟨#[c]⟩)).length=5:=by rw[List.length_map];exact aff
  refine rest2 _ _ ⟨c',vL,_,_,_,_,rfl,mY hb F6 b6 hc',?_,zz.1,zz.2,Ext.bag (Ext.new hc') b6,F6.trans (Fr.ext (Ext.new hc'))⟩;rw[ag];show some (MO.lst (((vL.take (z5.cps.toList.map λ c=>W.d (.str ⟨#[c]⟩)).length).map bp).map W.d))=_;rw[e8,ev 5 (Nat.le_refl _)]
noncomputable def stD(S:Sh)(u:List Int)(t:Nat):PyData:=.list [.int (t:Nat),.str (nmS S (own S t)),.list (u.map PyData.int)]
inductive mI(ws:List W) (M:MH) (Q:QD):Prop
 | mk (S:Sh) (d q r:Addr) (u:List Int) (t:Nat) (v:W) (z0:ws=[.m d,.d (shD S)]) (z1:OkS S) (z2:Dr M S d q r u t v) (z3:Q (.d (stD S u t)) M):mI ws M Q
def cE:SpD:=mI
theorem qX:∀ ws M Q,cE ws M Q->ws.length=2:=by rintro ws M Q ⟨S,d,q,r,u,t,v,rfl,_⟩;rfl
theorem pF:∀ ws M Q,cE ws M Q->pP bh aK aT {nx:=λ _ M'=>Q (.d .none) M',rt:=Q} (bc qe ws) M:=by
 rintro ws M Q ⟨S,d,q,r,u,t,v,rfl,hO,H,k⟩;have sl:=s16;have h4:=hO.len;have lu:=H.lu;refine⟨_,rfl,d,_,rfl,H.hd,afT,d,q,r,t,v,rfl,H.hd,_,rfl,d,_,rfl,H.hd,adZ,.inl ⟨S,d,q,r,u,t,v,rfl,hO,H,_,rfl,_,rfl,?_⟩⟩;refine⟨λ i acc τ M'=>M'=M/\acc=(u.take i).map PyData.int/\∃ x y,τ=[x,y,some (.m d)],⟨rfl,rfl,_,_,rfl⟩,?_,?_⟩
 ·rintro i w acc τ M' hw ⟨rfl,rfl,x,y,rfl⟩;rw[List.map_map] at hw;obtain⟨r',hr,rfl⟩:=fG hw;have hi:=(List.getElem?_eq_some_iff.mp hr).1;obtain⟨hn,_⟩:=mV hr;have hrw:=hO.row r' (List.mem_of_getElem? hr);refine⟨by rw[List.length_map,List.length_take];omega,_,rfl,rfl,_,_,rfl,_,_,rfl,rfl,_,rfl,d,_,rfl,H.hd,afQ,_,rfl,S,d,q,r,u,t,v,r'.1,rfl,hO.e,H,hrw.1,λ j hz=>?_,λ hm=>absurd (List.mem_of_getElem? hn) hm⟩;have ej:j=i:=by have hj:j<(nmL S).length:=(List.getElem?_eq_some_iff.mp hz).1;exact(List.getElem?_inj hj (show(nmL S).Nodup from hO.nd)).mp (by rw[hz,hn])
  subst ej;refine⟨_,rfl,rfl,?_,_,_,rfl⟩;rw[List.take_succ,wM (by omega),List.map_append];rfl
 rintro acc τ M' ⟨rfl,rfl,x,y,rfl⟩;have el:u.take ((S.map bp).map W.d).length=u:=List.take_of_length_le (by simp;omega);rw[el];exact⟨_,rfl,few (by simp),k⟩
inductive kH(ws:List W) (M:MH) (Q:QD) (E:XQ):Prop
 | ok (S:Sh) (z0:ws=[.d (shD S),.d (.int 5)]) (z1:OkS S) (z2:M aB=some cdR) (z3:∀ w M',Ext M M'->Q w M'):kH ws M Q E
 | no (d:PyData) (i:Nat) (z0:ws=[.d d,.d (.int 5)]) (z1:Bad d i) (z2:∀ a,M a=none->E a (bf M a (.exc av [("at",.d (.int (i:Nat)))]))):kH ws M Q E
def dA:SpX:=kH
theorem ue:∀ ws M Q E,dA ws M Q E->ws.length=2:=by rintro ws M Q E (⟨S,rfl,_⟩ | ⟨d,i,rfl,_⟩)<;>rfl
theorem rT:∀ ws M Q E,dA ws M Q E->tJ (λ a _ M=>E a M) aF bo {nx:=λ _ M'=>Q (.d .none) M',rt:=Q} (bc tZ ws) M:=by
 rintro ws M Q E (⟨S,rfl,hO,hC,k⟩ | ⟨d,i,rfl,hB,k⟩)
 case no=>exact⟨_,rfl,.no d i rfl hB k⟩
 have sl:=s16;have wp:=tF hO;refine⟨_,rfl,.ok S rfl hO ⟨_,rfl,S,rfl,hO,hC,λ p M' hp mp x=>?_⟩⟩;have el:pq M' (.m p)=some (wn S):=by simp only[pq,mp];simp[dG,rw0]
 refine⟨_,rfl,5,rfl,by omega,by omega,?_⟩;refine⟨λ i acc τ M2=>M2=M'/\acc.length=i/\∃ x,τ=[x,some (.m p)],⟨rfl,rfl,_,rfl⟩,?_,?_⟩
 ·rintro i w acc τ M2 hw ⟨rfl,hl,y,rfl⟩;obtain⟨hi,rfl⟩:=ja hw;rw[Int.zero_add];have hlt:i % wn S<wn S:=Nat.mod_lt _ (by omega);have ix:ixW M2 (.m p) ((i:Int) % ((wn S:Nat):Int))=some (.d (.str (nmS S (own S (i % wn S))))):=by rw[show((i:Int) % ((wn S:Nat):Int))=((i % wn S:Nat):Int) from rfl];exact zy mp (ng (abw hlt))
  exact⟨by omega,_,rfl,_,rfl,_,rfl,_,_,rfl,el,rfl,_,_,rfl,rfl,by omega,_,_,rfl,ix,rfl,_,rfl,rfl,by simp[hl],_,rfl⟩
 ·rintro acc τ M2 ⟨rfl,hl,y,rfl⟩;exact k _ _ x
inductive gb(ws:List W) (M:MH) (Q:QD):Prop
 | no (way:Int) (S:Sh) (d q r:Addr) (u:List Int) (t:Int) (v:W) (x:PyData) (i:Nat) (z0:ws=[.d (.int way),.m d,.d x]) (z1:Dr M S d q r u t v) (z2:Bad x i) (z3:way=1->x ≠ .none) (z4:way=0\/way=1\/way=2) (z5:∀ M',Ext M M'->Q (.d (.int (i:Nat))) M'):gb ws M Q
 | ok (way:Int) (d:Addr) (S:Sh) (z0:ws=[.d (.int way),.m d,.d (shD S)]) (z1:OkS S) (z2:M aB=some cdR) (z4:way=0\/way=1) (z5:∀ M',Ext M M'->Q (.d (.str "told")) M'):gb ws M Q
def bG:SpD:=gb
theorem nh:∀ ws M Q,bG ws M Q->ws.length=3:=by rintro ws M Q (⟨way,S,d,q,r,u,t,v,x,i,rfl,_⟩ | ⟨way,d,S,rfl,_⟩)<;>rfl
theorem lH:∀ ws M Q,bG ws M Q->jN dA aO aD {nx:=λ _ M'=>Q (.d .none) M',rt:=Q} (bc k7 ws) M:=by
 rintro ws M Q (⟨way,S,d,q,r,u,t,v,x,i,rfl,H,hB,hx,hway,k⟩ | ⟨way,d,S,rfl,hO,hC,hway,k⟩)
 ·rcases hway with rfl | rfl | rfl
  ·refine⟨_,rfl,_,_,.d,.d,cT _ _,_,rfl,ux (by rw[cG];rfl) ⟨_,rfl,.no x i rfl hB λ a ha=>?_⟩⟩;exact⟨_,_,true,ag,rfl,fo ⟨_,rfl,a,_,_,_,rfl,ag,rfl,_,rfl,fo ⟨_,rfl,a,_,_,_,rfl,ag,rfl,_,rfl,fo ⟨_,rfl,a,_,_,_,rfl,ag,rfl,_,rfl,fo ⟨_,rfl,a,_,_,_,rfl,ag,by simp,rfl,k _ (Ext.new ha)⟩⟩⟩⟩⟩
  ·refine⟨_,rfl,_,_,.d,.d,cT _ _,_,rfl,km (by rw[cG];rfl) ⟨_,rfl,_,_,.d,.d,cT _ _,_,rfl,ux (by rw[cG];rfl) ⟨_,rfl,λ b hb=>.inr (.inr ⟨b,x,i,rfl,hx rfl,hB,ag,λ a M' ha ma F=>?_⟩)⟩⟩⟩;have X:Ext M M':=λ c o e=>F c o (bC e hb) (cu e hb);exact⟨_,_,true,ma,rfl,fo ⟨_,rfl,a,_,_,_,rfl,ma,rfl,_,rfl,fo ⟨_,rfl,a,_,_,_,rfl,ma,rfl,_,rfl,fo ⟨_,rfl,a,_,_,_,rfl,ma,rfl,_,rfl,fo ⟨_,rfl,a,_,_,_,rfl,ma,by simp,rfl,k _ X⟩⟩⟩⟩⟩
  ·refine⟨_,rfl,_,_,.d,.d,cT _ _,_,rfl,km (by rw[cG];rfl) ⟨_,rfl,_,_,.d,.d,cT _ _,_,rfl,km (by rw[cG];rfl) ⟨_,rfl,d,_,rfl,H.hd,abR,_,rfl,.no d [] x i rfl hB λ a ha=>?_⟩⟩⟩;exact⟨_,_,true,ag,rfl,fo ⟨_,rfl,a,_,_,_,rfl,ag,rfl,_,rfl,fo ⟨_,rfl,a,_,_,_,rfl,ag,rfl,_,rfl,fo ⟨_,rfl,a,_,_,_,rfl,ag,rfl,_,rfl,fo ⟨_,rfl,a,_,_,_,rfl,ag,by simp,rfl,k _ (Ext.new ha)⟩⟩⟩⟩⟩
 ·rcases hway with rfl | rfl
  ·exact⟨_,rfl,_,_,.d,.d,cT _ _,_,rfl,ux (by rw[cG];rfl) ⟨_,rfl,.ok S rfl hO hC λ w M' x=>k _ x⟩⟩
  ·refine⟨_,rfl,_,_,.d,.d,cT _ _,_,rfl,km (by rw[cG];rfl) ⟨_,rfl,_,_,.d,.d,cT _ _,_,rfl,ux (by rw[cG];rfl) ⟨_,rfl,λ b hb=>.inl ⟨S,b,rfl,hO,cu hC hb,ag,λ q' r' M' _ _ _ F=>⟨rfl,k _ ?_⟩⟩⟩⟩⟩;exact λ c o e=>F c o (bC e hb) (cu e hb)
theorem least{P:Nat->Prop}(dec:∀ k,P k\/¬ P k):∀ m,(∃ k,k<m/\P k)->∃ k,k<m/\P k/\∀ k',k'<k->¬ P k'
 | 0,⟨k,h,_⟩=>absurd h (Nat.not_lt_zero _)
 | m+1,⟨k,h,hp⟩=>by
  rcases dec m with q | q
  ·by_cases e:∃ k,k<m/\P k
   ·obtain⟨k',h1,h2⟩:=least dec m e;exact⟨k',by omega,h2⟩
   ·exact⟨m,by omega,q,λ k' hk' hp'=>e ⟨k',hk',hp'⟩⟩
  ·have hk:k<m:=by
    rcases Nat.lt_or_ge k m with z | z
    ·exact z
    ·have:k=m:=by omega
     subst this;exact absurd hp q
   obtain⟨k',h1,h2⟩:=least dec m ⟨k,hk,hp⟩;exact⟨k',by omega,h2⟩
theorem acy{u:List Int}{n o:Nat}(lu:u.length=n)(ho:o<n)(h0:∀ i,0<=cv u i)(hz:¬ ∀ i,cv u i=0):∃ k j,k<n/\j=(o+k) % n/\0<cv u j/\∀ k',k'<k->cv u ((o+k') % n)=0:=by
 have hi:∃ i,i<n/\0<cv u i:=by
  refine Classical.byContradiction λ c=>hz λ i=>?_
  by_cases hi:i<n
  ·have:=h0 i;have:¬ 0<cv u i:=λ z=>c ⟨i,hi,z⟩;omega
  ·unfold cv;rw[List.getD_eq_getElem?_getD,List.getElem?_eq_none (by omega)];rfl
 obtain⟨i,hin,hp⟩:=hi;have hk:(o+(i+n-o) % n) % n=i:=by
  rcases Nat.lt_or_ge i o with z | z
  ·rw[Nat.mod_eq_of_lt (show i+n-o<n by omega),show o+(i+n-o)=i+n by omega,Nat.add_mod_right,Nat.mod_eq_of_lt hin]
  ·rw[show i+n-o=(i-o)+n by omega,Nat.add_mod_right,Nat.mod_eq_of_lt (show i-o<n by omega),show o+(i-o)=i by omega,Nat.mod_eq_of_lt hin]
 obtain⟨k,h1,h2,h3⟩:=least (P:=λ k=>0<cv u ((o+k) % n)) (λ k=>Classical.em _) n ⟨(i+n-o) % n,Nat.mod_lt _ (by omega),by rw[hk];exact hp⟩;exact⟨k,_,h1,rfl,h2,λ k' hk'=>by have:=h0 ((o+k') % n);have:=h3 k' hk';omega⟩
theorem iH{l:List Addr}(h:l.Nodup)(i j:Nat){a b:Addr}(ha:l[i]? =some a)(hb:l[j]? =some b)(n:i≠j):a≠b:=λ e=>by
 subst e;obtain⟨hi,e1⟩:=List.getElem?_eq_some_iff.mp ha;obtain⟨hj,e2⟩:=List.getElem?_eq_some_iff.mp hb;rcases Nat.lt_or_ge i j with q | q
 ·exact List.pairwise_iff_getElem.mp h i j hi hj q (e1.trans e2.symm)
 ·exact List.pairwise_iff_getElem.mp h j i hj hi (by omega) (e2.trans e1.symm)
structure Jw(M:MH)(S:Sh)(p d q r:Addr)(u:List Int)(t:Nat):Prop where
 D:Dr M S d q r u t (.d .none)
 B:Bag M p
 C:M aB=some cdR
 nd:[p,aB,d,q,r].Nodup
 bd:∀ j,0<=cv u j/\cv u j<=40
section
variable {M M':MH}{S:Sh}{p d q r:Addr}{u:List Int}{t:Nat}
theorem Jw.fr(J:Jw M S p d q r u t)(b:Bag M' p)(f:Fr M M' p):Jw M' S p d q r u t:=
 ⟨⟨f _ _ (iH J.nd 2 0 rfl rfl (by decide)) J.D.hd,f _ _ (iH J.nd 3 0 rfl rfl (by decide)) J.D.hq,f _ _ (iH J.nd 4 0 rfl rfl (by decide)) J.D.hr,J.D.lu⟩,b,f _ _ (iH J.nd 1 0 rfl rfl (by decide)) J.C,J.nd,J.bd⟩
theorem Jw.of(J:Jw M S p d q r u t)(b:Bag M' p)(f:∀ b,b≠p->M' b=M b):Jw M' S p d q r u t:=J.fr b (Fr.of f)
theorem Jw.ext(J:Jw M S p d q r u t)(x:Ext M M'):Jw M' S p d q r u t:=J.fr (Ext.bag x J.B) (Fr.ext x)
theorem Jw.ask(J:Jw M S p d q r u t)(hz:(nmL S)[i]? =some z):Jw (bf M q (.dic (kvL (nmL S) (u.set i (cv u i+lin n (cv u i)))))) S p d q r (u.set i (cv u i+lin n (cv u i))) t:=by
 have hi:i<u.length:=by rw[J.D.lu];have:=(List.getElem?_eq_some_iff.mp hz).1;simpa [nmL] using this
 refine⟨⟨?_,ag,?_,by rw[List.length_set];exact J.D.lu⟩,fD J.B (aj (iH J.nd 0 3 rfl rfl (by decide))),?_,J.nd,λ j=>?_⟩
 ·rw[aj (iH J.nd 2 3 rfl rfl (by decide))];exact J.D.hd
 ·rw[aj (iH J.nd 4 3 rfl rfl (by decide))];exact J.D.hr
 ·rw[aj (iH J.nd 1 3 rfl rfl (by decide))];exact J.C
 ·have h1:=J.bd j;have h2:=J.bd i;rw[mq hi]
  split
  ·unfold lin
   split<;>split<;>omega
  ·exact h1
theorem Jw.use(J:Jw M S p d q r u t)(hO:OkS S)(k:∀ w M' u' t',Jw M' S p d q r u' t'->t'<=t+1->Q w M'):aY [.m d] M Q:=by
 refine⟨S,d,q,r,u,t,_,rfl,.inl hO,J.D,λ i=>(J.bd i).1,?_⟩
 by_cases hz:∀ i,cv u i=0
 ·exact .inl ⟨hz,k _ M u t J (by omega)⟩
 ·obtain⟨kk,j,h1,h2,h3,h4⟩:=acy J.D.lu (tR hO t) (λ i=>(J.bd i).1) hz;refine .inr ⟨kk,j,h1,h2,h3,h4,λ M' hd hq fr=>k _ M' (u.set j (cv u j-1)) (t+1) ⟨⟨hd,hq,fr _ _ (iH J.nd 4 2 rfl rfl (by decide)) (iH J.nd 4 3 rfl rfl (by decide)) J.D.hr,by rw[List.length_set];exact J.D.lu⟩,?_,fr _ _ (iH J.nd 1 2 rfl rfl (by decide)) (iH J.nd 1 3 rfl rfl (by decide)) J.C,J.nd,λ i=>?_⟩ (by omega)⟩
  ·obtain⟨a1,a2,a3,a4,e,z⟩:=J.B;exact⟨a1,a2,a3,a4,fr _ _ (iH J.nd 0 2 rfl rfl (by decide)) (iH J.nd 0 3 rfl rfl (by decide)) e,z⟩
  ·have hj:j<u.length:=by rw[J.D.lu,h2];exact Nat.mod_lt _ (by have:=tR hO t;omega)
   have b1:=J.bd i;have b2:=J.bd j;rw[mq hj]
   split<;>omega
theorem afj(J:Jw M S p d q r u t)(hO:OkS S)(ht:t<=1000):okD 2 (stD S u t)=true:=by
 have big:(2:Nat) ^ 100 > 10000000:=by decide
 have hz:∀ l:List Int,(∀ n∈l,0<=n/\n<=40)->okA 0 (l.map PyData.int)=true:=by
  intro l
  induction l with
  | nil=>intro _;rfl
  | cons z l ih =>
   intro hl;have hr:=hl z (by simp);simp only[List.map_cons,okA,okD,Bool.and_eq_true,decide_eq_true_eq];exact⟨by omega,ih λ x hx=>hl x (by simp[hx])⟩
 have hu:=hz u λ n hn=>by
  obtain⟨i,hi,e⟩:=List.mem_iff_getElem.mp hn;have:=J.bd i;have e2:cv u i=n:=by simp[cv,List.getD,List.getElem?_eq_getElem hi,e]
  rw[<- e2];exact this
 have hw:wd (nmS S (own S t))=true:=rG hO.e (kM (tR hO t));simp only[stD,okD,okA,Bool.and_true,Bool.and_eq_true,decide_eq_true_eq];exact⟨by omega,k6 hw,hu⟩
end
inductive LwP(S:Sh) (p d q r:Addr) (n:Nat) (τ:DS) (M:MH):Prop
 | mk (u:List Int) (t:Nat) (x0 x4 x5 x6 x7 x8 x9 x10 x11 x12 x13:Option W) (e:τ=[x0,some (.m p),some (.d (shD S)),some (.m d),x4,x5,x6,x7,x8,x9,x10,x11,x12,x13]) (J:Jw M S p d q r u t) (ht:t<=n):LwP S p d q r n τ M
inductive InP(S:Sh) (p d q r:Addr) (u:List Int) (t:Nat) (x:PyData) (i:Nat) (way:Int) (τ:DS) (M:MH):Prop
 | mk (x0 x4 x5 x11 x12 x13:Option W) (e:τ=[x0,some (.m p),some (.d (shD S)),some (.m d),x4,x5,some (.d x),some (.d (.int (i:Nat))),some (.d (.int way)),some (.d (.str (qN x))),some (.d (stD S u t)),x11,x12,x13]) (J:Jw M S p d q r u t):InP S p d q r u t x i way τ M
def kF:SpD:=λ ws M Q=>∃ ns:List Int,ws=[.d (.list (ns.map PyData.int))]/\ns.length<=63/\M aB=some cdR/\∀ M',Q (.d (.bool true)) M'
theorem adR:∀ ws M Q,kF ws M Q->ws.length=1:=by rintro ws M Q ⟨d,rfl,_⟩;rfl
theorem zA:∀ ns:List Int,ns.length<=63->kF [.d (.list (ns.map PyData.int))] (M1T aB fg ⟨51,41,51,92⟩) (λ w _=>w=.d (.bool true)):=λ ns h=>⟨ns,rfl,h,if_pos rfl,λ _=>rfl⟩
theorem ne_self(hk:k<=50)(h:okD k d=true):d6 d d=true/\PyData.eqv d d=true:=by refine⟨?_,acY h⟩;have:=fA hk h;cases d<;>simp[d6,this]
theorem zM(h:Bd 60000 6 x):d6 (.str (qN x)) (.str (qN x))=true/\PyData.eqv (.str (qN x)) (.str (qN x))=true:=by have:=(ae4 h).f;exact ne_self (k:=0) (by decide) (by simp only[okD];simpa only[cO] using this)
inductive Emp(M:MH) (a:Addr):Prop
 | mk (q r:Addr) (D:Dr M [] a q r [] (0:Nat) (.d .none)):Emp M a
theorem Emp.ext{M M':MH}(h:Emp M a)(x:Ext M M'):Emp M' a:=by obtain⟨q,r,D⟩:=h;exact⟨q,r,D.ext x⟩
theorem zp:∀ ws M Q,kF ws M Q->agq eF bF aO ay cB aY cx cE bG aK bh bX {nx:=λ _ M'=>Q (.d .none) M',rt:=Q} (bc aeI ws) M:=by
 rintro ws M Q ⟨ns,rfl,hl,hC,k⟩;have sl:=s16;refine⟨_,rfl,ns,rfl,by omega,λ p M1 hp f1 b1=>?_⟩;have pC:aB≠p:=λ e=>by rw[e,hp] at hC;cases hC
 have C1:M1 aB=some cdR:=by rw[f1 _ pC];exact hC
 refine⟨_,rfl,p,rfl,b1,λ S M2 hO b2 g2=>?_⟩;have C2:=g2 _ _ pC C1;have h4:=hO.len;have hpos:1<=S.length:=by
  cases e:S with
  | nil=>exact absurd e hO.ne
  | cons _ _=>simp
 refine⟨_,rfl,_,_,rfl,.l,λ f hf=>⟨f,S.map bp,rfl,ag,?_⟩⟩;have x3:=sealed (o:=.lst ((S.map bp).map W.d)) hf;generalize pf (bf M2 f (.lst ((S.map bp).map W.d))) f=M3 at x3;have C3:=x3 _ _ C2;have b3:=Ext.bag x3 b2;intro d hd;refine .inl ⟨S,d,rfl,hO,cu C3 hd,ag,λ q r M4 hq hr D4 F4=>⟨rfl,?_⟩⟩;have X4:Ext M3 M4:=λ c o e=>F4 c o (bC e hd) (cu e hd);have qd:q≠d:=λ e=>by rw[e,ag] at hq;cases hq
 have rd:r≠d:=λ e=>by rw[e,ag] at hr;cases hr
 rw[aj qd] at hq;rw[aj rd] at hr;obtain⟨o3,ho3⟩:=abI b3;have J4:Jw M4 S p d q r (List.replicate S.length 0) 0:=by
  refine⟨D4,Ext.bag X4 b3,X4 _ _ C3,?_,λ j=>?_⟩
  ·simp only[List.nodup_cons,List.mem_cons,List.not_mem_nil,or_false,not_or,List.nodup_nil,and_true,not_false_eq_true];exact⟨⟨pC.symm,bC ho3 hd,bC ho3 hq,bC ho3 hr⟩,⟨bC C3 hd,bC C3 hq,bC C3 hr⟩,⟨qd.symm,rd.symm⟩,D4.qr⟩
  ·have:cv (List.replicate S.length 0) j=0:=xY S j;omega
 have el:∀ N:MH,pq N (.d (shD S))=some S.length:=λ N=>by simp[pq,shD]
 refine⟨_,rfl,p,9,rfl,J4.B,by decide,by decide,λ n M5 n0 n1 b5 g5=>⟨n,rfl,by omega,by omega,?_⟩⟩;refine⟨λ i τ M'=>LwP S p d q r i τ M',⟨_,0,_,_,_,_,_,_,_,_,_,_,_,rfl,J4.of b5 g5,Nat.zero_le _⟩,?_,?_⟩
 ·rintro i w τ M6 hw ⟨u,t,x0,x4,x5,x6,x7,x8,x9,x10,x11,x12,x13,rfl,J,ht⟩;obtain⟨hi,rfl⟩:=ja hw;refine⟨_,rfl,d,_,rfl,J.D.hd,ahm,_,rfl,_,rfl,_,rfl,_,_,rfl,el _,rfl,p,_,rfl,J.B,by omega,by omega,λ m M7 m0 m1 b7 g7=>?_⟩;obtain⟨m,rfl⟩:=Int.eq_ofNat_of_zero_le m0;have hm:m<S.length:=by omega
  have hy:S[m]? =some S[m]:=List.getElem?_eq_getElem hm;obtain⟨hn,_⟩:=mV hy;have J7:=J.of b7 g7;refine⟨_,_,rfl,abv hy,rfl,0,_,rfl,rfl,rfl,_,rfl,p,5,rfl,b7,by decide,by decide,λ z M8 z0 z1 b8 g8=>.inl ⟨_,_,rfl,rfl,?_⟩⟩;have J8:=J7.of b8 g8;have hrw:=hO.row _ (List.getElem_mem hm);refine⟨S,d,q,r,u,t,_,_,_,rfl,hO.e,J8.D,hrw.1,λ j hz=>?_,λ hno=>absurd (List.mem_of_getElem? hn) hno⟩;have J9:=J8.ask (n:=1+z) hz;generalize bf M8 q _=M9 at J9;refine⟨_,rfl,p,2,rfl,J9.B,by decide,by decide,λ y M10 y0 y1 b10 g10=>⟨_,_,.d,.d,cT _ _,_,rfl,ia (λ _=>?_) (λ _=>?_)⟩⟩
  ·refine⟨_,rfl,d,_,rfl,(J9.of b10 g10).D.hd,adO,(J9.of b10 g10).use hO λ w M' u' t' J' ht'=>⟨_,_,_,_,_,_,_,_,_,_,_,_,_,rfl,J',by omega⟩⟩
  ·exact⟨_,_,_,_,_,_,_,_,_,_,_,_,_,rfl,J9.of b10 g10,by omega⟩
 rintro τ M6 ⟨u,t,x0,x4,x5,x6,x7,x8,x9,x10,x11,x12,x13,rfl,J6,ht6⟩;have ht6:t<=9:=by simp only[ij,List.length_map,List.length_range] at ht6;omega
 refine⟨8,rfl,by omega,by omega,?_⟩;refine⟨λ i τ M'=>LwP S p d q r (9+i) τ M',⟨u,t,_,_,_,_,_,_,_,_,_,_,_,rfl,J6,ht6⟩,?_,?_⟩
 ·rintro i w τ M6 hw ⟨u,t,x0,x4,x5,x6,x7,x8,x9,x10,x11,x12,x13,rfl,J,ht⟩;obtain⟨hi,rfl⟩:=ja hw;have hi8:i<8:=hi;refine⟨_,rfl,p,rfl,J.B,λ x at' M7 hB hd' b7 f7=>⟨_,rfl,rfl,_,_,rfl,_,_,rfl,rfl,?_⟩⟩;have J7:=J.fr b7 f7;refine⟨_,rfl,p,3,rfl,b7,by decide,by decide,λ way M8 w0 w1 b8 g8=>?_⟩;have J8:=J7.of b8 g8;dsimp only[gN];refine jB (λ τ' M'=>M'=M8/\∃ way',(way'=0\/way'=1\/way'=2)/\(way'=1->x ≠ .none)/\τ'=[x0,some (.m p),some (.d (shD S)),some (.m d),x4,some (.d (.int (0+(i:Int)))),some (.d x),some (.d (.int (at':Nat))),some (.d (.int way')),x9,x10,x11,x12,x13]) (λ τ' M' ⟨eM,way',hw1,hw2,e⟩=>?_) (λ rest=>?_)
  case refine_2 =>
   refine⟨_,rfl,rfl,_,rfl,?_⟩
   by_cases hx:x=.none
   ·subst hx;refine fo ⟨_,rfl,_,_,.d,.d,cT _ _,_,rfl,ia (λ _=>rest _ _ ⟨rfl,0,.inl rfl,(λ z=>by cases z),rfl⟩) (λ hne=>rest _ _ ⟨rfl,way,by omega,λ z=>?_,rfl⟩)⟩;rw[z,cG] at hne;simp at hne
   ·have hn:xor false (isNone (.d x))=false:=by
     cases x with
     | none=>exact absurd rfl hx
     | _=>rfl
    exact km hn (ik (rest _ _ ⟨rfl,way,by omega,λ _=>hx,rfl⟩))
  subst eM e;have sp:=zM hd';have so:=afj J8 hO (by omega);have ss:=ne_self (by decide) so;refine⟨_,rfl,x,rfl,hd'.rp (by decide) (by decide),?_⟩;refine⟨_,rfl,_,rfl,S,d,q,r,u,t,_,rfl,hO,J8.D,?_⟩;refine⟨_,rfl,p,2,rfl,J8.B,by decide,by decide,λ n M9 n0 n1 b9 g9=>.inl ⟨_,_,rfl,rfl,_,rfl,by omega,by omega,?_⟩⟩;have J9:=J8.of b9 g9;refine⟨λ _ τ M'=>InP S p d q r u t x at' way' τ M',⟨_,_,_,_,_,_,rfl,J9⟩,?_,?_⟩
  ·rintro j w τ M10 hw ⟨y0,y4,y5,y11,y12,y13,rfl,J10⟩;obtain⟨hj,rfl⟩:=ja hw;refine⟨_,rfl,_,rfl,_,rfl,.no way' S d q r u t _ x at' rfl J10.D hB hw2 hw1 λ M11 X11=>?_⟩;have J11:=J10.ext X11;refine⟨_,rfl,_,rfl,_,_,.d,.d,cT _ _,_,rfl,km (by rw[cG,decide_eq_true rfl];rfl) ?_⟩;refine⟨_,rfl,_,_,_,rfl,.d,.bool,_,rfl,ik ⟨_,rfl,x,rfl,hd'.rp (by decide) (by decide),_,rfl,_,_,.d,.d,sp.1,_,rfl,?_⟩⟩;rw[sp.2];refine ik ⟨_,rfl,_,rfl,S,d,q,r,u,t,_,rfl,hO,J11.D,_,rfl,_,_,.d,.d,ss.1,_,rfl,?_⟩;rw[ss.2];exact ik ⟨_,_,_,_,_,_,rfl,J11⟩
  ·rintro τ M10 ⟨y0,y4,y5,y11,y12,y13,rfl,J10⟩;refine⟨_,rfl,_,rfl,_,_,rfl,.l,λ f hf=>⟨f,S.map bp,rfl,ag,?_⟩⟩;have x11:=sealed (o:=.lst ((S.map bp).map W.d)) hf;generalize pf (bf M10 f (.lst ((S.map bp).map W.d))) f=M11 at x11;have J11:=J10.ext x11;have told:=ne_self (d:=.str "told") (k:=0) (by decide) (by decide +kernel);refine .ok 0 d S rfl hO J11.C (.inl rfl) λ M12 x12=>⟨_,_,.d,.d,told.1,_,rfl,?_⟩;rw[told.2];have J12:=J11.ext x12;refine ik ⟨_,rfl,_,rfl,_,_,rfl,.l,λ f hf=>⟨f,S.map bp,rfl,ag,?_⟩⟩;have x13:=sealed (o:=.lst ((S.map bp).map W.d)) hf;generalize pf (bf M12 f (.lst ((S.map bp).map W.d))) f=M13 at x13;have J13:=J12.ext x13;refine .ok 1 d S rfl hO J13.C (.inr rfl) λ M14 x14=>⟨_,_,.d,.d,told.1,_,rfl,?_⟩;rw[told.2];have J14:=J13.ext x14;refine ik ⟨_,rfl,p,2,rfl,J14.B,by decide,by decide,λ y M15 y0 y1 b15 g15=>⟨_,_,.d,.d,cT _ _,_,rfl,ia (λ _=>?_) (λ _=>?_)⟩⟩
   ·refine⟨_,rfl,d,_,rfl,(J14.of b15 g15).D.hd,adO,(J14.of b15 g15).use hO λ w M' u' t' J' ht'=>⟨_,_,_,_,_,_,_,_,_,_,_,_,_,rfl,J',by omega⟩⟩
   ·exact⟨_,_,_,_,_,_,_,_,_,_,_,_,_,rfl,J14.of b15 g15,by omega⟩
 rintro τ M7 ⟨u',t',x0',x4',x5',x6',x7',x8',x9',x10',x11',x12',x13',rfl,J7,ht7⟩;have made:∀ {M:MH} {a q r:Addr} {M':MH},M a=none->Dr M' [] a q r [] 0 (.d .none)->Fr (bf M a (.ins ao [])) M' a->Ext M M'/\Emp M' a:=λ ha D F=>⟨λ c o e=>F c o (bC e ha) (cu e ha),⟨_,_,D⟩⟩;intro a ha;refine .inr (.inl ⟨a,rfl,ag,λ q1 r1 M8 _ _ D8 F8=>⟨rfl,?_⟩⟩);obtain⟨X8,E8⟩:=made ha D8 F8;intro b hb;refine .inr (.inl ⟨b,rfl,ag,λ q1 r1 M9 _ _ D9 F9=>⟨rfl,?_⟩⟩);obtain⟨X9,E9⟩:=made hb D9 F9;intro c hc;refine .inr (.inl ⟨c,rfl,ag,λ q1 r1 M10 _ _ D10 F10=>⟨rfl,?_⟩⟩);obtain⟨X10,E10⟩:=made hc D10 F10;refine⟨few (by simp),λ l hl'=>⟨l,_,rfl,ag,?_⟩⟩;have nl:∀ {e:Addr} {o:MO},M10 e=some o->bf (bf M10 l (.lst [.m a,.m b,.m c])) l (.flst [.m a,.m b,.m c]) e=some o:=λ {e o} he=>by rw[aj (bC he hl'),aj (bC he hl')];exact he
 have X11:Ext M10 (bf (bf M10 l (.lst [.m a,.m b,.m c])) l (.flst [.m a,.m b,.m c])):=λ e o he=>nl he;generalize bf (bf M10 l (.lst [.m a,.m b,.m c])) l (.flst [.m a,.m b,.m c])=M11 at X11;have Ea:=((E8.ext X9).ext X10).ext X11;have Eb:=(E9.ext X10).ext X11;have Ec:=E10.ext X11;refine⟨λ _ τ M'=>Emp M' a/\Emp M' b/\Emp M' c/\∃ y0 y1 y2 y3 y4 y5 y6 y7 y8 y9 y10 y11 y12 y13,τ=[y0,y1,y2,y3,y4,y5,y6,y7,y8,y9,y10,y11,y12,y13],⟨Ea,Eb,Ec,_,_,_,_,_,_,_,_,_,_,_,_,_,_,rfl⟩,?_,?_⟩
 ·rintro i w τ M12 hw ⟨Fa,Fb,Fc,y0,y1,y2,y3,y4,y5,y6,y7,y8,y9,y10,y11,y12,y13,rfl⟩;obtain⟨e,rfl,He⟩:∃ e,w=.m e/\Emp M12 e:=by
   have hm:=List.mem_of_getElem? hw;simp only[List.mem_cons,List.not_mem_nil,or_false] at hm;rcases hm with rfl | rfl | rfl
   ·exact⟨_,rfl,Fa⟩
   ·exact⟨_,rfl,Fb⟩
   ·exact⟨_,rfl,Fc⟩
  obtain⟨q1,r1,D⟩:=He;have z:∀ i,cv ([]:List Int) i=0:=λ i=>by simp[cv]
  refine⟨_,rfl,e,_,rfl,D.hd,adZ,.inr ⟨e,q1,r1,[],_,_,rfl,D,rfl,_,rfl,ik ?_⟩⟩;refine⟨_,rfl,e,_,rfl,D.hd,adO,⟨[],e,q1,r1,[],0,_,rfl,.inr z,D,λ i=>by rw[z i];exact Int.le_refl _,.inl ⟨z,rfl,_,rfl,ik ?_⟩⟩⟩;refine⟨_,rfl,e,_,rfl,D.hd,afT,e,q1,r1,_,_,rfl,D.hd,_,_,.d,.d,cT _ _,_,rfl,km (by rw[cG];rfl) ?_⟩;refine⟨_,rfl,e,_,rfl,D.hd,ah4,_,rfl,few (by simp),_,rfl,few (by simp),e,q1,r1,[],_,rfl,z,D,λ h M13 hh mh X13=>⟨_,rfl,few (by simp),_,_,.l (ds:=[]) mh,.d,(ne_self (d:=.list []) (k:=1) (by decide) (by decide +kernel)).1,_,rfl,?_⟩⟩;rw[(ne_self (d:=.list []) (k:=1) (by decide) (by decide +kernel)).2];exact ik ⟨Fa.ext X13,Fb.ext X13,Fc.ext X13,_,_,_,_,_,_,_,_,_,_,_,_,_,_,rfl⟩
 ·rintro τ M12 _;exact k _
end K87
namespace K87
open L2 D Stc
def top(i:Nat):Stmt:=PySem.Challenge.pw_placedworks_k87_shares_refused.main.body.getD i (.Pass ⟨0,0,0,0⟩)
abbrev kg:Stmt:=top 23
abbrev hJ:Stmt:=top 24
abbrev eW:Stmt:=top 25
abbrev bJ:Stmt:=inClass (top 3) 0
abbrev fh:Stmt:=top 10
abbrev fc:Stmt:=top 8
abbrev dR:Stmt:=top 9
abbrev cL:Stmt:=top 15
abbrev bA:Stmt:=top 14
abbrev iG:Stmt:=top 18
abbrev cV:Stmt:=top 17
abbrev dE:Stmt:=inClass (top 21) 2
abbrev aZ:Stmt:=inClass (top 21) 1
abbrev cD:Stmt:=inClass (top 21) 0
abbrev bT:Stmt:=inClass (top 5) 0
abbrev bY:Stmt:=inClass (top 21) 4
abbrev du:Stmt:=inClass (top 21) 3
abbrev bK:Stmt:=inClass (top 21) 8
abbrev dw:Stmt:=inClass (top 21) 6
abbrev fj:Stmt:=inClass (top 21) 7
abbrev fW:Stmt:=top 26
abbrev eU:Stmt:=top 27
abbrev dX:Stmt:=inClass (top 21) 5
abbrev fL:Stmt:=top 29
abbrev fB:Stmt:=top 16
abbrev dQ:Stmt:=top 28
abbrev bQ:Stmt:=inClass (top 21) 10
abbrev d3:Stmt:=inClass (top 21) 9
abbrev n9:Stmt:=top 30
structure Env(K:FG)(mg:Str->Option Value):Prop where
 k_Door:Cls K ao
 m_Door:mg "Door" = some (.ref ao)
 m_BadBerths:mg "BadBerths" = some (.ref ee)
 m_BadRow:mg "BadRow" = some (.ref ip)
 m_BadShare:mg "BadShare" = some (.ref av)
 m_PlaceError:mg "PlaceError" = some (.ref eK)
 m_Unknown:mg "Unknown" = some (.ref aU)
 x_BadShare:XO.XC K av
 x_Unknown:XO.XC K aU
 e_BadShare_PlaceError:W.exmOne K (.ref av) (.ref eK)=some true
 h_round_of:W.codeHdIn K df aB=true
 i_BadShare_BadBerths_BadRow:W.kitAny K (.ref av) [.ref ee,.ref ip]=some false
 i_BadShare_BadShare:W.kitAny K (.ref av) [.ref av]=some true
 i_BadShare_ValueError:W.kitAny K (.ref av) [.type "ValueError"]=some true
 n_BadShare_at:cJ K av "at"
 n_Door_asks_waiting:cJ K ao "asks_waiting"
 n_Door_next_slot:cJ K ao "next_slot"
 n_Door_number_led:cJ K ao "number_led"
 n_Door_owner_round:cJ K ao "owner_round"
 n_Unknown_name:cJ K aU "name"
 b_ValueError:mg "ValueError" = none
 b_abs:mg "abs" = none
 b_all:mg "all" = none
 b_any:mg "any" = none
 b_bool:mg "bool" = none
 b_enumerate:mg "enumerate" = none
 b_int:mg "int" = none
 b_isinstance:mg "isinstance" = none
 b_len:mg "len" = none
 b_list:mg "list" = none
 b_max:mg "max" = none
 b_min:mg "min" = none
 b_range:mg "range" = none
 b_str:mg "str" = none
 b_sum:mg "sum" = none
 b_tuple:mg "tuple" = none
 b_zip:mg "zip" = none
 c_LONGEST_WORD:∃ t,mg "LONGEST_WORD" = some (.int 8 t)
 c_MOST_GROUPS:∃ t,mg "MOST_GROUPS" = some (.int 4 t)
 c_MOST_SHARE:∃ t,mg "MOST_SHARE" = some (.int 9 t)
 c_MOST_WAITING:∃ t,mg "MOST_WAITING" = some (.int 40 t)
section
variable (P:Program)(w:World)(K:FG)(mg:Str->Option Value)(base:Heap)
abbrev vR:=ZZ P w K mg base (Fn K mg "_law_bag" kg ["_law_script"]) 1 ["_law_script"] eF
abbrev iy:=ZZ P w K mg base (Fn K mg "_law_take" hJ ["_law_bag_here", "_law_many"]) 1 ["_law_bag_here", "_law_many"] ay
abbrev iV:=ZZ P w K mg base (Fn K mg "_law_shares" eW ["_law_bag_here"]) 2 ["_law_bag_here"] bF
abbrev mG:=ZZ P w K mg base (Fn K mg "is_whole" fc ["thing"]) 1 ["thing"] bM
abbrev jG:=ZZ P w K mg base (Fn K mg "is_within" dR ["thing", "low", "high"]) 2 ["thing", "low", "high"] bP
abbrev tO:=ZZ P w K mg base (Fn K mg "due_at" iG ["unit", "whole", "share"]) 1 ["unit", "whole", "share"] dz
abbrev cM:=ZZ P w K mg base (Mf K ao "is_waited_at" "Door.is_waited_at" bK ["self"]) 1 ["self"] aC
abbrev eE:=ZZ P w K mg base (Mf K ao "owner" "Door.owner" dw ["self"]) 1 ["self"] aK
abbrev iT:=ZZ P w K mg base (Mf K ao "use" "Door.use" fj ["self"]) 2 ["self"] aY
abbrev px:=ZZ P w K mg base (Fn K mg "_law_wrong" fW ["_law_bag_here", "_law_ahead"]) 2 ["_law_bag_here", "_law_ahead"] cH
abbrev lT:=ZZ P w K mg base (Fn K mg "_law_spoilt" eU ["_law_bag_here"]) 3 ["_law_bag_here"] cx
abbrev gJ:=ZZ P w K mg base (Mf K ao "slot" "Door.slot" dX ["self"]) 1 ["self"] bh
abbrev pH:=ZZ P w K mg base (Fn K mg "_law_state" fL ["_law_door", "_law_parted"]) 4 ["_law_door", "_law_parted"] cE
abbrev lj:=ZZ P w K mg base (Fn K mg "_law_refused" dQ ["_law_way", "_law_door", "_law_thing"]) 8 ["_law_way", "_law_door", "_law_thing"] bG
abbrev eD:=ZZ P w K mg base (Mf K ao "number_next" "Door.number_next" bQ ["self", "hands"]) 1 ["self", "hands"] aM
abbrev jW:=ZZ P w K mg base (Mf K ao "lead" "Door.lead" d3 ["self", "copies"]) 3 ["self", "copies"] bX
end
section
variable {P:Program}{w:World}{K:FG}{mg:Str->Option Value}{base:Heap}
theorem ag4:(["_law_cell"]:List Str).Nodup:=by decide +kernel
theorem aaq:aP xP ["_law_script"] (ai kg):=⟨rfl,rfl,rfl,by decide +kernel,rfl,by decide +kernel,by decide +kernel⟩
theorem aar{f:Addr}{fd:FuncData}(E:Env K mg)(F:Fn K mg "_law_bag" kg ["_law_script"] f fd) :
  bW P w K mg base CX0 1 f fd ["_law_script"] (ef K eF):=by
 refine cW (t:=v8) F.fn aaq wN (λ cdv A outer s H E' hr=>?_) vb;refine Jd.h ?_;exact ak (aH (fF (aw (af) (aw (af) (aw (af) (aw (gz rfl (oA (own:=(["_law_cell"]:List Str)) (fr:=[]) rfl) (bD (dB (dvQ 0) (cz) (cC (af)))) (λ _ _ _ _ _ _=>ax (i:=0) ag4 rfl (Or.inl rfl)) (λ _ _ _ _ _ _=>bV) (λ _ _ _ _ _ _=>k9 yQ ae9 rfl E.b_abs afd (aw (dvQ 0) (aa)))) (aa)))))))
theorem eV:aP su ["_law_bag_here", "_law_many"] (ai hJ):=⟨rfl,rfl,rfl,by decide +kernel,rfl,by decide +kernel,by decide +kernel⟩
theorem ym{f:Addr}{fd:FuncData}(E:Env K mg)(F:Fn K mg "_law_take" hJ ["_law_bag_here", "_law_many"] f fd) :
  bW P w K mg base CX0 1 f fd ["_law_bag_here", "_law_many"] (ef K ay):=by
 refine cW (t:=sx) F.fn eV ur (λ cdv A outer s H E' hr=>?_) si;refine Jd.h ?_;exact ae (bB (aJ (abF hr.h) afx (bw bu bt (dvQ 0) (af)) (af))
   (ae (az (i:=2) eV.nd rfl (Or.inl rfl) (af)) <|
   ae (bB (aJ ahg ael (bw bu bt (dvQ 0) (af)) (k9 cZ fM rfl E.b_len fO (aw (bw bu bt (dvQ 0) (af)) (aa))))
    (ak (az (i:=2) eV.nd rfl (Or.inl rfl) (bw bu bt (bw bu bt (dvQ 0) (af)) (bw bu bt (dvQ 0) (af)))))
    (aR)) <|
   ae (vt (dvQ 0) (af) (af) sZ) <|
   ae (bB (aJ ae3 abh (dvQ 2) (af))
    (ak (hG (dvQ 2) (nK (dvQ 0) (af))))
    (aR)) <|
   ak (hG (aV fQ dY (aV cK bU (aV cK bU (aV g6 fu (bw bu bt (dvQ 0) (af)) (af)) (aV fQ dY (dvQ 2) (af))) (aV g6 fu (af) (bw bu bt (dvQ 0) (af)))) (af)) (nK (dvQ 0) (af))))
   (aR)) <|
  ae (bB (aJ rN jV (bw bu bt (dvQ 0) (af)) (af))
   (ae (az (i:=3) eV.nd rfl (Or.inl rfl) (aV fQ dY (bw bu bt (dvQ 0) (af)) (dvQ 1))) <|
   ae (hG (aV mS ny (bw bu bt (dvQ 0) (af)) (dvQ 1)) (nK (dvQ 0) (af))) <|
   ak (aH (dvQ 3)))
   (aR)) <|
  ae (az (i:=4) eV.nd rfl (Or.inl rfl) (aV fQ dY (aV g6 fu (aV cK bU (bw bu bt (dvQ 0) (af)) (af)) (af)) (af))) <|
  ae (az (i:=5) eV.nd rfl (Or.inl rfl) (aV fQ dY (aV g6 fu (aV fQ dY (aV g6 fu (dvQ 4) (dvQ 4)) (af)) (af)) (af))) <|
  ae (bB (aJ rN jV (dvQ 1) (af))
   (ak (aH (aV fQ dY (aV cK bU (aV g6 fu (dvQ 5) (af)) (dvQ 4)) (dvQ 1))))
   (aR)) <|
  ak (aH (aV fQ dY (aV mS ny (dvQ 5) (af)) (dvQ 1)))
theorem aih:(["_law_k", "_law_letters", "_law_bag_here"]:List Str).Nodup:=by decide +kernel
theorem bL:aP mr ["_law_bag_here"] (ai eW):=⟨rfl,rfl,rfl,by decide +kernel,rfl,by decide +kernel,by decide +kernel⟩
theorem rC{f:Addr}{fd:FuncData}(E:Env K mg)(F:Fn K mg "_law_shares" eW ["_law_bag_here"] f fd)(z_l_take:iy P w K mg base) :
  bW P w K mg base CX0 2 f fd ["_law_bag_here"] (ef K bF):=by
 obtain⟨_,_,G_l_take,O_l_take⟩:=z_l_take;refine cW (t:=lV ay) F.fn bL oM (λ cdv A outer s H E' hr=>?_) nP;refine Jd.h ?_;exact ae (az (i:=1) bL.nd rfl (Or.inr rfl) (bj)) <|
  ae (az (i:=2) bL.nd rfl (Or.inl rfl) (zU (bj) (gz rfl (oA (own:=(["_law_k"]:List Str)) (fr:=[1,0]) rfl) (cy rfl E.b_range (aw (eR O_l_take (hr.mono (by decide)) rfl G_l_take.mg G_l_take.fn.kp G_l_take.bd (aw (dvQ 0) (aw (af) (aa)))) (aa))) (λ _ _ _ _ _ _=>ax (i:=0) aih rfl (Or.inl rfl)) (λ _ _ _ _ _ _=>bV) (λ _ _ _ _ _ _=>bw bu bt (dvQ 1) (eR O_l_take (hr.mono (by decide)) rfl G_l_take.mg G_l_take.fn.kp G_l_take.bd (aw (dvQ 2) (aw (af) (aa)))))))) <|
  ae (az (i:=3) bL.nd rfl (Or.inl rfl) (eR O_l_take (hr.mono (by decide)) rfl G_l_take.mg G_l_take.fn.kp G_l_take.bd (aw (dvQ 0) (aw (af) (aa))))) <|
  ae (az (i:=4) bL.nd rfl (Or.inl rfl) (bw bu bt (cS (aw (af) (aw (af) (aw (af) (aw (af) (aw (af) (aw (af) (aa)))))))) (eR O_l_take (hr.mono (by decide)) rfl G_l_take.mg G_l_take.fn.kp G_l_take.bd (aw (dvQ 0) (aw (af) (aa)))))) <|
  ae (az (i:=5) bL.nd rfl (Or.inl rfl) (eR O_l_take (hr.mono (by decide)) rfl G_l_take.mg G_l_take.fn.kp G_l_take.bd (aw (dvQ 0) (aw (aV cK bU (k9 cZ fM rfl E.b_len fO (aw (dvQ 2) (aa))) (af)) (aa))))) <|
  ae (az (i:=6) bL.nd rfl (Or.inl rfl) (fF (aa))) <|
  ae (eJ PassesOwn.never rfl (cy rfl E.b_range (aw (aV cK bU (af) (eR O_l_take (hr.mono (by decide)) rfl G_l_take.mg G_l_take.fn.kp G_l_take.bd (aw (dvQ 0) (aw (af) (aa))))) (aa))) (ax (i:=7) bL.nd rfl (Or.inl rfl))
   (ae (az (i:=8) bL.nd rfl (Or.inl rfl) (bw bu bt (dvQ 1) (aV fQ dY (aV cK bU (dvQ 3) (aV g6 fu (dvQ 4) (dvQ 7))) (af)))) <|
   ae (az (i:=9) bL.nd rfl (Or.inl rfl) (aV cK bU (aV cK bU (dB (dvQ 2) (cz) (cC (dvQ 5))) (dvQ 8)) (dB (dvQ 2) (cC (dvQ 5)) (cz)))) <|
   ae (az (i:=10) bL.nd rfl (Or.inl rfl) (cS (aw (aV cK bU (af) (eR O_l_take (hr.mono (by decide)) rfl G_l_take.mg G_l_take.fn.kp G_l_take.bd (aw (dvQ 0) (aw (af) (aa))))) (aw (af) (aw (af) (aw (aV cK bU (af) (eR O_l_take (hr.mono (by decide)) rfl G_l_take.mg G_l_take.fn.kp G_l_take.bd (aw (dvQ 0) (aw (af) (aa))))) (aa))))))) <|
   ak (bS (gh (dvQ 6) (aX (aw (dvQ 9) (aw (bw bu bt (dvQ 10) (eR O_l_take (hr.mono (by decide)) rfl G_l_take.mg G_l_take.fn.kp G_l_take.bd (aw (dvQ 0) (aw (af) (aa))))) (aa)))))))) <|
  ak (aH (gf (dvQ 6)))
theorem jo:aP kT ["self", "at"] (ai bJ):=⟨rfl,rfl,rfl,by decide +kernel,rfl,by decide +kernel,by decide +kernel⟩
theorem jk{f:Addr}{fd:FuncData}(E:Env K mg)(F:Xi K av "BadShare.__init__" bJ ["self", "at"] f fd):bW P w K mg base CX0 1 f fd ["self", "at"] (uP av ["at"]):=agw F.fn jo F.xm.xc E.n_BadShare_at rfl (λ _=>rfl) rfl rfl
theorem ahS:(["sign"]:List Str).Nodup:=by decide +kernel
theorem va:aP iu ["thing"] (ai fh):=⟨rfl,rfl,rfl,by decide +kernel,rfl,by decide +kernel,by decide +kernel⟩
theorem uX{f:Addr}{fd:FuncData}(E:Env K mg)(F:Fn K mg "is_word" fh ["thing"] f fd) :
  bW P w K mg base CX0 1 f fd ["thing"] (ef K bE):=by
 refine cW (t:=jZ) F.fn va rM (λ cdv A outer s H E' hr=>?_) oK;refine Jd.h ?_;exact ae (bB (fZ (dI (dM (dm (k9 eX iW rfl E.b_isinstance bZ (aw (dvQ 0) (aw (gj rfl E.b_str xA) (aa)))))) (eI (dM (uM kC gM kC gM (af) (k9 cZ fM rfl E.b_len fO (aw (dvQ 0) (aa))) (gZ rfl (E.c_LONGEST_WORD).choose_spec))))))
   (ak (aH (gX)))
   (aR)) <|
  ak (aH (k9 (wD rfl) af8 rfl E.b_all aex (aw (gz rfl (oA (own:=(["sign"]:List Str)) (fr:=[]) rfl) (bD (dvQ 0)) (λ _ _ _ _ _ _=>ax (i:=0) ahS rfl (Or.inl rfl)) (λ _ _ _ _ _ _=>bV) (λ _ _ _ _ _ _=>p6 kC gM kC gM (bj) (dvQ 0) (bj))) (aa))))
theorem rX:aP iN ["thing"] (ai fc):=⟨rfl,rfl,rfl,by decide +kernel,rfl,by decide +kernel,by decide +kernel⟩
theorem qZ{f:Addr}{fd:FuncData}(E:Env K mg)(F:Fn K mg "is_whole" fc ["thing"] f fd) :
  bW P w K mg base CX0 1 f fd ["thing"] (ef K bM):=by
 refine cW (t:=iJ) F.fn rX pA (λ cdv A outer s H E' hr=>?_) nB;refine Jd.h ?_;exact ak (aH (jY (k9 eX iW rfl E.b_isinstance bZ (aw (dvQ 0) (aw (gj rfl E.b_int afS) (aa)))) (kO (ac5 (k9 eX iW rfl E.b_isinstance bZ (aw (dvQ 0) (aw (gj rfl E.b_bool yv) (aa))))))))
theorem ql:aP gG ["thing", "low", "high"] (ai dR):=⟨rfl,rfl,rfl,by decide +kernel,rfl,by decide +kernel,by decide +kernel⟩
theorem pE{f:Addr}{fd:FuncData}(E:Env K mg)(F:Fn K mg "is_within" dR ["thing", "low", "high"] f fd)(z_is_whole:mG P w K mg base) :
  bW P w K mg base CX0 2 f fd ["thing", "low", "high"] (ef K bP):=by
 obtain⟨_,_,G_is_whole,O_is_whole⟩:=z_is_whole;refine cW (t:=gD bM) F.fn ql nF (λ cdv A outer s H E' hr=>?_) lJ;refine Jd.h ?_;exact ak (aH (jY (eR O_is_whole (hr.mono (by decide)) rfl G_is_whole.mg G_is_whole.fn.kp G_is_whole.bd (aw (dvQ 0) (aa))) (kO (p6 kC gM kC gM (dvQ 1) (dvQ 0) (dvQ 2)))))
theorem jE:aP gC ["row"] (ai cL):=⟨rfl,rfl,rfl,by decide +kernel,rfl,by decide +kernel,by decide +kernel⟩
theorem kZ{f:Addr}{fd:FuncData}(E:Env K mg)(F:Fn K mg "is_share_row" cL ["row"] f fd)
  {f_is_word:Addr}{fd_is_word:FuncData}(G_is_word:Fn K mg "is_word" fh ["thing"] f_is_word fd_is_word)(O_is_word:bW P w K mg base CX0 1 f_is_word fd_is_word ["thing"] (ef K bE))(z_is_within:jG P w K mg base) :
  bW P w K mg base CX0 3 f fd ["row"] (ef K bb):=by
 obtain⟨_,_,G_is_within,O_is_within⟩:=z_is_within;refine cW (t:=gx bE bP) F.fn jE jm (λ cdv A outer s H E' hr=>?_) iR;refine Jd.h ?_;exact ak (aH (jY (k9 eX iW rfl E.b_isinstance bZ (aw (dvQ 0) (aw (gj rfl E.b_tuple zu) (aa)))) (jY (adN (jI hr.h) gL (k9 cZ fM rfl E.b_len fO (aw (dvQ 0) (aa))) (af)) (jY (eR O_is_word (hr.mono (by decide)) rfl G_is_word.mg G_is_word.fn.kp G_is_word.bd (aw (bw bu bt (dvQ 0) (af)) (aa))) (kO (eR O_is_within (hr.mono (by decide)) rfl G_is_within.mg G_is_within.fn.kp G_is_within.bd (aw (bw bu bt (dvQ 0) (af)) (aw (af) (aw (gZ rfl (E.c_MOST_SHARE).choose_spec) (aa))))))))))
theorem ah3:(["ahead"]:List Str).Nodup:=by decide +kernel
theorem dF:aP fR ["shares"] (ai bA):=⟨rfl,rfl,rfl,by decide +kernel,rfl,by decide +kernel,by decide +kernel⟩
theorem jq{f:Addr}{fd:FuncData}(E:Env K mg)(F:Fn K mg "refuse_shares" bA ["shares"] f fd)
  {f_BadShare_init:Addr}{fd_BadShare_init:FuncData}(G_BadShare_init:Xi K av "BadShare.__init__" bJ ["self", "at"] f_BadShare_init fd_BadShare_init)(O_BadShare_init:bW P w K mg base CX0 1 f_BadShare_init fd_BadShare_init ["self", "at"] (uP av ["at"]))
  {f_is_share_row:Addr}{fd_is_share_row:FuncData}(G_is_share_row:Fn K mg "is_share_row" cL ["row"] f_is_share_row fd_is_share_row)(O_is_share_row:bW P w K mg base CX0 3 f_is_share_row fd_is_share_row ["row"] (ef K bb)) :
  bW P w K mg base (CXE P w) 4 f fd ["shares"] (er K aF):=by
 refine jJ (t:=λ Ex=>fN Ex bb) F.fn dF iK (λ cdv A outer s H E' Ex hr hE hP=>?_) h8;refine Jd.h ?_;exact ae (bB (fZ (dI (dM (dm (k9 eX iW rfl E.b_isinstance bZ (aw (dvQ 0) (aw (gj rfl E.b_list iS) (aa)))))) (eI (dM (lW (dvQ 0))))))
   (ak (iL hE G_BadShare_init.xm O_BadShare_init (hr.mono (by decide)) rfl E.m_BadShare G_BadShare_init.bd (aw (af) (aa))))
   (aR)) <|
  ak (eJ hP rfl (v7 rfl E.b_enumerate (aw (dvQ 0) (aa))) (dg rfl (aL (ax (i:=1) dF.nd rfl (Or.inl rfl)) (aL (ax (i:=2) dF.nd rfl (Or.inl rfl)) (cw))))
   (ak (bB (fZ (dI (aJ ae3 abh (dvQ 1) (gZ rfl (E.c_MOST_GROUPS).choose_spec)) (dI (dM (dm (eR O_is_share_row (hr.mono (by decide)) rfl G_is_share_row.mg G_is_share_row.fn.kp G_is_share_row.bd (aw (dvQ 2) (aa))))) (eI (aJ wg (zb false) (bw bu bt (dvQ 2) (af)) (gz rfl (oA (own:=(["ahead"]:List Str)) (fr:=[]) rfl) (bD (dB (dvQ 0) (cz) (cC (dvQ 1)))) (λ _ _ _ _ _ _=>ax (i:=0) ah3 rfl (Or.inl rfl)) (λ _ _ _ _ _ _=>bV) (λ _ _ _ _ _ _=>bw bu bt (dvQ 0) (af))))))))
    (ak (iL hE G_BadShare_init.xm O_BadShare_init (hr.mono (by decide)) rfl E.m_BadShare G_BadShare_init.bd (aw (dvQ 1) (aa))))
    (aR))))
theorem wJ:aP tE ["unit", "whole", "share"] (ai iG):=⟨rfl,rfl,rfl,by decide +kernel,rfl,by decide +kernel,by decide +kernel⟩
theorem yt{f:Addr}{fd:FuncData}(E:Env K mg)(F:Fn K mg "due_at" iG ["unit", "whole", "share"] f fd) :
  bW P w K mg base CX0 1 f fd ["unit", "whole", "share"] (ef K dz):=by
 refine cW (t:=tH) F.fn wJ uU (λ cdv A outer s H E' hr=>?_) qQ;refine Jd.h ?_;exact ak (aH (wk v3 qG (aV mS ny (aV g6 fu (wk v3 qG (aV cK bU (dvQ 0) (af))) (dvQ 1)) (dvQ 2))))
theorem agN:(["group", "share"]:List Str).Nodup:=by decide +kernel
theorem aeA:(["group", "share"]:List Str).Nodup:=by decide +kernel
theorem agp:(["group", "share", "owned", "whole", "slot"]:List Str).Nodup:=by decide +kernel
theorem cA:aP mz ["shares"] (ai cV):=⟨rfl,rfl,rfl,by decide +kernel,rfl,by decide +kernel,by decide +kernel⟩
theorem qS{f:Addr}{fd:FuncData}(E:Env K mg)(F:Fn K mg "round_of" cV ["shares"] f fd)(hcd:fd.code=.ref df)(z_due_at:tO P w K mg base) :
  bW P w K mg base CX0 4 f fd ["shares"] (ef K bo):=by
 obtain⟨_,_,G_due_at,O_due_at⟩:=z_due_at;refine adi (t:=mO dz) F.fn hcd cA o7 (λ A outer s H E' hr=>?_) mW;refine Jd.h ?_;exact ae (az (i:=1) cA.nd rfl (Or.inr rfl) (k9 (xg rfl) aek rfl E.b_sum afs (aw (gz rfl (oA (own:=(["group", "share"]:List Str)) (fr:=[]) rfl) (bD (dvQ 0)) (λ _ _ _ _ _ _=>dg rfl (aL (ax (i:=0) agN rfl (Or.inl rfl)) (aL (ax (i:=1) agN rfl (Or.inl rfl)) (cw)))) (λ _ _ _ _ _ _=>bV) (λ _ _ _ _ _ _=>dvQ 1)) (aa)))) <|
  ae (az (i:=2) cA.nd rfl (Or.inr rfl) (aa4 rfl (oA (own:=(["group", "share"]:List Str)) (fr:=[]) rfl) (bD (dvQ 0)) (λ _ _ _ _ _ _=>dg rfl (aL (ax (i:=0) aeA rfl (Or.inl rfl)) (aL (ax (i:=1) aeA rfl (Or.inl rfl)) (cw)))) (λ _ _ _ _ _ _=>bV) (λ _ _ _ _ _ _=>dvQ 0) (λ _ _ _ _ _ _=>af))) <|
  ae (az (i:=3) cA.nd rfl (Or.inl rfl) (fF (aa))) <|
  ae (eJ PassesOwn.never rfl (cy rfl E.b_range (aw (dvQ 1) (aa))) (ax (i:=4) cA.nd rfl (Or.inr rfl))
   (ae (gm (i:=5) cA.nd rfl (Or.inl rfl) rfl (oA (own:=(["group", "share"]:List Str)) (fr:=[2,1,4]) rfl) (bD (dvQ 0)) (λ _ _ _ _ _ _=>dg rfl (aL (ax (i:=0) agp rfl (Or.inl rfl)) (aL (ax (i:=1) agp rfl (Or.inl rfl)) (cw)))) (λ _ _ _ _ _ _=>fk (aJ kC gM (aV mS ny (aV g6 fu (ju (lB hr) (dvQ 2) (dvQ 0)) (dvQ 3)) (dvQ 1)) (dvQ 4))) (λ _ _ _ _ _ _=>aX (aw (dvQ 0) (aw (dvQ 1) (aa))))) <|
   ae (hG (aae (k:=1) (q:=fg) (hr.mono (by decide)) rfl rfl E.b_min (ahH (x:= "each") (fr:=[1,2]) rfl) rfl E.h_round_of rfl (λ _ _ _ _ _=>rfl) (dvQ 5) (λ _ _ _ _ _ _ hr=>eR O_due_at (hr.mono (by decide)) rfl G_due_at.mg G_due_at.fn.kp G_due_at.bd (aw (ju (lB hr) (dvQ 2) (bw bu bt (dvQ 0) (af))) (aw (dvQ 1) (aw (bw bu bt (dvQ 0) (af)) (aa)))))) (dg rfl (aL (ax (i:=6) cA.nd rfl (Or.inl rfl)) (aL (ax (i:=7) cA.nd rfl (Or.inl rfl)) (cw))))) <|
   ae (iB (lB hr) (dvQ 2) (dvQ 6) (af) sZ) <|
   ak (bS (gh (dvQ 3) (dvQ 6))))) <|
  ak (aH (dvQ 3))
theorem oG:aP i6 ["self"] (ai dE):=⟨rfl,rfl,rfl,by decide +kernel,rfl,by decide +kernel,by decide +kernel⟩
theorem mX{f:Addr}{fd:FuncData}(E:Env K mg)(F:Mf K ao "begin" "Door.begin" dE ["self"] f fd) :
  bW P w K mg base CX0 1 f fd ["self"] (ef K bR):=by
 refine cW (t:=jj) F.fn oG lP (λ cdv A outer s H E' hr=>?_) kI;refine Jd.h ?_;exact ak (eG E.k_Door E.n_Door_next_slot (dvQ 0) (af))
theorem agD:(["group", "share", "self"]:List Str).Nodup:=by decide +kernel
theorem iq:aP ff ["self", "shares"] (ai aZ):=⟨rfl,rfl,rfl,by decide +kernel,rfl,by decide +kernel,by decide +kernel⟩
theorem iC{f:Addr}{fd:FuncData}(E:Env K mg)(F:Mf K ao "new_shares" "Door.new_shares" aZ ["self", "shares"] f fd)
  {f_refuse_shares:Addr}{fd_refuse_shares:FuncData}(G_refuse_shares:Fn K mg "refuse_shares" bA ["shares"] f_refuse_shares fd_refuse_shares)(O_refuse_shares:bW P w K mg base (CXE P w) 4 f_refuse_shares fd_refuse_shares ["shares"] (er K aF))
  {f_round_of:Addr}{fd_round_of:FuncData}(G_round_of:Fn K mg "round_of" cV ["shares"] f_round_of fd_round_of)(O_round_of:bW P w K mg base CX0 4 f_round_of fd_round_of ["shares"] (ef K bo))
  {f_Door_begin:Addr}{fd_Door_begin:FuncData}(G_Door_begin:Mf K ao "begin" "Door.begin" dE ["self"] f_Door_begin fd_Door_begin)(O_Door_begin:bW P w K mg base CX0 1 f_Door_begin fd_Door_begin ["self"] (ef K bR)) :
  bW P w K mg base (CXE P w) 5 f fd ["self", "shares"] (er K aD):=by
 refine jJ (t:=λ Ex=>eS Ex aF bo bR) F.fn iq gU (λ cdv A outer s H E' Ex hr hE hP=>?_) gw;refine Jd.h ?_;exact ae (bS (ah7 hE O_refuse_shares (hr.mono (by decide)) rfl G_refuse_shares.mg G_refuse_shares.fn.kp G_refuse_shares.bd (aw (dvQ 1) (aa)))) <|
  ae (eG E.k_Door E.n_Door_asks_waiting (dvQ 0) (aa4 rfl (oA (own:=(["group", "share"]:List Str)) (fr:=[0]) rfl) (bD (dvQ 1)) (λ _ _ _ _ _ _=>dg rfl (aL (ax (i:=0) agD rfl (Or.inl rfl)) (aL (ax (i:=1) agD rfl (Or.inl rfl)) (cw)))) (λ _ _ _ _ _ _=>bV) (λ _ _ _ _ _ _=>dvQ 0) (λ _ _ _ _ _ _=>zN (lB hr) (cQ E.k_Door E.n_Door_asks_waiting (dvQ 2)) (dvQ 0) (af)))) <|
  ae (eG E.k_Door E.n_Door_owner_round (dvQ 0) (eR O_round_of (hr.mono (by decide)) rfl G_round_of.mg G_round_of.fn.kp G_round_of.bd (aw (dvQ 1) (aa)))) <|
  ak (bS (cn (dvQ 0) E.k_Door G_Door_begin.me O_Door_begin (hr.mono (by decide)) G_Door_begin.bd))
theorem oW:aP kP ["self", "shares"] (ai cD):=⟨rfl,rfl,rfl,by decide +kernel,rfl,by decide +kernel,by decide +kernel⟩
theorem o8{f:Addr}{fd:FuncData}(E:Env K mg)(F:MiF K ao "Door.__init__" cD ["self", "shares"] "shares" f fd)
  {f_Door_new_shares:Addr}{fd_Door_new_shares:FuncData}(G_Door_new_shares:Mf K ao "new_shares" "Door.new_shares" aZ ["self", "shares"] f_Door_new_shares fd_Door_new_shares)(O_Door_new_shares:bW P w K mg base (CXE P w) 5 f_Door_new_shares fd_Door_new_shares ["self", "shares"] (er K aD)) :
  bW P w K mg base (CXE P w) 6 f fd ["self", "shares"] (er K aO):=by
 refine zk (t:=λ Ex=>j7 Ex aD) F.fn oW og (λ cdv A outer s H E' Ex hr hE hP=>?_) lF;refine Jd.h ?_;exact ae (eG E.k_Door E.n_Door_asks_waiting (dvQ 0) (uF)) <|
  ae (eG E.k_Door E.n_Door_owner_round (dvQ 0) (fF (aa))) <|
  ae (eG E.k_Door E.n_Door_next_slot (dvQ 0) (af)) <|
  ae (eG E.k_Door E.n_Door_number_led (dvQ 0) (cU)) <|
  ak (bB (aJ mQ jy (dvQ 1) (cU))
   (ak (bS (aem hE (dvQ 0) E.k_Door G_Door_new_shares.me O_Door_new_shares (hr.mono (by decide)) G_Door_new_shares.bd (aw (dvQ 1) (aa)))))
   (aR))
theorem jM:aP lG ["self", "name"] (ai bT):=⟨rfl,rfl,rfl,by decide +kernel,rfl,by decide +kernel,by decide +kernel⟩
theorem kG{f:Addr}{fd:FuncData}(E:Env K mg)(F:Xi K aU "Unknown.__init__" bT ["self", "name"] f fd):bW P w K mg base CX0 1 f fd ["self", "name"] (uP aU ["name"]):=agw F.fn jM F.xm.xc E.n_Unknown_name rfl (λ _=>rfl) rfl rfl
theorem nv:aP i9 ["self", "group"] (ai bY):=⟨rfl,rfl,rfl,by decide +kernel,rfl,by decide +kernel,by decide +kernel⟩
theorem nW{f:Addr}{fd:FuncData}(E:Env K mg)(F:Mf K ao "waits" "Door.waits" bY ["self", "group"] f fd)
  {f_is_word:Addr}{fd_is_word:FuncData}(G_is_word:Fn K mg "is_word" fh ["thing"] f_is_word fd_is_word)(O_is_word:bW P w K mg base CX0 1 f_is_word fd_is_word ["thing"] (ef K bE))
  {f_Unknown_init:Addr}{fd_Unknown_init:FuncData}(G_Unknown_init:Xi K aU "Unknown.__init__" bT ["self", "name"] f_Unknown_init fd_Unknown_init)(O_Unknown_init:bW P w K mg base CX0 1 f_Unknown_init fd_Unknown_init ["self", "name"] (uP aU ["name"])) :
  bW P w K mg base (CXE P w) 3 f fd ["self", "group"] (er K aT):=by
 refine jJ (t:=λ Ex=>ji Ex bE) F.fn nv lE (λ cdv A outer s H E' Ex hr hE hP=>?_) jK;refine Jd.h ?_;exact ae (bB (fZ (dI (dM (dm (eR O_is_word (hr.mono (by decide)) rfl G_is_word.mg G_is_word.fn.kp G_is_word.bd (aw (dvQ 1) (aa))))) (eI (qD (lB hr) (dvQ 1) (cQ E.k_Door E.n_Door_asks_waiting (dvQ 0))))))
   (ak (iL hE G_Unknown_init.xm O_Unknown_init (hr.mono (by decide)) rfl E.m_Unknown G_Unknown_init.bd (aw (dvQ 1) (aa))))
   (aR)) <|
  ak (aH (ju (lB hr) (cQ E.k_Door E.n_Door_asks_waiting (dvQ 0)) (dvQ 1)))
theorem lg:aP l9 ["self", "group", "many"] (ai du):=⟨rfl,rfl,rfl,by decide +kernel,rfl,by decide +kernel,by decide +kernel⟩
theorem rh{f:Addr}{fd:FuncData}(E:Env K mg)(F:Mf K ao "ask" "Door.ask" du ["self", "group", "many"] f fd)
  {f_Door_waits:Addr}{fd_Door_waits:FuncData}(G_Door_waits:Mf K ao "waits" "Door.waits" bY ["self", "group"] f_Door_waits fd_Door_waits)(O_Door_waits:bW P w K mg base (CXE P w) 3 f_Door_waits fd_Door_waits ["self", "group"] (er K aT)) :
  bW P w K mg base (CXE P w) 4 f fd ["self", "group", "many"] (er K cB):=by
 refine jJ (t:=λ Ex=>mN Ex aT) F.fn lg pQ (λ cdv A outer s H E' Ex hr hE hP=>?_) ou;refine Jd.h ?_;exact ae (az (i:=3) lg.nd rfl (Or.inl rfl) (k9 (wj rfl) acu rfl E.b_max aeZ (aw (k9 (oU rfl) vE rfl E.b_min tm (aw (dvQ 2) (aw (aV aez adJ (gZ rfl (E.c_MOST_WAITING).choose_spec) (aem hE (dvQ 0) E.k_Door G_Door_waits.me O_Door_waits (hr.mono (by decide)) G_Door_waits.bd (aw (dvQ 1) (aa)))) (aa)))) (aw (af) (aa))))) <|
  ae (iB (lB hr) (cQ E.k_Door E.n_Door_asks_waiting (dvQ 0)) (dvQ 1) (dvQ 3) sZ) <|
  ak (aH (dvQ 3))
theorem gn:aP dP ["self"] (ai bK):=⟨rfl,rfl,rfl,by decide +kernel,rfl,by decide +kernel,by decide +kernel⟩
theorem gp{f:Addr}{fd:FuncData}(E:Env K mg)(F:Mf K ao "is_waited_at" "Door.is_waited_at" bK ["self"] f fd) :
  bW P w K mg base CX0 1 f fd ["self"] (ef K aC):=by
 refine cW (t:=dU) F.fn gn fV (λ cdv A outer s H E' hr=>?_) fK;refine Jd.h ?_;exact ak (aH (aax rfl rfl E.b_any (cQ E.k_Door E.n_Door_asks_waiting (dvQ 0))))
theorem nj:aP jb ["self"] (ai dw):=⟨rfl,rfl,rfl,by decide +kernel,rfl,by decide +kernel,by decide +kernel⟩
theorem oH{f:Addr}{fd:FuncData}(E:Env K mg)(F:Mf K ao "owner" "Door.owner" dw ["self"] f fd) :
  bW P w K mg base CX0 1 f fd ["self"] (ef K aK):=by
 refine cW (t:=i8) F.fn nj lN (λ cdv A outer s H E' hr=>?_) kl;refine Jd.h ?_;exact ae (bB (dM (lW (cQ E.k_Door E.n_Door_owner_round (dvQ 0))))
   (ak (aH (cU)))
   (aR)) <|
  ak (aH (bw bu bt (cQ E.k_Door E.n_Door_owner_round (dvQ 0)) (aV fQ dY (cQ E.k_Door E.n_Door_next_slot (dvQ 0)) (k9 cZ fM rfl E.b_len fO (aw (cQ E.k_Door E.n_Door_owner_round (dvQ 0)) (aa))))))
theorem ah9:(["group", "self"]:List Str).Nodup:=by decide +kernel
theorem fw:aP lQ ["self"] (ai fj):=⟨rfl,rfl,rfl,by decide +kernel,rfl,by decide +kernel,by decide +kernel⟩
theorem rV{f:Addr}{fd:FuncData}(E:Env K mg)(F:Mf K ao "use" "Door.use" fj ["self"] f fd)(z_Door_is_waited_at:cM P w K mg base)(z_Door_owner:eE P w K mg base) :
  bW P w K mg base CX0 2 f fd ["self"] (ef K aY):=by
 obtain⟨_,_,G_Door_is_waited_at,O_Door_is_waited_at⟩:=z_Door_is_waited_at;obtain⟨_,_,G_Door_owner,O_Door_owner⟩:=z_Door_owner;refine cW (t:=lZ aC aK) F.fn fw pj (λ cdv A outer s H E' hr=>?_) nr;refine Jd.h ?_;exact ae (bB (dM (dm (cn (dvQ 0) E.k_Door G_Door_is_waited_at.me O_Door_is_waited_at (hr.mono (by decide)) G_Door_is_waited_at.bd)))
   (ak (aH (cU)))
   (aR)) <|
  ae (az (i:=1) fw.nd rfl (Or.inl rfl) (gf (ad1 (uV rfl) ze rfl E.b_list iS (aw (cQ E.k_Door E.n_Door_asks_waiting (dvQ 0)) (aa))))) <|
  ae (az (i:=2) fw.nd rfl (Or.inl rfl) (uy hr (dvQ 1) (cn (dvQ 0) E.k_Door G_Door_owner.me O_Door_owner (hr.mono (by decide)) G_Door_owner.bd))) <|
  ae (gm (i:=3) fw.nd rfl (Or.inl rfl) rfl (oA (own:=(["group"]:List Str)) (fr:=[0]) rfl) (bD (om (dB (dvQ 1) (cC (dvQ 2)) (cz)) (dB (dvQ 1) (cz) (cC (dvQ 2))))) (λ _ _ _ _ _ _=>ax (i:=0) ah9 rfl (Or.inl rfl)) (λ _ _ _ _ _ _=>fk (aJ rN jV (ju (lB hr) (cQ E.k_Door E.n_Door_asks_waiting (dvQ 1)) (dvQ 0)) (af))) (λ _ _ _ _ _ _=>dvQ 0)) <|
  ae (iB (lB hr) (cQ E.k_Door E.n_Door_asks_waiting (dvQ 0)) (bw bu bt (dvQ 3) (af)) (af) abc) <|
  ae (rq E.k_Door E.n_Door_next_slot (dvQ 0) (af) sZ) <|
  ak (aH (bw bu bt (dvQ 3) (af)))
theorem dN:aP pK ["_law_bag_here", "_law_ahead"] (ai fW):=⟨rfl,rfl,rfl,by decide +kernel,rfl,by decide +kernel,by decide +kernel⟩
theorem uB{f:Addr}{fd:FuncData}(E:Env K mg)(F:Fn K mg "_law_wrong" fW ["_law_bag_here", "_law_ahead"] f fd)(z_l_take:iy P w K mg base) :
  bW P w K mg base CX0 2 f fd ["_law_bag_here", "_law_ahead"] (ef K cH):=by
 obtain⟨_,_,G_l_take,O_l_take⟩:=z_l_take;refine cW (t:=qm ay) F.fn dN qM (λ cdv A outer s H E' hr=>?_) qf;refine Jd.h ?_;exact ae (az (i:=2) dN.nd rfl (Or.inl rfl) (cS (aw (cS (aw (bj) (aw (af) (aa)))) (aw (aX (aw (bj) (aa))) (aw (aX (aw (bj) (aw (af) (aw (af) (aa))))) (aw (aX (aw (bj) (aw (af) (aa)))) (aw (aX (aw (bj) (aw (af) (aa)))) (aw (aX (aw (bj) (aw (af) (aa)))) (aw (aX (aw (bj) (aw (af) (aa)))) (aw (aX (aw (cU) (aw (af) (aa)))) (aa))))))))))) <|
  ae (az (i:=2) dN.nd rfl (Or.inl rfl) (om (dvQ 2) (cS (aw (aX (aw (af) (aw (af) (aa)))) (aw (aX (aw (bj) (aw (af) (aa)))) (aw (aX (aw (bj) (aw (af) (aa)))) (aw (aX (aw (bj) (aw (wk v3 qG (af)) (aa)))) (aw (aX (aw (bj) (aw (gX) (aa)))) (aw (aX (aw (bj) (aw (bj) (aa)))) (aw (aX (aw (bj) (aw (cU) (aa)))) (aa))))))))))) <|
  ae (az (i:=2) dN.nd rfl (Or.inl rfl) (om (dvQ 2) (cS (aw (cU) (aw (bj) (aw (af) (aw (aX (aw (aX (aw (bj) (aa))) (aw (af) (aa)))) (aw (aX (aw (cS (aw (bj) (aa))) (aw (af) (aa)))) (aw (pG) (aw (aX (aa)) (aa))))))))))) <|
  ae (bB (aJ (iE hr.h) fq (dvQ 1) (cS (aa)))
   (ae (az (i:=3) dN.nd rfl (Or.inl rfl) (bw bu bt (bw bu bt (dvQ 1) (eR O_l_take (hr.mono (by decide)) rfl G_l_take.mg G_l_take.fn.kp G_l_take.bd (aw (dvQ 0) (aw (k9 cZ fM rfl E.b_len fO (aw (dvQ 1) (aa))) (aa))))) (af))) <|
   ak (az (i:=2) dN.nd rfl (Or.inl rfl) (om (dvQ 2) (cS (aw (aX (aw (dvQ 3) (aw (af) (aa)))) (aw (aX (aw (dvQ 3) (aw (af) (aa)))) (aa)))))))
   (aR)) <|
  ak (aH (bw bu bt (dvQ 2) (eR O_l_take (hr.mono (by decide)) rfl G_l_take.mg G_l_take.fn.kp G_l_take.bd (aw (dvQ 0) (aw (k9 cZ fM rfl E.b_len fO (aw (dvQ 2) (aa))) (aa))))))
theorem afa:(["_law_row", "_law_sign"]:List Str).Nodup:=by decide +kernel
theorem aft:(["_law_row"]:List Str).Nodup:=by decide +kernel
theorem aeS:(["_law_name", "_law_names"]:List Str).Nodup:=by decide +kernel
theorem afZ:(["_law_sign"]:List Str).Nodup:=by decide +kernel
theorem bq:aP mP ["_law_bag_here"] (ai eU):=⟨rfl,rfl,rfl,by decide +kernel,rfl,by decide +kernel,by decide +kernel⟩
theorem rB{f:Addr}{fd:FuncData}(E:Env K mg)(F:Fn K mg "_law_spoilt" eU ["_law_bag_here"] f fd)(z_l_take:iy P w K mg base)(z_l_shares:iV P w K mg base)(z_l_wrong:px P w K mg base) :
  bW P w K mg base CX0 3 f fd ["_law_bag_here"] (ef K cx):=by
 obtain⟨_,_,G_l_take,O_l_take⟩:=z_l_take;obtain⟨_,_,G_l_shares,O_l_shares⟩:=z_l_shares;obtain⟨_,_,G_l_wrong,O_l_wrong⟩:=z_l_wrong;refine cW (t:=lU ay bF cH) F.fn bq oP (λ cdv A outer s H E' hr=>?_) nO;refine Jd.h ?_;exact ae (bB (aJ (jI hr.h) gL (eR O_l_take (hr.mono (by decide)) rfl G_l_take.mg G_l_take.fn.kp G_l_take.bd (aw (dvQ 0) (aw (af) (aa)))) (af))
   (ae (az (i:=1) bq.nd rfl (Or.inl rfl) (bw bu bt (cS (aw (cU) (aw (aX (aa)) (aw (aX (aw (aX (aw (bj) (aw (af) (aa)))) (aa))) (aw (pG) (aw (bj) (aw (af) (aw (gX) (aw (cS (aa)) (aa)))))))))) (eR O_l_take (hr.mono (by decide)) rfl G_l_take.mg G_l_take.fn.kp G_l_take.bd (aw (dvQ 0) (aw (af) (aa)))))) <|
   ak (aH (aX (aw (dvQ 1) (aw (af) (aa))))))
   (aR)) <|
  ae (az (i:=2) bq.nd rfl (Or.inl rfl) (eR O_l_shares (hr.mono (by decide)) rfl G_l_shares.mg G_l_shares.fn.kp G_l_shares.bd (aw (dvQ 0) (aa)))) <|
  ae (az (i:=3) bq.nd rfl (Or.inl rfl) (ad1 eO ir rfl E.b_list iS (aw (dvQ 2) (aa)))) <|
  ae (az (i:=4) bq.nd rfl (Or.inl rfl) (k9 cZ fM rfl E.b_len fO (aw (dvQ 2) (aa)))) <|
  ae (bB (aJ rN jV (eR O_l_take (hr.mono (by decide)) rfl G_l_take.mg G_l_take.fn.kp G_l_take.bd (aw (dvQ 0) (aw (af) (aa)))) (af))
   (ae (az (i:=4) bq.nd rfl (Or.inl rfl) (eR O_l_take (hr.mono (by decide)) rfl G_l_take.mg G_l_take.fn.kp G_l_take.bd (aw (dvQ 0) (aw (aV cK bU (k9 cZ fM rfl E.b_len fO (aw (dvQ 2) (aa))) (af)) (aa))))) <|
   ak (az (i:=3) bq.nd rfl (Or.inl rfl) (aV rQ t9 (aV rQ t9 (mv (dvQ 3) (cz) (cC (dvQ 4))) (fF (aw (eR O_l_wrong (hr.mono (by decide)) rfl G_l_wrong.mg G_l_wrong.fn.kp G_l_wrong.bd (aw (dvQ 0) (aw (dB (dvQ 2) (cz) (cC (dvQ 4))) (aa)))) (aa)))) (mv (dvQ 3) (cC (dvQ 4)) (cz)))))
   (ae (az (i:=5) bq.nd rfl (Or.inl rfl) (bj)) <|
   ae (ki (i:=3) bq.nd rfl (Or.inl rfl) rfl (oA (own:=(["_law_row", "_law_sign"]:List Str)) (fr:=[]) rfl) (vW rfl E.b_zip (aw (uJ (aV adY yS (dvQ 2) (af)) (cz) (cC (af))) (aw (dvQ 5) (aa)))) (λ _ _ _ _ _ _=>dg rfl (aL (ax (i:=0) afa rfl (Or.inl rfl)) (aL (ax (i:=1) afa rfl (Or.inl rfl)) (cw)))) (λ _ _ _ _ _ _=>bV) (λ _ _ _ _ _ _=>aX (aw (aV cK bU (dB (bw bu bt (dvQ 0) (af)) (cz) (cC (af))) (dvQ 1)) (aw (bw bu bt (dvQ 0) (af)) (aa))))) <|
   ae (az (i:=6) bq.nd rfl (Or.inr rfl) (uW (gz rfl (oA (own:=(["_law_row"]:List Str)) (fr:=[]) rfl) (qV (dvQ 3)) (λ _ _ _ _ _ _=>ax (i:=0) aft rfl (Or.inl rfl)) (λ _ _ _ _ _ _=>bV) (λ _ _ _ _ _ _=>bw bu bt (dvQ 0) (af))))) <|
   ae (bB (aJ (iE hr.h) fq (gz rfl (oA (own:=(["_law_name"]:List Str)) (fr:=[6]) rfl) (bD (dvQ 6)) (λ _ _ _ _ _ _=>ax (i:=0) aeS rfl (Or.inl rfl)) (λ _ _ _ _ _ _=>fk (aJ rN jV (xw hr (dvQ 1) (dvQ 0)) (af))) (λ _ _ _ _ _ _=>dvQ 0)) (cS (aa)))
    (ak (ki (i:=3) bq.nd rfl (Or.inl rfl) rfl (oA (own:=(["_law_sign"]:List Str)) (fr:=[]) rfl) (bD (dvQ 5)) (λ _ _ _ _ _ _=>ax (i:=0) afZ rfl (Or.inl rfl)) (λ _ _ _ _ _ _=>bV) (λ _ _ _ _ _ _=>aX (aw (dvQ 0) (aw (af) (aa))))))
    (aR)) <|
   ak (az (i:=4) bq.nd rfl (Or.inl rfl) (af)))) <|
  ae (eJ PassesOwn.never rfl (cy rfl E.b_range (aw (eR O_l_take (hr.mono (by decide)) rfl G_l_take.mg G_l_take.fn.kp G_l_take.bd (aw (dvQ 0) (aw (af) (aa)))) (aa))) (ax (i:=7) bq.nd rfl (Or.inl rfl))
   (ak (bS (gh (dvQ 3) (eR O_l_wrong (hr.mono (by decide)) rfl G_l_wrong.mg G_l_wrong.fn.kp G_l_wrong.bd (aw (dvQ 0) (aw (dvQ 2) (aa)))))))) <|
  ak (aH (aX (aw (gf (dvQ 3)) (aw (k9 (oU rfl) vE rfl E.b_min tm (aw (dvQ 4) (aw (af) (aa)))) (aa)))))
theorem pO:aP kS ["self"] (ai dX):=⟨rfl,rfl,rfl,by decide +kernel,rfl,by decide +kernel,by decide +kernel⟩
theorem p9{f:Addr}{fd:FuncData}(E:Env K mg)(F:Mf K ao "slot" "Door.slot" dX ["self"] f fd) :
  bW P w K mg base CX0 1 f fd ["self"] (ef K bh):=by
 refine cW (t:=kh) F.fn pO nc (λ cdv A outer s H E' hr=>?_) lz;refine Jd.h ?_;exact ak (aH (cQ E.k_Door E.n_Door_next_slot (dvQ 0)))
theorem aba:(["_law_group", "_law_share", "_law_door"]:List Str).Nodup:=by decide +kernel
theorem uK:aP qe ["_law_door", "_law_parted"] (ai fL):=⟨rfl,rfl,rfl,by decide +kernel,rfl,by decide +kernel,by decide +kernel⟩
theorem uk{f:Addr}{fd:FuncData}(E:Env K mg)(F:Fn K mg "_law_state" fL ["_law_door", "_law_parted"] f fd)(z_Door_slot:gJ P w K mg base)(z_Door_owner:eE P w K mg base)
  {f_Door_waits:Addr}{fd_Door_waits:FuncData}(G_Door_waits:Mf K ao "waits" "Door.waits" bY ["self", "group"] f_Door_waits fd_Door_waits)(O_Door_waits:bW P w K mg base (CXE P w) 3 f_Door_waits fd_Door_waits ["self", "group"] (er K aT)) :
  bW P w K mg base CX0 4 f fd ["_law_door", "_law_parted"] (ef K cE):=by
 obtain⟨_,_,G_Door_slot,O_Door_slot⟩:=z_Door_slot;obtain⟨_,_,G_Door_owner,O_Door_owner⟩:=z_Door_owner;refine cW (t:=pP bh aK aT) F.fn uK qX (λ cdv A outer s H E' hr=>?_) pF;refine Jd.h ?_;exact ak (aH (cS (aw (cn (dvQ 0) E.k_Door G_Door_slot.me O_Door_slot (hr.mono (by decide)) G_Door_slot.bd) (aw (cn (dvQ 0) E.k_Door G_Door_owner.me O_Door_owner (hr.mono (by decide)) G_Door_owner.bd) (aw (gz rfl (oA (own:=(["_law_group", "_law_share"]:List Str)) (fr:=[0]) rfl) (bD (dvQ 1)) (λ _ _ _ _ _ _=>dg rfl (aL (ax (i:=0) aba rfl (Or.inl rfl)) (aL (ax (i:=1) aba rfl (Or.inl rfl)) (cw)))) (λ _ _ _ _ _ _=>bV) (λ _ _ _ _ _ _=>aem jv (dvQ 2) E.k_Door G_Door_waits.me O_Door_waits (hr.mono (by decide)) G_Door_waits.bd (aw (dvQ 0) (aa)))) (aa))))))
theorem aej:(["slot", "one_round"]:List Str).Nodup:=by decide +kernel
theorem o9:aP tZ ["shares", "many"] (ai fB):=⟨rfl,rfl,rfl,by decide +kernel,rfl,by decide +kernel,by decide +kernel⟩
theorem vp{f:Addr}{fd:FuncData}(E:Env K mg)(F:Fn K mg "owners" fB ["shares", "many"] f fd)
  {f_refuse_shares:Addr}{fd_refuse_shares:FuncData}(G_refuse_shares:Fn K mg "refuse_shares" bA ["shares"] f_refuse_shares fd_refuse_shares)(O_refuse_shares:bW P w K mg base (CXE P w) 4 f_refuse_shares fd_refuse_shares ["shares"] (er K aF))
  {f_round_of:Addr}{fd_round_of:FuncData}(G_round_of:Fn K mg "round_of" cV ["shares"] f_round_of fd_round_of)(O_round_of:bW P w K mg base CX0 4 f_round_of fd_round_of ["shares"] (ef K bo)) :
  bW P w K mg base (CXE P w) 5 f fd ["shares", "many"] (er K dA):=by
 refine jJ (t:=λ Ex=>tJ Ex aF bo) F.fn o9 ue (λ cdv A outer s H E' Ex hr hE hP=>?_) rT;refine Jd.h ?_;exact ae (bS (ah7 hE O_refuse_shares (hr.mono (by decide)) rfl G_refuse_shares.mg G_refuse_shares.fn.kp G_refuse_shares.bd (aw (dvQ 0) (aa)))) <|
  ae (az (i:=2) o9.nd rfl (Or.inr rfl) (eR O_round_of (hr.mono (by decide)) rfl G_round_of.mg G_round_of.fn.kp G_round_of.bd (aw (dvQ 0) (aa)))) <|
  ak (aH (gz rfl (oA (own:=(["slot"]:List Str)) (fr:=[2]) rfl) (cy rfl E.b_range (aw (dvQ 1) (aa))) (λ _ _ _ _ _ _=>ax (i:=0) aej rfl (Or.inl rfl)) (λ _ _ _ _ _ _=>bV) (λ _ _ _ _ _ _=>bw bu bt (dvQ 1) (aV fQ dY (dvQ 0) (k9 cZ fM rfl E.b_len fO (aw (dvQ 1) (aa)))))))
theorem jf:aP k7 ["_law_way", "_law_door", "_law_thing"] (ai dQ):=⟨rfl,rfl,rfl,by decide +kernel,rfl,by decide +kernel,by decide +kernel⟩
theorem qt{f:Addr}{fd:FuncData}(E:Env K mg)(F:Fn K mg "_law_refused" dQ ["_law_way", "_law_door", "_law_thing"] f fd)
  {f_owners:Addr}{fd_owners:FuncData}(G_owners:Fn K mg "owners" fB ["shares", "many"] f_owners fd_owners)(O_owners:bW P w K mg base (CXE P w) 5 f_owners fd_owners ["shares", "many"] (er K dA))
  {f_Door_init:Addr}{fd_Door_init:FuncData}(G_Door_init:MiF K ao "Door.__init__" cD ["self", "shares"] "shares" f_Door_init fd_Door_init)(O_Door_init:bW P w K mg base (CXE P w) 6 f_Door_init fd_Door_init ["self", "shares"] (er K aO))
  {f_Door_new_shares:Addr}{fd_Door_new_shares:FuncData}(G_Door_new_shares:Mf K ao "new_shares" "Door.new_shares" aZ ["self", "shares"] f_Door_new_shares fd_Door_new_shares)(O_Door_new_shares:bW P w K mg base (CXE P w) 5 f_Door_new_shares fd_Door_new_shares ["self", "shares"] (er K aD)) :
  bW P w K mg base CX0 8 f fd ["_law_way", "_law_door", "_law_thing"] (ef K bG):=by
 refine cW (t:=jN dA aO aD) F.fn jf nh (λ cdv A outer s H E' hr=>?_) lH;refine Jd.h ?_;exact ae (zo rfl rfl (λ _ _ _ _ hE hP =>
   ak (bB (aJ (jI hr.h) gL (dvQ 0) (af))
    (ak (bS (ah7 hE O_owners (hr.mono (by decide)) rfl G_owners.mg G_owners.fn.kp G_owners.bd (aw (dvQ 2) (aw (af) (aa))))))
    (ak (bB (aJ (jI hr.h) gL (dvQ 0) (af))
     (ak (bS (jF hE G_Door_init.e.mi O_Door_init (hr.mono (by decide)) rfl E.m_Door G_Door_init.e.bd (aw (dvQ 2) (aa)))))
     (ak (bS (aem hE (dvQ 1) E.k_Door G_Door_new_shares.me O_Door_new_shares (hr.mono (by decide)) G_Door_new_shares.bd (aw (dvQ 2) (aa))))))))) (afF (i:=3) rfl E.m_PlaceError (pY.cons E.e_BadShare_PlaceError (pY.nil)) jf.nd rfl rfl rfl (λ _ =>
   ae (bB (fZ (jC (dm (aak E.b_isinstance (pY.cons ⟨E.x_BadShare,E.i_BadShare_BadShare⟩ (pY.nil)) rfl E.m_BadShare (dvQ 3))) (jC (dm (yT E.b_isinstance (pY.cons ⟨E.x_BadShare,E.i_BadShare_ValueError⟩ (pY.nil)) rfl E.b_ValueError mU (dvQ 3))) (kA (dM (dm (yN (cs:=[.ref ee,.ref ip]) E.b_isinstance (pY.cons ⟨E.x_BadShare,E.i_BadShare_BadBerths_BadRow⟩ (pY.nil)) (t7 rfl E.m_BadBerths (t7 rfl E.m_BadRow (adE))) (dvQ 3))))))))
     (ak (aH (zJ (aaU.cons ⟨E.x_BadShare,E.n_BadShare_at⟩ (aaU.nil)) (dvQ 3))))
     (aR)) <|
    ak (aH (bj))) (zq))) <|
  ak (aH (bj))
theorem aaJ:(["number", "many"]:List Str).Nodup:=by decide +kernel
theorem ags:(["number", "self"]:List Str).Nodup:=by decide +kernel
theorem cN:aP eC ["self", "hands"] (ai bQ):=⟨rfl,rfl,rfl,by decide +kernel,rfl,by decide +kernel,by decide +kernel⟩
theorem gQ{f:Addr}{fd:FuncData}(E:Env K mg)(F:Mf K ao "number_next" "Door.number_next" bQ ["self", "hands"] f fd) :
  bW P w K mg base CX0 1 f fd ["self", "hands"] (ef K aM):=by
 refine cW (t:=eL) F.fn cN gv (λ cdv A outer s H E' hr=>?_) fU;refine Jd.h ?_;exact ae (uw (gm (i:=2) cN.nd rfl (Or.inl rfl) rfl (oA (own:=(["number", "many"]:List Str)) (fr:=[]) rfl) (rH (dvQ 1)) (λ _ _ _ _ _ _=>dg rfl (aL (ax (i:=0) aaJ rfl (Or.inl rfl)) (aL (ax (i:=1) aaJ rfl (Or.inl rfl)) (cw)))) (λ _ _ _ _ _ _=>fk (aJ rN jV (dvQ 1) (af))) (λ _ _ _ _ _ _=>dvQ 0))) <|
  ae (gm (i:=3) cN.nd rfl (Or.inl rfl) rfl (oA (own:=(["number"]:List Str)) (fr:=[0]) rfl) (bD (dvQ 2)) (λ _ _ _ _ _ _=>ax (i:=0) ags rfl (Or.inl rfl)) (λ _ _ _ _ _ _=>fk (fZ (dI (aJ aaG wq (cQ E.k_Door E.n_Door_number_led (dvQ 1)) (cU)) (eI (aJ rN jV (dvQ 0) (cQ E.k_Door E.n_Door_number_led (dvQ 1))))))) (λ _ _ _ _ _ _=>dvQ 0)) <|
  ak (aH (aag rfl rfl E.b_min (xJ (dvQ 3) (kO (dvQ 2)))))
theorem afc:(["row"]:List Str).Nodup:=by decide +kernel
theorem xR:(["number", "many", "told"]:List Str).Nodup:=by decide +kernel
theorem cX:aP jR ["self", "copies"] (ai d3):=⟨rfl,rfl,rfl,by decide +kernel,rfl,by decide +kernel,by decide +kernel⟩
theorem pL{f:Addr}{fd:FuncData}(E:Env K mg)(F:Mf K ao "lead" "Door.lead" d3 ["self", "copies"] f fd)(z_Door_number_next:eD P w K mg base)(z_Door_is_waited_at:cM P w K mg base)(z_Door_use:iT P w K mg base) :
  bW P w K mg base CX0 3 f fd ["self", "copies"] (ef K bX):=by
 obtain⟨_,_,G_Door_number_next,O_Door_number_next⟩:=z_Door_number_next;obtain⟨_,_,G_Door_is_waited_at,O_Door_is_waited_at⟩:=z_Door_is_waited_at;obtain⟨_,_,G_Door_use,O_Door_use⟩:=z_Door_use;refine cW (t:=jP aM aC aY) F.fn cX ni (λ cdv A outer s H E' hr=>?_) lC;refine Jd.h ?_;exact ae (az (i:=2) cX.nd rfl (Or.inl rfl) (xJ (gz rfl (oA (own:=(["row"]:List Str)) (fr:=[]) rfl) (bD (dvQ 1)) (λ _ _ _ _ _ _=>ax (i:=0) afc rfl (Or.inl rfl)) (λ _ _ _ _ _ _=>fk (dm (bw bu bt (dvQ 0) (af)))) (λ _ _ _ _ _ _=>dvQ 0)) (kO (dvQ 1)))) <|
  ae (uh (i:=3) cX.nd rfl (Or.inl rfl) rfl (oA (own:=(["number", "many", "told"]:List Str)) (fr:=[]) rfl) (bD (dvQ 2)) (λ _ _ _ _ _ _=>dg rfl (aL (ax (i:=0) xR rfl (Or.inl rfl)) (aL (ax (i:=1) xR rfl (Or.inl rfl)) (aL (ax (i:=2) xR rfl (Or.inl rfl)) (cw))))) (λ _ _ _ _ _ _=>bV) (λ _ _ _ _ _ _=>dvQ 0) (λ _ _ _ _ _ _=>dvQ 1)) <|
  ae (az (i:=4) cX.nd rfl (Or.inl rfl) (fF (aa))) <|
  ae (az (i:=5) cX.nd rfl (Or.inl rfl) (oF (dvQ 0) E.k_Door G_Door_number_next.me O_Door_number_next (hr.mono (by decide)) G_Door_number_next.bd (aw (dvQ 3) (aa)))) <|
  ae (um PassesOwn.never (fZ (jC (aJ mQ jy (dvQ 5) (cU)) (kA (dm (cn (dvQ 0) E.k_Door G_Door_is_waited_at.me O_Door_is_waited_at (hr.mono (by decide)) G_Door_is_waited_at.bd)))))
   (ae (bS (gh (dvQ 4) (aX (aw (cn (dvQ 0) E.k_Door G_Door_use.me O_Door_use (hr.mono (by decide)) G_Door_use.bd) (aw (dvQ 5) (aa)))))) <|
   ae (iB (lB hr) (dvQ 3) (dvQ 5) (af) abc) <|
   ae (eG E.k_Door E.n_Door_number_led (dvQ 0) (dvQ 5)) <|
   ak (az (i:=5) cX.nd rfl (Or.inl rfl) (oF (dvQ 0) E.k_Door G_Door_number_next.me O_Door_number_next (hr.mono (by decide)) G_Door_number_next.bd (aw (dvQ 3) (aa)))))) <|
  ak (aH (dvQ 4))
theorem dZ:aP aeI ["_law_script"] (ai n9):=⟨rfl,rfl,rfl,by decide +kernel,rfl,by decide +kernel,by decide +kernel⟩
theorem agJ{f:Addr}{fd:FuncData}(E:Env K mg)(F:Fn K mg "law" n9 ["_law_script"] f fd)(z_l_bag:vR P w K mg base)(z_l_shares:iV P w K mg base)
  {f_Door_init:Addr}{fd_Door_init:FuncData}(G_Door_init:MiF K ao "Door.__init__" cD ["self", "shares"] "shares" f_Door_init fd_Door_init)(O_Door_init:bW P w K mg base (CXE P w) 6 f_Door_init fd_Door_init ["self", "shares"] (er K aO))(z_l_take:iy P w K mg base)
  {f_Door_ask:Addr}{fd_Door_ask:FuncData}(G_Door_ask:Mf K ao "ask" "Door.ask" du ["self", "group", "many"] f_Door_ask fd_Door_ask)(O_Door_ask:bW P w K mg base (CXE P w) 4 f_Door_ask fd_Door_ask ["self", "group", "many"] (er K cB))(z_Door_use:iT P w K mg base)(z_l_spoilt:lT P w K mg base)(z_l_state:pH P w K mg base)(z_l_refused:lj P w K mg base)(z_Door_owner:eE P w K mg base)(z_Door_slot:gJ P w K mg base)(z_Door_lead:jW P w K mg base) :
  bW P w K mg base CX0 9 f fd ["_law_script"] (ef K kF):=by
 obtain⟨_,_,G_l_bag,O_l_bag⟩:=z_l_bag;obtain⟨_,_,G_l_shares,O_l_shares⟩:=z_l_shares;obtain⟨_,_,G_l_take,O_l_take⟩:=z_l_take;obtain⟨_,_,G_Door_use,O_Door_use⟩:=z_Door_use;obtain⟨_,_,G_l_spoilt,O_l_spoilt⟩:=z_l_spoilt;obtain⟨_,_,G_l_state,O_l_state⟩:=z_l_state;obtain⟨_,_,G_l_refused,O_l_refused⟩:=z_l_refused;obtain⟨_,_,G_Door_owner,O_Door_owner⟩:=z_Door_owner;obtain⟨_,_,G_Door_slot,O_Door_slot⟩:=z_Door_slot;obtain⟨_,_,G_Door_lead,O_Door_lead⟩:=z_Door_lead;refine cW (t:=agq eF bF aO ay cB aY cx cE bG aK bh bX) F.fn dZ adR (λ cdv A outer s H E' hr=>?_) zp;refine Jd.h ?_;exact ae (az (i:=1) dZ.nd rfl (Or.inl rfl) (eR O_l_bag (hr.mono (by decide)) rfl G_l_bag.mg G_l_bag.fn.kp G_l_bag.bd (aw (dvQ 0) (aa)))) <|
  ae (az (i:=2) dZ.nd rfl (Or.inl rfl) (eR O_l_shares (hr.mono (by decide)) rfl G_l_shares.mg G_l_shares.fn.kp G_l_shares.bd (aw (dvQ 1) (aa)))) <|
  ae (az (i:=3) dZ.nd rfl (Or.inl rfl) (jF jv G_Door_init.e.mi O_Door_init (hr.mono (by decide)) rfl E.m_Door G_Door_init.e.bd (aw (gf (ad1 eO ir rfl E.b_list iS (aw (dvQ 2) (aa)))) (aa)))) <|
  ae (eJ PassesOwn.never rfl (cy rfl E.b_range (aw (eR O_l_take (hr.mono (by decide)) rfl G_l_take.mg G_l_take.fn.kp G_l_take.bd (aw (dvQ 1) (aw (af) (aa)))) (aa))) (ax (i:=4) dZ.nd rfl (Or.inl rfl))
   (ae (bS (aem jv (dvQ 3) E.k_Door G_Door_ask.me O_Door_ask (hr.mono (by decide)) G_Door_ask.bd (aw (bw bu bt (bw bu bt (dvQ 2) (eR O_l_take (hr.mono (by decide)) rfl G_l_take.mg G_l_take.fn.kp G_l_take.bd (aw (dvQ 1) (aw (k9 cZ fM rfl E.b_len fO (aw (dvQ 2) (aa))) (aa))))) (af)) (aw (aV cK bU (af) (eR O_l_take (hr.mono (by decide)) rfl G_l_take.mg G_l_take.fn.kp G_l_take.bd (aw (dvQ 1) (aw (af) (aa))))) (aa))))) <|
   ak (bB (aJ (jI hr.h) gL (eR O_l_take (hr.mono (by decide)) rfl G_l_take.mg G_l_take.fn.kp G_l_take.bd (aw (dvQ 1) (aw (af) (aa)))) (af))
    (ak (bS (cn (dvQ 3) E.k_Door G_Door_use.me O_Door_use (hr.mono (by decide)) G_Door_use.bd)))
    (aR)))) <|
  ae (eJ PassesOwn.never rfl (cy rfl E.b_range (aw (af) (aa))) (ax (i:=5) dZ.nd rfl (Or.inl rfl))
   (ae (hG (eR O_l_spoilt (hr.mono (by decide)) rfl G_l_spoilt.mg G_l_spoilt.fn.kp G_l_spoilt.bd (aw (dvQ 1) (aa))) (dg rfl (aL (ax (i:=6) dZ.nd rfl (Or.inl rfl)) (aL (ax (i:=7) dZ.nd rfl (Or.inl rfl)) (cw))))) <|
   ae (az (i:=8) dZ.nd rfl (Or.inl rfl) (eR O_l_take (hr.mono (by decide)) rfl G_l_take.mg G_l_take.fn.kp G_l_take.bd (aw (dvQ 1) (aw (af) (aa))))) <|
   ae (bB (fZ (jC (aJ aaG wq (dvQ 6) (cU)) (kA (aJ (jI hr.h) gL (dvQ 8) (af)))))
    (ak (az (i:=8) dZ.nd rfl (Or.inl rfl) (af)))
    (aR)) <|
   ae (az (i:=9) dZ.nd rfl (Or.inl rfl) (ad1 (pW hr.h) wI rfl E.b_str xA (aw (dvQ 6) (aa)))) <|
   ae (az (i:=10) dZ.nd rfl (Or.inl rfl) (eR O_l_state (hr.mono (by decide)) rfl G_l_state.mg G_l_state.fn.kp G_l_state.bd (aw (dvQ 3) (aw (dvQ 2) (aa))))) <|
   ae (eJ PassesOwn.never rfl (cy rfl E.b_range (aw (aV cK bU (af) (eR O_l_take (hr.mono (by decide)) rfl G_l_take.mg G_l_take.fn.kp G_l_take.bd (aw (dvQ 1) (aw (af) (aa))))) (aa))) (ax (i:=11) dZ.nd rfl (Or.inl rfl))
    (ae (az (i:=12) dZ.nd rfl (Or.inl rfl) (eR O_l_refused (hr.mono (by decide)) rfl G_l_refused.mg G_l_refused.fn.kp G_l_refused.bd (aw (dvQ 8) (aw (dvQ 3) (aw (dvQ 6) (aa)))))) <|
    ae (bB (fZ (dI (aJ (iE hr.h) fq (dvQ 12) (dvQ 7)) (dI (dm (k9 eX iW rfl E.b_isinstance bZ (aw (dvQ 12) (aw (gj rfl E.b_bool yv) (aa))))) (eI (aJ (iE hr.h) fq (ad1 (pW hr.h) wI rfl E.b_str xA (aw (dvQ 6) (aa))) (dvQ 9))))))
     (ak (aH (gX)))
     (aR)) <|
    ak (bB (aJ (iE hr.h) fq (eR O_l_state (hr.mono (by decide)) rfl G_l_state.mg G_l_state.fn.kp G_l_state.bd (aw (dvQ 3) (aw (dvQ 2) (aa)))) (dvQ 10))
     (ak (aH (gX)))
     (aR)))) <|
   ae (bB (fZ (dI (aJ (iE hr.h) fq (eR O_l_refused (hr.mono (by decide)) rfl G_l_refused.mg G_l_refused.fn.kp G_l_refused.bd (aw (af) (aw (dvQ 3) (aw (gf (ad1 eO ir rfl E.b_list iS (aw (dvQ 2) (aa)))) (aa))))) (bj)) (eI (aJ (iE hr.h) fq (eR O_l_refused (hr.mono (by decide)) rfl G_l_refused.mg G_l_refused.fn.kp G_l_refused.bd (aw (af) (aw (dvQ 3) (aw (gf (ad1 eO ir rfl E.b_list iS (aw (dvQ 2) (aa)))) (aa))))) (bj)))))
    (ak (aH (gX)))
    (aR)) <|
   ak (bB (aJ (jI hr.h) gL (eR O_l_take (hr.mono (by decide)) rfl G_l_take.mg G_l_take.fn.kp G_l_take.bd (aw (dvQ 1) (aw (af) (aa)))) (af))
    (ak (bS (cn (dvQ 3) E.k_Door G_Door_use.me O_Door_use (hr.mono (by decide)) G_Door_use.bd)))
    (aR)))) <|
  ae (eJ PassesOwn.never rfl (qK (fF (aw (xn G_Door_init.e.mi (afX O_Door_init) (hr.mono (by decide)) rfl E.m_Door G_Door_init.e.bn) (aw (jF jv G_Door_init.e.mi O_Door_init (hr.mono (by decide)) rfl E.m_Door G_Door_init.e.bd (aw (cU) (aa))) (aw (yy G_Door_init.e.mi (afX O_Door_init) (hr.mono (by decide)) rfl E.m_Door G_Door_init.bk (cU)) (aa)))))) (ax (i:=13) dZ.nd rfl (Or.inl rfl))
   (ak (bB (fZ (dI (aJ mQ jy (cn (dvQ 13) E.k_Door G_Door_owner.me O_Door_owner (hr.mono (by decide)) G_Door_owner.bd) (cU)) (dI (aJ mQ jy (cn (dvQ 13) E.k_Door G_Door_use.me O_Door_use (hr.mono (by decide)) G_Door_use.bd) (cU)) (dI (aJ (iE hr.h) fq (cn (dvQ 13) E.k_Door G_Door_slot.me O_Door_slot (hr.mono (by decide)) G_Door_slot.bd) (af)) (eI (aJ (iE hr.h) fq (oF (dvQ 13) E.k_Door G_Door_lead.me O_Door_lead (hr.mono (by decide)) G_Door_lead.bd (aw (cS (aw (aX (aw (af) (aw (af) (aw (gX) (aa))))) (aa))) (aa))) (cS (aa))))))))
    (ak (aH (gX)))
    (aR)))) <|
  ak (aH (gX))
theorem all_mk{l:W.OpenLaw}{w:World}{K:FG}{h:Heap}{mg:Str->Option Value}{fa:Addr}(X:K.In h)(G:h.Ns mainGlobals mg)(hfa:mg "law" = some (.ref fa))
  (p_l_bag:PFn K "_law_bag" kg)
  (p_l_take:PFn K "_law_take" hJ)
  (p_l_shares:PFn K "_law_shares" eW)
  {f_BadShare_init:Addr}{oc_BadShare_init kV_BadShare_init dc_BadShare_init pm_BadShare_init cd_BadShare_init ct_BadShare_init:Value}{od_BadShare_init an_BadShare_init:Option Addr}{sl_BadShare_init:Array (Option Value)}
  (a_BadShare_init:W.findIn K (.ref av) "__init__" = some (some (.ref f_BadShare_init)))(i_BadShare_init:W.typeIn K (.ref f_BadShare_init)=some (.type "function"))(l_BadShare_init:K.lookup f_BadShare_init=some ⟨oc_BadShare_init,od_BadShare_init,.func (W.fnOf "__init__" "BadShare.__init__" (aN bJ) (aG bJ) (ai bJ) .none kV_BadShare_init dc_BadShare_init pm_BadShare_init an_BadShare_init cd_BadShare_init ct_BadShare_init),sl_BadShare_init⟩)(c_BadShare_init:W.codeIn K cd_BadShare_init "BadShare.__init__" = true)(k_BadShare_init:W.keepIn K (.ref f_BadShare_init)=true)
  (xm_BadShare_init:XO.xmk K av=true)(xt_BadShare_init:W.typeIn K (.ref av)=some (.type "type"))(xk_BadShare_init:W.keepIn K (.ref av)=true)
  (p_is_word:PFn K "is_word" fh)
  (p_is_whole:PFn K "is_whole" fc)
  (p_is_within:PFn K "is_within" dR)
  (p_is_share_row:PFn K "is_share_row" cL)
  {f_refuse_shares:Addr}{oc_refuse_shares kV_refuse_shares dc_refuse_shares pm_refuse_shares cd_refuse_shares ct_refuse_shares:Value}{od_refuse_shares an_refuse_shares:Option Addr}{sl_refuse_shares:Array (Option Value)}
  (a_refuse_shares:W.nsIn K mainGlobals "refuse_shares" = some (some (.ref f_refuse_shares)))(l_refuse_shares:K.lookup f_refuse_shares=some ⟨oc_refuse_shares,od_refuse_shares,.func (W.fnOf "refuse_shares" "refuse_shares" (aN bA) (aG bA) (ai bA) .none kV_refuse_shares dc_refuse_shares pm_refuse_shares an_refuse_shares cd_refuse_shares ct_refuse_shares),sl_refuse_shares⟩)(c_refuse_shares:W.codeIn K cd_refuse_shares "refuse_shares" = true)(k_refuse_shares:W.keepIn K (.ref f_refuse_shares)=true)
  (p_due_at:PFn K "due_at" iG)
  {f_round_of:Addr}{oc_round_of kV_round_of dc_round_of pm_round_of cd_round_of ct_round_of:Value}{od_round_of an_round_of:Option Addr}{sl_round_of:Array (Option Value)}
  (a_round_of:W.nsIn K mainGlobals "round_of" = some (some (.ref f_round_of)))(l_round_of:K.lookup f_round_of=some ⟨oc_round_of,od_round_of,.func (W.fnOf "round_of" "round_of" (aN cV) (aG cV) (ai cV) .none kV_round_of dc_round_of pm_round_of an_round_of cd_round_of ct_round_of),sl_round_of⟩)(c_round_of:W.codeIn K cd_round_of "round_of" = true)(k_round_of:W.keepIn K (.ref f_round_of)=true)
  (cc_round_of:cd_round_of=.ref df)
  (p_Door_begin:PMf K ao "begin" "Door.begin" dE)
  {f_Door_new_shares:Addr}{oc_Door_new_shares kV_Door_new_shares dc_Door_new_shares pm_Door_new_shares cd_Door_new_shares ct_Door_new_shares:Value}{od_Door_new_shares an_Door_new_shares:Option Addr}{sl_Door_new_shares:Array (Option Value)}
  (a_Door_new_shares:W.findIn K (.ref ao) "new_shares" = some (some (.ref f_Door_new_shares)))(i_Door_new_shares:W.isFn K (.ref f_Door_new_shares)=true)(l_Door_new_shares:K.lookup f_Door_new_shares=some ⟨oc_Door_new_shares,od_Door_new_shares,.func (W.fnOf "new_shares" "Door.new_shares" (aN aZ) (aG aZ) (ai aZ) .none kV_Door_new_shares dc_Door_new_shares pm_Door_new_shares an_Door_new_shares cd_Door_new_shares ct_Door_new_shares),sl_Door_new_shares⟩)(c_Door_new_shares:W.codeIn K cd_Door_new_shares "Door.new_shares" = true)(k_Door_new_shares:W.keepIn K (.ref f_Door_new_shares)=true)
  {f_Door_init:Addr}{oc_Door_init kV_Door_init dc_Door_init pm_Door_init cd_Door_init ct_Door_init:Value}{od_Door_init an_Door_init:Option Addr}{sl_Door_init:Array (Option Value)}
  {T_Door_init:Addr}{n_Door_init:Nat}{oc2_Door_init:Value}{od2_Door_init:Option Addr}{sl2_Door_init:Array (Option Value)}
  (a_Door_init:W.findIn K (.ref ao) "__init__" = some (some (.ref f_Door_init)))(i_Door_init:W.isFn K (.ref f_Door_init)=true)(l_Door_init:K.lookup f_Door_init=some ⟨oc_Door_init,od_Door_init,.func (W.fnOf "__init__" "Door.__init__" (aN cD) (aG cD) (ai cD) (.ref T_Door_init) kV_Door_init dc_Door_init pm_Door_init an_Door_init cd_Door_init ct_Door_init),sl_Door_init⟩)(c_Door_init:W.codeIn K cd_Door_init "Door.__init__" = true)(k_Door_init:W.keepIn K (.ref f_Door_init)=true)
  (dt_Door_init:K.lookup T_Door_init=some ⟨oc2_Door_init,od2_Door_init,.seq #[.none] n_Door_init,sl2_Door_init⟩)
  {f_Unknown_init:Addr}{oc_Unknown_init kV_Unknown_init dc_Unknown_init pm_Unknown_init cd_Unknown_init ct_Unknown_init:Value}{od_Unknown_init an_Unknown_init:Option Addr}{sl_Unknown_init:Array (Option Value)}
  (a_Unknown_init:W.findIn K (.ref aU) "__init__" = some (some (.ref f_Unknown_init)))(i_Unknown_init:W.typeIn K (.ref f_Unknown_init)=some (.type "function"))(l_Unknown_init:K.lookup f_Unknown_init=some ⟨oc_Unknown_init,od_Unknown_init,.func (W.fnOf "__init__" "Unknown.__init__" (aN bT) (aG bT) (ai bT) .none kV_Unknown_init dc_Unknown_init pm_Unknown_init an_Unknown_init cd_Unknown_init ct_Unknown_init),sl_Unknown_init⟩)(c_Unknown_init:W.codeIn K cd_Unknown_init "Unknown.__init__" = true)(k_Unknown_init:W.keepIn K (.ref f_Unknown_init)=true)
  (xm_Unknown_init:XO.xmk K aU=true)(xt_Unknown_init:W.typeIn K (.ref aU)=some (.type "type"))(xk_Unknown_init:W.keepIn K (.ref aU)=true)
  {f_Door_waits:Addr}{oc_Door_waits kV_Door_waits dc_Door_waits pm_Door_waits cd_Door_waits ct_Door_waits:Value}{od_Door_waits an_Door_waits:Option Addr}{sl_Door_waits:Array (Option Value)}
  (a_Door_waits:W.findIn K (.ref ao) "waits" = some (some (.ref f_Door_waits)))(i_Door_waits:W.isFn K (.ref f_Door_waits)=true)(l_Door_waits:K.lookup f_Door_waits=some ⟨oc_Door_waits,od_Door_waits,.func (W.fnOf "waits" "Door.waits" (aN bY) (aG bY) (ai bY) .none kV_Door_waits dc_Door_waits pm_Door_waits an_Door_waits cd_Door_waits ct_Door_waits),sl_Door_waits⟩)(c_Door_waits:W.codeIn K cd_Door_waits "Door.waits" = true)(k_Door_waits:W.keepIn K (.ref f_Door_waits)=true)
  {f_Door_ask:Addr}{oc_Door_ask kV_Door_ask dc_Door_ask pm_Door_ask cd_Door_ask ct_Door_ask:Value}{od_Door_ask an_Door_ask:Option Addr}{sl_Door_ask:Array (Option Value)}
  (a_Door_ask:W.findIn K (.ref ao) "ask" = some (some (.ref f_Door_ask)))(i_Door_ask:W.isFn K (.ref f_Door_ask)=true)(l_Door_ask:K.lookup f_Door_ask=some ⟨oc_Door_ask,od_Door_ask,.func (W.fnOf "ask" "Door.ask" (aN du) (aG du) (ai du) .none kV_Door_ask dc_Door_ask pm_Door_ask an_Door_ask cd_Door_ask ct_Door_ask),sl_Door_ask⟩)(c_Door_ask:W.codeIn K cd_Door_ask "Door.ask" = true)(k_Door_ask:W.keepIn K (.ref f_Door_ask)=true)
  (p_Door_is_waited_at:PMf K ao "is_waited_at" "Door.is_waited_at" bK)
  (p_Door_owner:PMf K ao "owner" "Door.owner" dw)
  (p_Door_use:PMf K ao "use" "Door.use" fj)
  (p_l_wrong:PFn K "_law_wrong" fW)
  (p_l_spoilt:PFn K "_law_spoilt" eU)
  (p_Door_slot:PMf K ao "slot" "Door.slot" dX)
  (p_l_state:PFn K "_law_state" fL)
  {f_owners:Addr}{oc_owners kV_owners dc_owners pm_owners cd_owners ct_owners:Value}{od_owners an_owners:Option Addr}{sl_owners:Array (Option Value)}
  (a_owners:W.nsIn K mainGlobals "owners" = some (some (.ref f_owners)))(l_owners:K.lookup f_owners=some ⟨oc_owners,od_owners,.func (W.fnOf "owners" "owners" (aN fB) (aG fB) (ai fB) .none kV_owners dc_owners pm_owners an_owners cd_owners ct_owners),sl_owners⟩)(c_owners:W.codeIn K cd_owners "owners" = true)(k_owners:W.keepIn K (.ref f_owners)=true)
  (p_l_refused:PFn K "_law_refused" dQ)
  (p_Door_number_next:PMf K ao "number_next" "Door.number_next" bQ)
  (p_Door_lead:PMf K ao "lead" "Door.lead" d3)
  {f_law:Addr}{oc_law kV_law dc_law pm_law cd_law ct_law:Value}{od_law an_law:Option Addr}{sl_law:Array (Option Value)}
  (a_law:W.nsIn K mainGlobals "law" = some (some (.ref f_law)))(l_law:K.lookup f_law=some ⟨oc_law,od_law,.func (W.fnOf "law" "law" (aN n9) (aG n9) (ai n9) .none kV_law dc_law pm_law an_law cd_law ct_law),sl_law⟩)(c_law:W.codeIn K cd_law "law" = true)(k_law:W.keepIn K (.ref f_law)=true)
  (aC_Door:W.nsIn K mainGlobals "Door" = some (some (.ref ao)))(pg_Door:W.plainGet K ao Str.empty=true)(hd_Door:W.hasDictIn K ao=true)(po_Door:W.plainOver K ao=true)(sa_Door:W.findIn K (.ref ao) "__setattr__" = some (some (.builtin "object.__setattr__")))(mk_Door:W.makesIn K ao=true)(kc_Door:W.keepIn K (.ref ao)=true)
  (xg_BadBerths:W.nsIn K mainGlobals "BadBerths" = some (some (.ref ee)))
  (xg_BadRow:W.nsIn K mainGlobals "BadRow" = some (some (.ref ip)))
  (xg_BadShare:W.nsIn K mainGlobals "BadShare" = some (some (.ref av)))
  (xg_PlaceError:W.nsIn K mainGlobals "PlaceError" = some (some (.ref eK)))
  (xg_Unknown:W.nsIn K mainGlobals "Unknown" = some (some (.ref aU)))
  (xg1:W.specialIn K (.builtin "object.__class__") "__get__" = some (some (.builtin "getset_descriptor.__get__")))(xg2:W.takesIn K (.builtin "object.__class__")=some true)
  (x1_BadShare:XO.aa0 K av=true)(x2_BadShare:W.findIn K (.ref av) "__setattr__" = some (some (.builtin "object.__setattr__")))(x3_BadShare:W.findIn K (.ref av) "__getattribute__" = some (some (.builtin "BaseException.__getattribute__")))(x4_BadShare:W.findIn K (.ref av) "__getattr__" = some none)(x5_BadShare:W.findIn K (.ref av) "__class__" = some (some (.builtin "object.__class__")))
  (x1_Unknown:XO.aa0 K aU=true)(x2_Unknown:W.findIn K (.ref aU) "__setattr__" = some (some (.builtin "object.__setattr__")))(x3_Unknown:W.findIn K (.ref aU) "__getattribute__" = some (some (.builtin "BaseException.__getattribute__")))(x4_Unknown:W.findIn K (.ref aU) "__getattr__" = some none)(x5_Unknown:W.findIn K (.ref aU) "__class__" = some (some (.builtin "object.__class__")))
  (xf_e_BadShare_PlaceError:W.exmOne K (.ref av) (.ref eK)=some true)
  (xf_h_round_of:W.codeHdIn K df aB=true)
  (xf_i_BadShare_BadBerths_BadRow:W.kitAny K (.ref av) [.ref ee,.ref ip]=some false)
  (xf_i_BadShare_BadShare:W.kitAny K (.ref av) [.ref av]=some true)
  (xf_i_BadShare_ValueError:W.kitAny K (.ref av) [.type "ValueError"]=some true)
  (n_BadShare_at:W.findIn K (.ref av) "at" = some none)
  (n_Door_asks_waiting:W.findIn K (.ref ao) "asks_waiting" = some none)
  (n_Door_next_slot:W.findIn K (.ref ao) "next_slot" = some none)
  (n_Door_number_led:W.findIn K (.ref ao) "number_led" = some none)
  (n_Door_owner_round:W.findIn K (.ref ao) "owner_round" = some none)
  (n_Unknown_name:W.findIn K (.ref aU) "name" = some none)
  (b_ValueError:W.nsIn K mainGlobals "ValueError" = some none)
  (b_abs:W.nsIn K mainGlobals "abs" = some none)
  (b_all:W.nsIn K mainGlobals "all" = some none)
  (b_any:W.nsIn K mainGlobals "any" = some none)
  (b_bool:W.nsIn K mainGlobals "bool" = some none)
  (b_enumerate:W.nsIn K mainGlobals "enumerate" = some none)
  (b_int:W.nsIn K mainGlobals "int" = some none)
  (b_isinstance:W.nsIn K mainGlobals "isinstance" = some none)
  (b_len:W.nsIn K mainGlobals "len" = some none)
  (b_list:W.nsIn K mainGlobals "list" = some none)
  (b_max:W.nsIn K mainGlobals "max" = some none)
  (b_min:W.nsIn K mainGlobals "min" = some none)
  (b_range:W.nsIn K mainGlobals "range" = some none)
  (b_str:W.nsIn K mainGlobals "str" = some none)
  (b_sum:W.nsIn K mainGlobals "sum" = some none)
  (b_tuple:W.nsIn K mainGlobals "tuple" = some none)
  (b_zip:W.nsIn K mainGlobals "zip" = some none)
  {t_LONGEST_WORD:Tok}(g_LONGEST_WORD:W.nsIn K mainGlobals "LONGEST_WORD" = some (some (.int 8 t_LONGEST_WORD)))
  {t_MOST_GROUPS:Tok}(g_MOST_GROUPS:W.nsIn K mainGlobals "MOST_GROUPS" = some (some (.int 4 t_MOST_GROUPS)))
  {t_MOST_SHARE:Tok}(g_MOST_SHARE:W.nsIn K mainGlobals "MOST_SHARE" = some (some (.int 9 t_MOST_SHARE)))
  {t_MOST_WAITING:Tok}(g_MOST_WAITING:W.nsIn K mainGlobals "MOST_WAITING" = some (some (.int 40 t_MOST_WAITING))) :
  ∃ fd:FuncData,(∀ (s:Shared) (v:Value),BindsTo s fd ⟨[v],[]⟩ [("_law_script",v)])/\∀ base:Heap,K.In base->base.Ns mainGlobals mg->bW l.prog w K mg base CX0 9 fa fd ["_law_script"] (ef K kF):=by
 have e:=hfa.symm.trans (W.mg_of X G a_law);cases e;have E:Env K mg:=⟨⟨pg_Door,hd_Door,po_Door,sa_Door⟩,W.mg_of X G aC_Door,W.mg_of X G xg_BadBerths,W.mg_of X G xg_BadRow,W.mg_of X G xg_BadShare,W.mg_of X G xg_PlaceError,W.mg_of X G xg_Unknown,⟨x1_BadShare,x2_BadShare,x3_BadShare,x4_BadShare,x5_BadShare,xg1,xg2⟩,⟨x1_Unknown,x2_Unknown,x3_Unknown,x4_Unknown,x5_Unknown,xg1,xg2⟩,xf_e_BadShare_PlaceError,xf_h_round_of,xf_i_BadShare_BadBerths_BadRow,xf_i_BadShare_BadShare,xf_i_BadShare_ValueError,n_BadShare_at,n_Door_asks_waiting,n_Door_next_slot,n_Door_number_led,n_Door_owner_round,n_Unknown_name,W.mg_none_of X G b_ValueError,W.mg_none_of X G b_abs,W.mg_none_of X G b_all,W.mg_none_of X G b_any,W.mg_none_of X G b_bool,W.mg_none_of X G b_enumerate,W.mg_none_of X G b_int,W.mg_none_of X G b_isinstance,W.mg_none_of X G b_len,W.mg_none_of X G b_list,W.mg_none_of X G b_max,W.mg_none_of X G b_min,W.mg_none_of X G b_range,W.mg_none_of X G b_str,W.mg_none_of X G b_sum,W.mg_none_of X G b_tuple,W.mg_none_of X G b_zip,⟨_,W.mg_of X G g_LONGEST_WORD⟩,⟨_,W.mg_of X G g_MOST_GROUPS⟩,⟨_,W.mg_of X G g_MOST_SHARE⟩,⟨_,W.mg_of X G g_MOST_WAITING⟩⟩;obtain⟨_,_,G_l_bag⟩:∃ f fd,Fn K mg "_law_bag" kg ["_law_script"] f fd:=p_l_bag.fn X G (λ _ _ _ _ _ _ us hl=>by obtain⟨_,rfl⟩:=D.gH hl;rfl);obtain⟨_,_,G_l_take⟩:∃ f fd,Fn K mg "_law_take" hJ ["_law_bag_here", "_law_many"] f fd:=p_l_take.fn X G (λ _ _ _ _ _ _ us hl=>by obtain⟨_,_,rfl⟩:=D.ka hl;rfl);obtain⟨_,_,G_l_shares⟩:∃ f fd,Fn K mg "_law_shares" eW ["_law_bag_here"] f fd:=p_l_shares.fn X G (λ _ _ _ _ _ _ us hl=>by obtain⟨_,rfl⟩:=D.gH hl;rfl);have G_BadShare_init:Xi K av "BadShare.__init__" bJ ["self", "at"] _ _:=agI E.x_BadShare a_BadShare_init i_BadShare_init l_BadShare_init c_BadShare_init k_BadShare_init xm_BadShare_init xt_BadShare_init xk_BadShare_init (λ _ _ _ _ _ _ us hl=>by obtain⟨_,_,rfl⟩:=D.ka hl;rfl);obtain⟨_,_,G_is_word⟩:∃ f fd,Fn K mg "is_word" fh ["thing"] f fd:=p_is_word.fn X G (λ _ _ _ _ _ _ us hl=>by obtain⟨_,rfl⟩:=D.gH hl;rfl);obtain⟨_,_,G_is_whole⟩:∃ f fd,Fn K mg "is_whole" fc ["thing"] f fd:=p_is_whole.fn X G (λ _ _ _ _ _ _ us hl=>by obtain⟨_,rfl⟩:=D.gH hl;rfl);obtain⟨_,_,G_is_within⟩:∃ f fd,Fn K mg "is_within" dR ["thing", "low", "high"] f fd:=p_is_within.fn X G (λ _ _ _ _ _ _ us hl=>by obtain⟨_,_,_,rfl⟩:=D.zx hl;rfl);obtain⟨_,_,G_is_share_row⟩:∃ f fd,Fn K mg "is_share_row" cL ["row"] f fd:=p_is_share_row.fn X G (λ _ _ _ _ _ _ us hl=>by obtain⟨_,rfl⟩:=D.gH hl;rfl);have G_refuse_shares:Fn K mg "refuse_shares" bA ["shares"] _ _:=xb X G a_refuse_shares l_refuse_shares c_refuse_shares k_refuse_shares (λ _ _ _ _ _ _ us hl=>by obtain⟨_,rfl⟩:=D.gH hl;rfl);obtain⟨_,_,G_due_at⟩:∃ f fd,Fn K mg "due_at" iG ["unit", "whole", "share"] f fd:=p_due_at.fn X G (λ _ _ _ _ _ _ us hl=>by obtain⟨_,_,_,rfl⟩:=D.zx hl;rfl);have G_round_of:Fn K mg "round_of" cV ["shares"] _ _:=xb X G a_round_of l_round_of c_round_of k_round_of (λ _ _ _ _ _ _ us hl=>by obtain⟨_,rfl⟩:=D.gH hl;rfl);obtain⟨_,_,G_Door_begin⟩:∃ f fd,Mf K ao "begin" "Door.begin" dE ["self"] f fd:=p_Door_begin.mf (λ _ _ _ _ _ _ us hl=>by obtain⟨_,rfl⟩:=D.gH hl;rfl);have G_Door_new_shares:Mf K ao "new_shares" "Door.new_shares" aZ ["self", "shares"] _ _:=zP a_Door_new_shares i_Door_new_shares l_Door_new_shares c_Door_new_shares k_Door_new_shares (λ _ _ _ _ _ _ us hl=>by obtain⟨_,_,rfl⟩:=D.ka hl;rfl);have G_Door_init:MiF K ao "Door.__init__" cD ["self", "shares"] "shares" _ _:=af6 dt_Door_init (aeE a_Door_init i_Door_init l_Door_init c_Door_init k_Door_init mk_Door kc_Door dt_Door_init (λ us hl=>match us,hl with | [_,_],_=>⟨_,rfl,rfl⟩) (λ us hl=>match us,hl with | [_],_=>⟨_,rfl,rfl⟩)) (λ _ _=>⟨_,rfl,rfl⟩)
 have G_Unknown_init:Xi K aU "Unknown.__init__" bT ["self", "name"] _ _:=agI E.x_Unknown a_Unknown_init i_Unknown_init l_Unknown_init c_Unknown_init k_Unknown_init xm_Unknown_init xt_Unknown_init xk_Unknown_init (λ _ _ _ _ _ _ us hl=>by obtain⟨_,_,rfl⟩:=D.ka hl;rfl);have G_Door_waits:Mf K ao "waits" "Door.waits" bY ["self", "group"] _ _:=zP a_Door_waits i_Door_waits l_Door_waits c_Door_waits k_Door_waits (λ _ _ _ _ _ _ us hl=>by obtain⟨_,_,rfl⟩:=D.ka hl;rfl);have G_Door_ask:Mf K ao "ask" "Door.ask" du ["self", "group", "many"] _ _:=zP a_Door_ask i_Door_ask l_Door_ask c_Door_ask k_Door_ask (λ _ _ _ _ _ _ us hl=>by obtain⟨_,_,_,rfl⟩:=D.zx hl;rfl);obtain⟨_,_,G_Door_is_waited_at⟩:∃ f fd,Mf K ao "is_waited_at" "Door.is_waited_at" bK ["self"] f fd:=p_Door_is_waited_at.mf (λ _ _ _ _ _ _ us hl=>by obtain⟨_,rfl⟩:=D.gH hl;rfl);obtain⟨_,_,G_Door_owner⟩:∃ f fd,Mf K ao "owner" "Door.owner" dw ["self"] f fd:=p_Door_owner.mf (λ _ _ _ _ _ _ us hl=>by obtain⟨_,rfl⟩:=D.gH hl;rfl);obtain⟨_,_,G_Door_use⟩:∃ f fd,Mf K ao "use" "Door.use" fj ["self"] f fd:=p_Door_use.mf (λ _ _ _ _ _ _ us hl=>by obtain⟨_,rfl⟩:=D.gH hl;rfl);obtain⟨_,_,G_l_wrong⟩:∃ f fd,Fn K mg "_law_wrong" fW ["_law_bag_here", "_law_ahead"] f fd:=p_l_wrong.fn X G (λ _ _ _ _ _ _ us hl=>by obtain⟨_,_,rfl⟩:=D.ka hl;rfl);obtain⟨_,_,G_l_spoilt⟩:∃ f fd,Fn K mg "_law_spoilt" eU ["_law_bag_here"] f fd:=p_l_spoilt.fn X G (λ _ _ _ _ _ _ us hl=>by obtain⟨_,rfl⟩:=D.gH hl;rfl);obtain⟨_,_,G_Door_slot⟩:∃ f fd,Mf K ao "slot" "Door.slot" dX ["self"] f fd:=p_Door_slot.mf (λ _ _ _ _ _ _ us hl=>by obtain⟨_,rfl⟩:=D.gH hl;rfl);obtain⟨_,_,G_l_state⟩:∃ f fd,Fn K mg "_law_state" fL ["_law_door", "_law_parted"] f fd:=p_l_state.fn X G (λ _ _ _ _ _ _ us hl=>by obtain⟨_,_,rfl⟩:=D.ka hl;rfl);have G_owners:Fn K mg "owners" fB ["shares", "many"] _ _:=xb X G a_owners l_owners c_owners k_owners (λ _ _ _ _ _ _ us hl=>by obtain⟨_,_,rfl⟩:=D.ka hl;rfl);obtain⟨_,_,G_l_refused⟩:∃ f fd,Fn K mg "_law_refused" dQ ["_law_way", "_law_door", "_law_thing"] f fd:=p_l_refused.fn X G (λ _ _ _ _ _ _ us hl=>by obtain⟨_,_,_,rfl⟩:=D.zx hl;rfl);obtain⟨_,_,G_Door_number_next⟩:∃ f fd,Mf K ao "number_next" "Door.number_next" bQ ["self", "hands"] f fd:=p_Door_number_next.mf (λ _ _ _ _ _ _ us hl=>by obtain⟨_,_,rfl⟩:=D.ka hl;rfl);obtain⟨_,_,G_Door_lead⟩:∃ f fd,Mf K ao "lead" "Door.lead" d3 ["self", "copies"] f fd:=p_Door_lead.mf (λ _ _ _ _ _ _ us hl=>by obtain⟨_,_,rfl⟩:=D.ka hl;rfl);have G_law:Fn K mg "law" n9 ["_law_script"] _ _:=xb X G a_law l_law c_law k_law (λ _ _ _ _ _ _ us hl=>by obtain⟨_,rfl⟩:=D.gH hl;rfl);refine⟨W.fnOf "law" "law" (aN n9) (aG n9) (ai n9) .none kV_law dc_law pm_law an_law cd_law ct_law,λ s v=>.of_eq rfl,λ base _ _=>?_⟩;have z_l_bag:vR l.prog w K mg base:=⟨_,_,G_l_bag,aar E G_l_bag⟩;have z_l_take:iy l.prog w K mg base:=⟨_,_,G_l_take,ym E G_l_take⟩;have z_l_shares:iV l.prog w K mg base:=⟨_,_,G_l_shares,rC E G_l_shares z_l_take⟩;have O_BadShare_init:=jk (P:=l.prog) (w:=w) (base:=base) E G_BadShare_init;have O_is_word:=uX (P:=l.prog) (w:=w) (base:=base) E G_is_word;have z_is_whole:mG l.prog w K mg base:=⟨_,_,G_is_whole,qZ E G_is_whole⟩;have z_is_within:jG l.prog w K mg base:=⟨_,_,G_is_within,pE E G_is_within z_is_whole⟩;have O_is_share_row:=kZ (P:=l.prog) (w:=w) (base:=base) E G_is_share_row G_is_word O_is_word z_is_within;have O_refuse_shares:=jq (P:=l.prog) (w:=w) (base:=base) E G_refuse_shares G_BadShare_init O_BadShare_init G_is_share_row O_is_share_row;have z_due_at:tO l.prog w K mg base:=⟨_,_,G_due_at,yt E G_due_at⟩;have O_round_of:=qS (P:=l.prog) (w:=w) (base:=base) E G_round_of cc_round_of z_due_at;have O_Door_begin:=mX (P:=l.prog) (w:=w) (base:=base) E G_Door_begin;have O_Door_new_shares:=iC (P:=l.prog) (w:=w) (base:=base) E G_Door_new_shares G_refuse_shares O_refuse_shares G_round_of O_round_of G_Door_begin O_Door_begin;have O_Door_init:=o8 (P:=l.prog) (w:=w) (base:=base) E G_Door_init G_Door_new_shares O_Door_new_shares;have O_Unknown_init:=kG (P:=l.prog) (w:=w) (base:=base) E G_Unknown_init;have O_Door_waits:=nW (P:=l.prog) (w:=w) (base:=base) E G_Door_waits G_is_word O_is_word G_Unknown_init O_Unknown_init;have O_Door_ask:=rh (P:=l.prog) (w:=w) (base:=base) E G_Door_ask G_Door_waits O_Door_waits;have z_Door_is_waited_at:cM l.prog w K mg base:=⟨_,_,G_Door_is_waited_at,gp E G_Door_is_waited_at⟩;have z_Door_owner:eE l.prog w K mg base:=⟨_,_,G_Door_owner,oH E G_Door_owner⟩;have z_Door_use:iT l.prog w K mg base:=⟨_,_,G_Door_use,rV E G_Door_use z_Door_is_waited_at z_Door_owner⟩;have z_l_wrong:px l.prog w K mg base:=⟨_,_,G_l_wrong,uB E G_l_wrong z_l_take⟩;have z_l_spoilt:lT l.prog w K mg base:=⟨_,_,G_l_spoilt,rB E G_l_spoilt z_l_take z_l_shares z_l_wrong⟩;have z_Door_slot:gJ l.prog w K mg base:=⟨_,_,G_Door_slot,p9 E G_Door_slot⟩;have z_l_state:pH l.prog w K mg base:=⟨_,_,G_l_state,uk E G_l_state z_Door_slot z_Door_owner G_Door_waits O_Door_waits⟩;have O_owners:=vp (P:=l.prog) (w:=w) (base:=base) E G_owners G_refuse_shares O_refuse_shares G_round_of O_round_of;have z_l_refused:lj l.prog w K mg base:=⟨_,_,G_l_refused,qt E G_l_refused G_owners O_owners G_Door_init O_Door_init G_Door_new_shares O_Door_new_shares⟩;have z_Door_number_next:eD l.prog w K mg base:=⟨_,_,G_Door_number_next,gQ E G_Door_number_next⟩;have z_Door_lead:jW l.prog w K mg base:=⟨_,_,G_Door_lead,pL E G_Door_lead z_Door_number_next z_Door_is_waited_at z_Door_use⟩;have O_law:=agJ (P:=l.prog) (w:=w) (base:=base) E G_law z_l_bag z_l_shares G_Door_init O_Door_init z_l_take G_Door_ask O_Door_ask z_Door_use z_l_spoilt z_l_state z_l_refused z_Door_owner z_Door_slot z_Door_lead;exact O_law
end
theorem walk{l:W.OpenLaw}{q:Program}{loose:List Str}{XP:(Str->Option Value)->Heap->Prop}{YP:World->Heap->Prop}{d:DefRec}{K:Params->FG}(hq:PyProof.Rows.importsNone q=true)(hn:l.most=some 63)(hdf:d.params.defaults=[])
  (hT:∀ w:World,W.codeHdIn (K w.params) df aB=true/\(K w.params).lookup aB=none)(hY:∀ (w:World) (h:Heap),YP w h->(K w.params).In h/\∀ T∈[aB],h.get? T=some {cls:=.none,data:=.fields #[]})
  (F:∀ (w:World) (mg:Str->Option Value) (fa:Addr) (h:Heap),(K w.params).In h->h.Ns mainGlobals mg->mg d.name=some (.ref fa) ->
   ∃ fd:FuncData,(∀ (s:Shared) (u:Value),BindsTo s fd ⟨[u],[]⟩ [("_law_script",u)])/\∀ base:Heap,(K w.params).In base->base.Ns mainGlobals mg->bW l.prog w (K w.params) mg base CX0 9 fa fd ["_law_script"] (ef (K w.params) kF)) :
  W.WalkO q loose XP YP l.row.toRowW d [] (λ f vs=>PySem.call f vs):=
 L2.zY (n:=63) (k:=9) (x:= "_law_script") (CX:=λ _=>CX0) (sp:=λ w=>ef (K w.params) kF) hq hn (by decide) hdf ⟨rfl,rfl,by decide,by decide⟩ [aB] (λ w T h=>by rw[List.mem_singleton.mp h];exact⟨⟨_,(hT w).1⟩,(hT w).2⟩) hY F (λ _ H a ns hl hO hB hS=>D.u7 (q:=fg) (lpos:=⟨51,41,51,92⟩) hl hO hB hS zA) λ _ _ _ _ _ z=>z
end K87
end
namespace PySem.W.Fast
def tw6133834064248321211:=0
def tw3734932291188184658:=0
def tw16666390104944210481:=0
def tw16413007210450897392:=0
def tw15831571282371565775:=0
def tw10644423288899293133:=0
def tw13248432762559983370:=0
def tw1756832746756579818:=0
def tw9516648655762868266:=0
def tw10348353525224328328:=0
def tw11762310832878923399:=0
def tw15563567886100321153:=0
def tw18423177305323816992:=0
def tw1580299107235660049:=0
end PySem.W.Fast
open PySem PySem.W PyProof.Rows
local macro_rules | `(tactic| walk_at "kf")=>`(tactic| (refine' D.afi ?a ?l ?c ?k; (case a=>k_is); (case l=>k_is); (case c=>k_is); (case k=>k_is)))
local macro_rules | `(tactic| walk_at "km")=>`(tactic| (refine' D.aeX ?a ?i ?l ?c ?k; (case a=>k_is); (case i=>k_is); (case l=>k_is); (case c=>k_is); (case k=>k_is)))
set_option maxRecDepth 100000
set_option maxHeartbeats 0
theorem PySem.Challenge.cw_placedworks_k87_shares_refused_holds : PySem.Challenge.rw_placedworks_k87_shares_refused.Holds := by
 w_on;o_law;k_head; (case hw=>w_witness2)
 k_fill
 refine K87.walk (l:=PySem.Challenge.rw_placedworks_k87_shares_refused) ?Q rfl rfl ?T (λ w h Y=>⟨PySem.W.km_in_of Y,PySem.W.km_tabs_of Y⟩) ?F
 case Q=>kernel_rfl
 case T=>(intro w;exact⟨by kernel_rfl,by kernel_rfl⟩)
 case F =>
  intro w mg fa h KX G hmg;refine' K87.all_mk KX G hmg ?p_l_bag ?p_l_take ?p_l_shares ?a_BadShare_init ?i_BadShare_init ?l_BadShare_init ?c_BadShare_init ?k_BadShare_init ?xm_BadShare_init ?xt_BadShare_init ?xk_BadShare_init ?p_is_word ?p_is_whole ?p_is_within ?p_is_share_row ?a_refuse_shares ?l_refuse_shares ?c_refuse_shares ?k_refuse_shares ?p_due_at ?a_round_of ?l_round_of ?c_round_of ?k_round_of ?cc_round_of ?p_Door_begin ?a_Door_new_shares ?i_Door_new_shares ?l_Door_new_shares ?c_Door_new_shares ?k_Door_new_shares ?a_Door_init ?i_Door_init ?l_Door_init ?c_Door_init ?k_Door_init ?dt_Door_init ?a_Unknown_init ?i_Unknown_init ?l_Unknown_init ?c_Unknown_init ?k_Unknown_init ?xm_Unknown_init ?xt_Unknown_init ?xk_Unknown_init ?a_Door_waits ?i_Door_waits ?l_Door_waits ?c_Door_waits ?k_Door_waits ?a_Door_ask ?i_Door_ask ?l_Door_ask ?c_Door_ask ?k_Door_ask ?p_Door_is_waited_at ?p_Door_owner ?p_Door_use ?p_l_wrong ?p_l_spoilt ?p_Door_slot ?p_l_state ?a_owners ?l_owners ?c_owners ?k_owners ?p_l_refused ?p_Door_number_next ?p_Door_lead ?a_law ?l_law ?c_law ?k_law ?aC_Door ?pg_Door ?hd_Door ?po_Door ?sa_Door ?mk_Door ?kc_Door ?xg_BadBerths ?xg_BadRow ?xg_BadShare ?xg_PlaceError ?xg_Unknown ?xg1 ?xg2 ?x1_BadShare ?x2_BadShare ?x3_BadShare ?x4_BadShare ?x5_BadShare ?x1_Unknown ?x2_Unknown ?x3_Unknown ?x4_Unknown ?x5_Unknown ?xf_e_BadShare_PlaceError ?xf_h_round_of ?xf_i_BadShare_BadBerths_BadRow ?xf_i_BadShare_BadShare ?xf_i_BadShare_ValueError ?n_BadShare_at ?n_Door_asks_waiting ?n_Door_next_slot ?n_Door_number_led ?n_Door_owner_round ?n_Unknown_name ?b_ValueError ?b_abs ?b_all ?b_any ?b_bool ?b_enumerate ?b_int ?b_isinstance ?b_len ?b_list ?b_max ?b_min ?b_range ?b_str ?b_sum ?b_tuple ?b_zip ?g_LONGEST_WORD ?g_MOST_GROUPS ?g_MOST_SHARE ?g_MOST_WAITING
  (case p_l_bag=>walk_at "kf")
  (case p_l_take=>walk_at "kf")
  (case p_l_shares=>walk_at "kf")
  (case a_BadShare_init=>k_is)
  (case i_BadShare_init=>k_is)
  (case l_BadShare_init=>k_is)
  (case c_BadShare_init=>k_is)
  (case k_BadShare_init=>k_is)
  (case xm_BadShare_init=>kernel_rfl)
  (case xt_BadShare_init=>k_is)
  (case xk_BadShare_init=>k_is)
  (case p_is_word=>walk_at "kf")
  (case p_is_whole=>walk_at "kf")
  (case p_is_within=>walk_at "kf")
  (case p_is_share_row=>walk_at "kf")
  (case a_refuse_shares=>k_is)
  (case l_refuse_shares=>k_is)
  (case c_refuse_shares=>k_is)
  (case k_refuse_shares=>k_is)
  (case p_due_at=>walk_at "kf")
  (case a_round_of=>k_is)
  (case l_round_of=>k_is)
  (case c_round_of=>k_is)
  (case k_round_of=>k_is)
  (case cc_round_of=>exact rfl)
  (case p_Door_begin=>walk_at "km")
  (case a_Door_new_shares=>k_is)
  (case i_Door_new_shares=>k_is)
  (case l_Door_new_shares=>k_is)
  (case c_Door_new_shares=>k_is)
  (case k_Door_new_shares=>k_is)
  (case a_Door_init=>k_is)
  (case i_Door_init=>k_is)
  (case l_Door_init=>k_is)
  (case c_Door_init=>k_is)
  (case k_Door_init=>k_is)
  (case dt_Door_init=>k_is)
  (case a_Unknown_init=>k_is)
  (case i_Unknown_init=>k_is)
  (case l_Unknown_init=>k_is)
  (case c_Unknown_init=>k_is)
  (case k_Unknown_init=>k_is)
  (case xm_Unknown_init=>kernel_rfl)
  (case xt_Unknown_init=>k_is)
  (case xk_Unknown_init=>k_is)
  (case a_Door_waits=>k_is)
  (case i_Door_waits=>k_is)
  (case l_Door_waits=>k_is)
  (case c_Door_waits=>k_is)
  (case k_Door_waits=>k_is)
  (case a_Door_ask=>k_is)
  (case i_Door_ask=>k_is)
  (case l_Door_ask=>k_is)
  (case c_Door_ask=>k_is)
  (case k_Door_ask=>k_is)
  (case p_Door_is_waited_at=>walk_at "km")
  (case p_Door_owner=>walk_at "km")
  (case p_Door_use=>walk_at "km")
  (case p_l_wrong=>walk_at "kf")
  (case p_l_spoilt=>walk_at "kf")
  (case p_Door_slot=>walk_at "km")
  (case p_l_state=>walk_at "kf")
  (case a_owners=>k_is)
  (case l_owners=>k_is)
  (case c_owners=>k_is)
  (case k_owners=>k_is)
  (case p_l_refused=>walk_at "kf")
  (case p_Door_number_next=>walk_at "km")
  (case p_Door_lead=>walk_at "km")
  (case a_law=>k_is)
  (case l_law=>k_is)
  (case c_law=>k_is)
  (case k_law=>k_is)
  (case aC_Door=>k_is)
  (case pg_Door=>k_is)
  (case hd_Door=>k_is)
  (case po_Door=>k_is)
  (case sa_Door=>k_is)
  (case mk_Door=>k_is)
  (case kc_Door=>k_is)
  (case xg_BadBerths=>k_is)
  (case xg_BadRow=>k_is)
  (case xg_BadShare=>k_is)
  (case xg_PlaceError=>k_is)
  (case xg_Unknown=>k_is)
  (case xg1=>k_is)
  (case xg2=>k_is)
  (case x1_BadShare=>kernel_rfl)
  (case x2_BadShare=>k_is)
  (case x3_BadShare=>k_is)
  (case x4_BadShare=>k_is)
  (case x5_BadShare=>k_is)
  (case x1_Unknown=>kernel_rfl)
  (case x2_Unknown=>k_is)
  (case x3_Unknown=>k_is)
  (case x4_Unknown=>k_is)
  (case x5_Unknown=>k_is)
  (case xf_e_BadShare_PlaceError=>kernel_rfl)
  (case xf_h_round_of=>kernel_rfl)
  (case xf_i_BadShare_BadBerths_BadRow=>kernel_rfl)
  (case xf_i_BadShare_BadShare=>kernel_rfl)
  (case xf_i_BadShare_ValueError=>kernel_rfl)
  (case n_BadShare_at=>k_is)
  (case n_Door_asks_waiting=>k_is)
  (case n_Door_next_slot=>k_is)
  (case n_Door_number_led=>k_is)
  (case n_Door_owner_round=>k_is)
  (case n_Unknown_name=>k_is)
  (case b_ValueError=>k_is)
  (case b_abs=>k_is)
  (case b_all=>k_is)
  (case b_any=>k_is)
  (case b_bool=>k_is)
  (case b_enumerate=>k_is)
  (case b_int=>k_is)
  (case b_isinstance=>k_is)
  (case b_len=>k_is)
  (case b_list=>k_is)
  (case b_max=>k_is)
  (case b_min=>k_is)
  (case b_range=>k_is)
  (case b_str=>k_is)
  (case b_sum=>k_is)
  (case b_tuple=>k_is)
  (case b_zip=>k_is)
  (case g_LONGEST_WORD=>k_is)
  (case g_MOST_GROUPS=>k_is)
  (case g_MOST_SHARE=>k_is)
  (case g_MOST_WAITING=>k_is)
