import PyProof.Rows.All
import Wide.All
import OpenK.AllK
import Wide.FinOn
import Lean
import PyProof.EqAt
import PyProof.EqKinds
import PyProof.TupleCall
import KE.KSortTup
import KE.KDictSum
import PyProof.Rows.Range3
import PyProof.Rows.SortRev
import PyProof.StrBlock2
import PyProof.ZipIter
import PyProof.Rows.ZipGen
import PyProof.NeKinds
import PyProof.DictCompW
import PyProof.DictWalks
import PyProof.AttrMissHeap
import PyProof.WalksS
import KE.KDictOf
import KE.KListMore
import KE.KEqDict
import PyProof.StationsW
import PyProof.InstStoreFacts
import PyProof.ExcBaseAll.ValueError
import PyProof.ExcClass2
import PyProof.RulesAs
import KE.KTryMore
import PyProof.ExcArgs
import KE.KIsAll
import OpenK.KOwn
import PyProof.P3In
import PyProof.DictUpdate
import PyProof.MeetsSeq2
import KE.KIntText
import KE.KRevSl
import PyProof.Rows.StrLawsPart
import PyProof.EnumMake
import PyProof.Draws
import PyProof.ListRange
import PyProof.TupleOfStr
import KE.KLam
import KE.KNestM
import KE.KMinKey
import PyProof.Rows.StrSplitMax
import PyProof.StrLawsOccR
import PyProof.Rows.SetFrom
import PySem.Challenge.RW_placedworks_k35_layings
set_option genSizeOf false
set_option genSizeOfSpec false
set_option bootstrap.genMatcherCode false
set_option Elab.async false
set_option linter.all false
set_option maxRecDepth 100000
abbrev FG:=PySem.W.Frag
abbrev PN:=List (PySem.Addr×PySem.Obj)
abbrev VP:=PySem.Value->PySem.Shared->Prop
abbrev ND(x:PySem.Str):Prop:=(x==("__debug__" : PySem.Str))=false
section
open PySem PySem.Spec PyProof.Rows
namespace L2
abbrev Key:=Sum Int Str
def o5:Key->Value->Bool
 | .inl k,v=>Value.isInt k v
 | .inr x,v=>Value.isStrOf x v
def aje(w:World):Key->Int
 | .inl k=>hashInt k
 | .inr x=>hashStr w x
theorem bE:∀ {k:Key} {v:Value},o5 k v=true->(∃ i t,k=Sum.inl i/\v=Value.int i t)\/(∃ x t,k=Sum.inr x/\v=Value.str x t)
 | .inl i,v,h=>by obtain⟨t,e⟩:=Value.isInt_shape (k:=i) (v:=v) h;exact .inl ⟨i,t,rfl,e⟩
 | .inr x,v,h=>by obtain⟨t,e⟩:=Value.isStrOf_shape (x:=x) (v:=v) h;exact .inr ⟨x,t,rfl,e⟩
theorem yn(i:Int)(t:Tok):o5 (.inl i) (.int i t)=true:=by simp[o5,Value.isInt]
theorem wM(x:Str)(t:Tok):o5 (.inr x) (.str x t)=true:=by simp[o5,Value.isStrOf]
theorem agL(a b:Int):decide ((Sum.inl a:Key)=Sum.inl b)=(a==b):=by
 by_cases e:a=b
 ·subst e;simp
 ·have h:¬ (Sum.inl a:Key)=Sum.inl b:=λ q=>e (Sum.inl.inj q);rw[decide_eq_false h];exact(beq_eq_false_iff_ne.mpr e).symm
theorem agc(a b:Str):decide ((Sum.inr a:Key)=Sum.inr b)=decide (a=b):=by
 by_cases e:a=b
 ·subst e;simp
 ·have h:¬ (Sum.inr a:Key)=Sum.inr b:=λ q=>e (Sum.inr.inj q);rw[decide_eq_false h,decide_eq_false e]
theorem agD(a:Int)(b:Str):decide ((Sum.inl a:Key)=Sum.inr b)=false:=decide_eq_false (λ q=>nomatch q)
theorem af4(a:Str)(b:Int):decide ((Sum.inr a:Key)=Sum.inl b)=false:=decide_eq_false (λ q=>nomatch q)
def aN(prog:Program)(w:World):PySem.KeyKind prog w Key where
 is:=o5
 hash:=aje w
 inj:=λ v a b ha hb=>by
  rcases bE ha with ⟨i,t,rfl,rfl⟩ | ⟨x,t,rfl,rfl⟩
  ·rcases bE hb with ⟨j,u,rfl,e⟩ | ⟨y,u,rfl,e⟩
   ·injection e with e1 _;rw[e1]
   ·exact nomatch e
  ·rcases bE hb with ⟨j,u,rfl,e⟩ | ⟨y,u,rfl,e⟩
   ·exact nomatch e
   ·injection e with e1 _;rw[e1]
 byValue:=λ k v h=>by
  rcases bE h with ⟨i,t,rfl,rfl⟩ | ⟨x,t,rfl,rfl⟩<;>rfl
 pyHash:=λ hv h=>by
  rcases bE hv with ⟨i,t,rfl,rfl⟩ | ⟨x,t,rfl,rfl⟩
  ·exact wpAny_pyHash_int h
  ·exact wpAny_pyHash_str h
 eqBool:=λ hu hv h=>by
  rcases bE hu with ⟨i,t,rfl,rfl⟩ | ⟨x,t,rfl,rfl⟩
  ·rcases bE hv with ⟨j,u,rfl,rfl⟩ | ⟨y,u,rfl,rfl⟩
   ·rw[agL] at h;exact wpAny_eqBool_int h
   ·rw[agD] at h;exact SeqAt.EqAt.int_str i t y u _ _ _ _ h
  ·rcases bE hv with ⟨j,u,rfl,rfl⟩ | ⟨y,u,rfl,rfl⟩
   ·rw[af4] at h;exact SeqAt.EqAt.str_int x t j u _ _ _ _ h
   ·rw[agc] at h;exact wpAny_eqBool_str h
 «strs»:=λ k x t v h=>by
  rcases bE h with ⟨i,u,rfl,e⟩ | ⟨y,u,rfl,e⟩
  ·exact nomatch e
  ·injection e with e1 _
   subst e1;cases v<;>rfl
theorem vp(prog:Program)(w:World)(k:Key)(v:Value):(aN prog w).is k v=o5 k v:=rfl
theorem qD(prog:Program)(w:World)(i:Int)(t:Tok):(aN prog w).is (.inl i) (.int i t)=true:=yn i t
theorem rl(prog:Program)(w:World)(x:Str)(t:Tok):(aN prog w).is (.inr x) (.str x t)=true:=wM x t
inductive V where
 | non | bl (b:Bool) | int (i:Int) | str (x:Str) | byt (b:Array UInt8) | flt (b:UInt64) | ref (a:Addr) | ty (n:String)
 deriving DecidableEq
def RelV:V->Value->Prop
 | .non,u=>u=Value.none
 | .bl b,u=>u=Value.bool b
 | .int i,u=>∃ t,u=Value.int i t
 | .str x,u=>∃ t,u=Value.str x t
 | .byt b,u=>∃ t,u=Value.bytes b t
 | .flt b,u=>∃ t,u=Value.float b t
 | .ref a,u=>u=Value.ref a
 | .ty n,u=>u=Value.type n
abbrev Vals:List V->List Value->Prop:=Paired RelV
theorem Vals.length{xs:List V}{us:List Value}(r:Vals xs us):xs.length=us.length:=Paired.length r
theorem Vals.get:∀ {xs:List V} {us:List Value} {i:Nat} {x:V},Vals xs us->xs[i]? =some x->∃ u,us[i]? =some u/\RelV x u
 | _,_,_,_,.nil,e=>by simp at e
 | _,_,0,_,.cons r _,e=>by simp at e;subst e;exact⟨_,rfl,r⟩
 | _,_,i+1,x,.cons _ t,e=>by obtain⟨u,h1,h2⟩:=Vals.get (i:=i) (x:=x) t (by simpa using e);exact⟨u,by simpa using h1,h2⟩
theorem Vals.set{x:V}{u:Value}(r:RelV x u):∀ {xs:List V} {us:List Value} (i:Nat),Vals xs us->Vals (xs.set i x) (us.set i u)
 | _,_,_,.nil=>.nil
 | _,_,0,.cons _ t=>.cons r t
 | _,_,i+1,.cons q t=>.cons q (Vals.set r i t)
theorem Vals.append:∀ {xs ys:List V} {us ws:List Value},Vals xs us->Vals ys ws->Vals (xs++ys) (us++ws)
 | _,_,_,_,.nil,s=>s
 | _,_,_,_,.cons r t,s=>.cons r (Vals.append t s)
theorem Vals.take:∀ {xs:List V} {us:List Value} (n:Nat),Vals xs us->Vals (xs.take n) (us.take n)
 | _,_,0,_=>.nil
 | _,_,_+1,.nil=>.nil
 | _,_,n+1,.cons r t=>.cons r (Vals.take n t)
theorem Vals.drop:∀ {xs:List V} {us:List Value} (n:Nat),Vals xs us->Vals (xs.drop n) (us.drop n)
 | _,_,0,r=>r
 | _,_,_+1,.nil=>.nil
 | _,_,n+1,.cons _ t=>Vals.drop n t
def vt:Option V->Option Value->Prop
 | some v,some u=>RelV v u
 | none,none=>True
 | _,_=>False
def KV{κ:Type}:List (κ×V)->List (κ×Value)->Prop:=Paired λ(p:κ×V) (q:κ×Value)=>p.1=q.1/\RelV p.2 q.2
def kV:Key->V
 | .inl i=>.int i
 | .inr x=>.str x
inductive HO where
 | lst (xs:List V)
 | tup (xs:List V)
 | dK (kvs:List (Key×V)) | dT (kvs:List (List Key×V))
 | set (S:Int->Bool) (n:Nat)
 | ins (C dx:Addr) (fs:List (Str×V))
 | own (x:Addr)
 | xd (fs:List (Str×V))
 | met (f x:Addr)
 | rng (lo hi:Int)
 | frz (o:Obj) (u:HO)
 | tbl (ps:Array Value)
 | ext (φ:Heap->Prop)
abbrev Hp:=Addr->Option HO
def upd(H:Hp)(a:Addr)(o:HO):Hp:=λ b=>if b=a then some o else H b
theorem aq{H:Hp}{a:Addr}{o:HO}:upd H a o a=some o:=by unfold upd;rw[if_pos rfl]
theorem aj{H:Hp}{a b:Addr}{o:HO}(h:b≠a):upd H a o b=H b:=by unfold upd;rw[if_neg h]
theorem ace{H:Hp}{a:Addr}{o u:HO}:upd (upd H a o) a u=upd H a u:=by
 funext b;unfold upd;split<;>rfl
theorem ur{H:Hp}{a b:Addr}{o u:HO}(h:H a=some o)(h':H b=some u)(d:o≠u):a≠b:=by intro e;subst e;rw[h] at h';exact d (Option.some.inj h')
theorem aF{H:Hp}{a b:Addr}{o:HO}(h:H a=some o)(h':H b=none):a≠b:=by intro e;subst e;rw[h] at h';cases h'
def abw(h:Heap)(a:Addr)(items:Array Value):Prop:=∃ o,h.get? a=some o/\o.cls=.type "tuple" /\ o.dict=none/\∃ n,o.data=.seq items n
theorem abw.tup{h:Heap}{a:Addr}{items:Array Value}(x:abw h a items):IsTup h a items:=let ⟨o,h1,h2,_,h3⟩:=x; ⟨o,h1,h2,h3⟩
theorem abw.new(h:Heap)(items:Array Value):abw (h.push {cls:=.type "tuple",data:=.seq items}) h.objs.size items:=⟨_,Heap.get?_push_size _ rfl,rfl,rfl,_,rfl⟩
section
variable (P:Program)(w:World)
def bY(H:Hp)(h:Heap)(a:Addr):HO->Prop
 | .lst xs=>xs.length<=sizeLine/\∃ (its:List Value) (n:Nat),Vals xs its/\h.get? a=some {cls:=.type "list",data:=.seq its.toArray n}
 | .tup xs=>xs.length<=sizeLine/\∃ its:List Value,Vals xs its/\abw h a its.toArray
 | .dK kvs=>kvs.length<=sizeLine/\(a==sysModules)=false/\∃ vs,KV kvs vs/\h.DictOf (aN P w) a vs
 | .dT kvs=>kvs.length<=sizeLine/\(a==sysModules)=false/\∃ xs:List (List Key×Addr×Value),
   Paired (λ(p:List Key×V) (q:List Key×Addr×Value)=>p.1=q.1/\H q.2.1=some (.tup (p.1.map kV))/\RelV p.2 q.2.2) kvs xs /\
   ∃ o es ep,h.get? a=some o/\o.ExactDict/\o.data=.dict es ep/\es.toList=xs.map (entryOfKey (tupleKind (aN P w)))/\(xs.map (·.1)).Nodup
 | .set S n=>h.SetOf (intKind P w) a S n
 | .ins C dx fs=>H dx=some (.own a)/\fs.length<=1000/\dx≠a/\h.get? a=some (W.instObj C dx) /\
   ∃ mA,h.Ns1 dx mA/\(∀ f,vt (fs.lookup f) (mA f))/\PySem.Within mA (fs.map (·.1))
 | .own _=>∃ o,h.get? a=some o
 | .xd fs=>∃ mA,h.Ns1 a mA/\∀ f,vt (fs.lookup f) (mA f)
 | .rng lo hi=>∃ t u v,h.get? a=some {cls:=.type "range",data:=.fields #[.int lo t,.int hi u,.int 1 v]}
 | .frz o u=>h.get? a=some o/\bY H h a u
 | .tbl ps=>h.get? a=some {cls:=.none,data:=.fields ps}
 | .met f x=>h.get? a=some (W.methodObj (.ref f) (.ref x))
 | .ext φ=>φ h/\(∃ o,h.get? a=some o)/\∀ h1 h2:Heap,φ h1->(∀ o,h1.get? a=some o->h2.get? a=some o)->φ h2
def HOk(H:Hp)(h:Heap):Prop:=∀ a o,H a=some o->bY P w H h a o
end
section
variable {P:Program}{w:World}{H H':Hp}{h h':Heap}{a:Addr}{o:HO}
theorem bY.lt(x:bY P w H h a o):a<h.objs.size:=by
 cases o with
 | lst xs=>obtain⟨_,_,_,_,e⟩:=x;exact Heap.lt_size e
 | tup xs=>obtain⟨_,_,_,p⟩:=x;exact p.tup.lt
 | dK kvs=>obtain⟨_,_,_,_,o,_,_,e,_⟩:=x;exact Heap.lt_size e
 | dT kvs=>obtain⟨_,_,_,_,o,_,_,e,_⟩:=x;exact Heap.lt_size e
 | set S n=>obtain⟨o,_,_,_,e,_⟩:=x;exact Heap.lt_size e
 | ins C dx fs=>obtain⟨_,_,_,e,_⟩:=x;exact Heap.lt_size e
 | own y=>obtain⟨_,e⟩:=x;exact Heap.lt_size e
 | xd fs=>obtain⟨_,⟨_,_,_,e,_⟩,_⟩:=x;exact Heap.lt_size e
 | rng lo hi=>obtain⟨_,_,_,e⟩:=x;exact Heap.lt_size e
 | frz ob u=>obtain⟨e,_⟩:=x;exact Heap.lt_size e
 | tbl ps=>exact Heap.lt_size (show h.get? a=some _ from x)
 | met f y=>exact Heap.lt_size (show h.get? a=some _ from x)
 | ext φ=>obtain⟨_,⟨_,e⟩,_⟩:=x;exact Heap.lt_size e
theorem Paired.iu{α β:Type}{F G:α->β->Prop}:∀ {l₁:List α} {l₂:List β},Paired F l₁ l₂->(∀ a b,F a b->G a b)->Paired G l₁ l₂
 | _,_,.nil,_=>.nil
 | _,_,.cons r t,f=>.cons (f _ _ r) (Paired.iu t f)
theorem bY.qh(x:bY P w H h a o)(k:∀ b u,(b=a\/H b=some (.own a))->h.get? b=some u->h'.get? b=some u)
  (ho:∀ b,H b=some (.own a)->H' b=some (.own a))(ht:∀ b xs,H b=some (.tup xs)->H' b=some (.tup xs)):bY P w H' h' a o:=by
 induction o with
 | lst xs=>obtain⟨z,its,n,r,e⟩:=x;exact⟨z,its,n,r,k _ _ (.inl rfl) e⟩
 | tup xs=>obtain⟨z,its,r,ob,e,c⟩:=x;exact⟨z,its,r,ob,k _ _ (.inl rfl) e,c⟩
 | dK kvs=>obtain⟨z,y,vs,r,ob,es,ep,e,c⟩:=x;exact⟨z,y,vs,r,ob,es,ep,k _ _ (.inl rfl) e,c⟩
 | dT kvs =>
  obtain⟨z,y,xs,r,ob,es,ep,e,c⟩:=x;exact⟨z,y,xs,Paired.iu r λ p q z=>⟨z.1,ht _ _ z.2.1,z.2.2⟩,ob,es,ep,k _ _ (.inl rfl) e,c⟩
 | set S n=>obtain⟨ob,es,ep,t,e,c⟩:=x;exact⟨ob,es,ep,t,k _ _ (.inl rfl) e,c⟩
 | ins C dx fs =>
  obtain⟨d,z,ne,e,mA,⟨od,es,ep,e2,c⟩,r⟩:=x;exact⟨ho _ d,z,ne,k _ _ (.inl rfl) e,mA,⟨od,es,ep,k _ _ (.inr d) e2,c⟩,r⟩
 | own y=>obtain⟨ob,e⟩:=x;exact⟨ob,k _ _ (.inl rfl) e⟩
 | xd fs=>obtain⟨mA,⟨od,es,ep,e,c⟩,r⟩:=x;exact⟨mA,⟨od,es,ep,k _ _ (.inl rfl) e,c⟩,r⟩
 | rng lo hi=>obtain⟨t,u,v,e⟩:=x;exact⟨t,u,v,k _ _ (.inl rfl) e⟩
 | frz ob u ih=>obtain⟨e,q⟩:=x;exact⟨k _ _ (.inl rfl) e,ih q⟩
 | tbl ps =>
  have e:h.get? a=some {cls:=.none,data:=.fields ps}:=x;show h'.get? a=some {cls:=.none,data:=.fields ps};exact k a _ (.inl rfl) e
 | met f y =>
  have e:h.get? a=some (W.methodObj (.ref f) (.ref y)):=x;show h'.get? a=some (W.methodObj (.ref f) (.ref y));exact k a _ (.inl rfl) e
 | ext φ=>obtain⟨p,⟨o,e⟩,st⟩:=x;exact⟨st _ _ p λ o q=>k _ _ (.inl rfl) q,⟨o,k _ _ (.inl rfl) e⟩,st⟩
theorem HOk.lt(x:HOk P w H h)(e:H a=some o):a<h.objs.size:=(x a o e).lt
theorem HOk.fresh(x:HOk P w H h)(e:h.objs.size<=a):H a=none:=by
 cases q:H a with
 | none=>rfl
 | some u=>exact absurd (Nat.lt_of_lt_of_le (x.lt q) e) (Nat.lt_irrefl _)
theorem HOk.kept(x:HOk P w H h)(k:∀ b u,h.get? b=some u->h'.get? b=some u):HOk P w H h':=λ a o e =>
 (x a o e).qh (λ b u _ q=>k b u q) (λ _ q=>q) λ _ _ q=>q
theorem HOk.laid(x:HOk P w H h)(k:∀ b u,h.get? b=some u->h'.get? b=some u)(hp:h.objs.size<=a)(new:bY P w (upd H a o) h' a o):HOk P w (upd H a o) h':=λ b u e=>by
 have hn:=x.fresh hp
 by_cases hb:b=a
 ·subst hb;rw[aq] at e;cases e;exact new
 ·rw[aj hb] at e;exact(x b u e).qh (λ c v _ q=>k c v q) (λ c q=>by rw[aj (aF q hn)];exact q) λ c xs q=>by rw[aj (aF q hn)];exact q
end
def Rd(H:Hp)(a:Addr)(u:HO):Prop:=H a=some u\/∃ o,H a=some (.frz o u)
theorem Rd.ok{P:Program}{w:World}{H:Hp}{h:Heap}{a:Addr}{u:HO}(r:Rd H a u)(x:HOk P w H h):bY P w H h a u:=by
 rcases r with r | ⟨o,r⟩
 ·exact x a u r
 ·obtain⟨_,q⟩:=x a _ r;exact q
def Mut:Option HO->Prop
 | some (.lst _)=>True
 | some (.dK _)=>True
 | some (.dT _)=>True
 | some (.set _ _)=>True
 | some (.ins _ _ _)=>True
 | some (.ext _)=>True
 | _=>False
section
variable {P:Program}{w:World}{H:Hp}{h h':Heap}{x e:Addr}{o':HO}
theorem HOk.write(ok:HOk P w H h)(mu:Mut (H x))(he:e=x\/H e=some (.own x))(k:∀ b u,b≠e->h.get? b=some u->h'.get? b=some u)(heo:∃ u,h'.get? e=some u)
  (new:bY P w (upd H x o') h' x o'):HOk P w (upd H x o') h':=λ b u q=>by
 have nown:∀ c y,H c=some (.own y)->c≠x:=λ c y r z=>by subst z;rw[r] at mu;exact mu
 have ntup:∀ c xs,H c=some (.tup xs)->c≠x:=λ c xs r z=>by subst z;rw[r] at mu;exact mu
 by_cases hb:b=x
 ·subst hb;rw[aq] at q;cases q;exact new
 ·rw[aj hb] at q
  by_cases hbe:b=e
  ·have q':H b=some (.own x):=by
    rcases he with z | z
    ·exact absurd (hbe.trans z) hb
    ·rw[hbe];exact z
   rw[q] at q';cases q';obtain⟨v,hv⟩:=heo;exact⟨v,by rw[hbe];exact hv⟩
  ·refine(ok b u q).qh (λ c v hc r=>k c v ?_ r) (λ c r=>by rw[aj (nown c b r)];exact r) λ c xs r=>by rw[aj (ntup c xs r)];exact r
   rcases hc with rfl | hc
   ·exact hbe
   ·rintro rfl;rcases he with z | z
    ·exact nown c b hc z
    ·rw[hc] at z;cases z;exact hb rfl
end
structure Un(fs ex:List Addr)(H H':Hp)(h h':Heap):Prop where
 keep:∀ b o,h.get? b=some o->H b=none->b ∉ fs->b ∉ ex->h'.get? b=some o
 slot:∀ b o,h.get? b=some o->H b=none->b∈fs->b ∉ ex->∃ sl,h'.get? b=some {o with slots:=sl}
 free:∀ b o,h.get? b=some o->H b=none->b ∉ ex->H' b=none
 there:∀ b o,h.get? b=some o->b ∉ ex->∃ o',h'.get? b=some o'
 lg:∀ b xs,H b=some (.tup xs)->H' b=some (.tup xs)
 frzs:∀ b o u,H b=some (.frz o u)->H' b=some (.frz o u)
 tbls:∀ b ps,H b=some (.tbl ps)->∃ more,H' b=some (.tbl (ps++more))
section
variable {fs fs' ex ex':List Addr}{H H1 H2:Hp}{h h1 h2 h':Heap}{a x e:Addr}{o:HO}
theorem Un.any(u:Un fs ex H H1 h h1){b:Addr}{ob:Obj}(q:h.get? b=some ob)(n:H b=none)(hx:b ∉ ex):∃ sl,h1.get? b=some {ob with slots:=sl}:=by
 by_cases hb:b∈fs
 ·exact u.slot b ob q n hb hx
 ·exact⟨ob.slots,u.keep b ob q n hb hx⟩
theorem Un.kept(k:∀ b u,h.get? b=some u->h'.get? b=some u):Un fs ex H H h h':=
 ⟨λ b ob q _ _ _=>k b ob q,λ b ob q _ _ _=>⟨ob.slots,k b ob q⟩,λ _ _ _ n _=>n,λ b ob q _=>⟨ob,k b ob q⟩,λ _ _ q=>q,λ _ _ _ q=>q,λ _ ps q=>⟨#[],by rw[q];simp⟩⟩
theorem Un.refl:Un fs ex H H h h:=Un.kept λ _ _ q=>q
theorem Un.laid(k:∀ b u,h.get? b=some u->h'.get? b=some u)(hp:h.objs.size<=a)(hn:H a=none):Un fs ex H (upd H a o) h h' where
 keep:=λ b u q _ _ _=>k b u q
 slot:=λ b u q _ _ _=>⟨u.slots,k b u q⟩
 free:=λ b u q n _=>by rw[aj (Nat.ne_of_lt (Nat.lt_of_lt_of_le (Heap.lt_size q) hp))];exact n
 there:=λ b u q _=>⟨u,k b u q⟩
 lg:=λ b xs q=>by rw[aj (aF q hn)];exact q
 frzs:=λ b u xs q=>by rw[aj (aF q hn)];exact q
 tbls:=λ b ps q=>⟨#[],by rw[aj (aF q hn),q];simp⟩
theorem Un.write(mu:Mut (H x))(he:e=x\/H e=some (.own x))(k:∀ b u,b≠e->h.get? b=some u->h'.get? b=some u)(heo:∃ u,h'.get? e=some u):Un fs ex H (upd H x o) h h':=by
 have hx:∀ b,H b=none->b≠x:=λ b n z=>by subst z;rw[n] at mu;exact mu
 have hb:∀ b,H b=none->b≠e:=λ b n z=>by
  subst z;rcases he with r | r
  ·exact hx b n r
  ·rw[n] at r;cases r
 have hm:∀ b u,H b=some u->¬ Mut (some u)->b≠x:=λ b u q nm z=>by subst z;rw[q] at mu;exact nm mu
 refine⟨λ b u q n _ _=>k b u (hb b n) q,λ b u q n _ _=>⟨u.slots,k b u (hb b n) q⟩,λ b u q n _=>by rw[aj (hx b n)];exact n,λ b u q _=>?_,
  λ b xs q=>by rw[aj (hm b _ q λ z=>z)];exact q,λ b u xs q=>by rw[aj (hm b _ q λ z=>z)];exact q,λ b ps q=>⟨#[],by rw[aj (hm b _ q λ z=>z),q];simp⟩⟩
 by_cases hbe:b=e
 ·subst hbe;exact heo
 ·exact⟨u,k b u hbe q⟩
end
def trk(h:Heap)(H:Hp):List Addr:=(List.range h.objs.size).filter λ a=>(H a).isSome
def zK(h:Heap)(H:Hp):Heap:=W.hideAll h (trk h H)
theorem ya(h:Heap)(H:Hp):(zK h H).objs.size=h.objs.size:=W.hideAll_size _ _
theorem aaE{h:Heap}{H:Hp}{b:Addr}{o:Obj}(e:h.get? b=some o)(n:H b=none):(zK h H).get? b=some o:=
 W.hideAll_get _ e λ hm=>by have q:(H b).isSome=true:=(List.mem_filter.mp hm).2;rw[n] at q;simp at q
theorem adt{h:Heap}{H:Hp}{b:Addr}{o:Obj}(e:(zK h H).get? b=some o):h.get? b=some o/\H b=none:=by
 have e':h.get? b=some o:=W.of_hideAll (trk h H) e;refine⟨e',?_⟩;cases q:H b with
 | none=>rfl
 | some x =>
  have hm:b∈trk h H:=List.mem_filter.mpr ⟨List.mem_range.mpr (Heap.lt_size e'),by simp[q]⟩;have z:(zK h H).get? b=none:=W.hideAll_none (trk h H) hm;rw[z] at e;cases e
def BM(mg:Str->Option Value)(h:Heap):Prop:=(∃ bm o,mg "__builtins__" = some (.ref bm)/\bm≠builtinsNs/\h.get? bm=some o/\o.cls=.type "module" /\ o.dict=some builtinsNs/\o.data=.plain)/\∃ mm,h.Ns sysModules mm
structure Mod(K:FG)(mg:Str->Option Value)(base:Heap):Prop where
 kin:K.In base
 glob:base.Ns mainGlobals mg
 blt:∃ mb,base.Ns builtinsNs mb/\∀ x:Str,x ≠ "__name__" -> mb x=bootBuiltins x
 nolimit:base.NoLimit
 bm:BM mg base
structure Cx where
 prog:Program
 w:World
 K:FG
 mg:Str->Option Value
 base:Heap
 A:Around
 N:List Str
 s₀:Shared
 H₀:Hp
 env:Env
 outer:List Env
 stack:List Env
 ex:List Addr
 fn:Str->Bool
 calm:Bool
 pn:PN
 xe:VP
def frs(l:List Env):List Addr:=l.filterMap (·.frame)
abbrev Cx.fs(X:Cx):List Addr:=frs X.outer
def Vis(sc:Scope)(x:Str):Prop:=sc.names.lookup x=some .local\/sc.names.lookup x=some .cell\/sc.names.lookup x=some .free
def Loc(sc:Scope)(x:Str):Prop:=sc.names.lookup x=some .local\/sc.names.lookup x=some .cell
def Look(env:Env)(h:Heap)(m:Str->Option Value)(x:Str)(u:Value):Prop:=
 (env.kindOf x=some .local/\m x=some u)\/((env.kindOf x=some .cell\/env.kindOf x=some .free)/\∃ c,env.cells.lookup x=some c/\h.IsCell c (some u))
structure Cx.Ok(X:Cx):Prop where
 mod:Mod X.K X.mg X.base
 kind:X.env.scope.kind=.function
 glob:X.env.globals=mainGlobals
 blt:X.env.builtins=builtinsNs
 above:X.s₀.heap.objs.size<=X.env.locals
 inj:∀ x y c,X.env.cells.lookup x=some c->X.env.cells.lookup y=some c->x=y
 has:∀ x,(X.env.kindOf x=some .cell\/X.env.kindOf x=some .free)->∃ c,X.env.cells.lookup x=some c
 cab:∀ x c,X.fn x=true->X.env.cells.lookup x=some c->X.s₀.heap.objs.size<=c
 hd:X.calm=true->X.A.handled=none
 frames:X.A.frames=some X.stack
 stk:X.stack=X.outer\/(X.stack=X.env::X.outer/\X.env.frame=some X.env.locals)
 exf:∀ b∈X.ex,b≠X.env.locals/\∀ x c,X.env.cells.lookup x=some c->c≠b
 bs:∀ b o,X.base.get? b=some o->X.s₀.heap.get? b=some o/\X.H₀ b=none
 bsz:X.base.objs.size<=X.s₀.heap.objs.size
 noex:∀ b o,X.base.get? b=some o->b ∉ X.ex
 exfs:∀ b∈X.ex,b ∉ X.fs
 nI:X.s₀.heap.FunFrames X.base X.outer
 frf:∀ b∈X.fs,X.H₀ b=none
structure Inv(X:Cx)(pins:PN)(σ:List (Option V))(H:Hp)(s:Shared):Prop where
 ok:X.Ok
 os:s.os=X.s₀.os
 bare:AllBare s.gens
 base:Un X.fs X.ex X.H₀ H X.s₀.heap s.heap
 loc:∃ m,s.heap.Ns X.env.locals m/\∀ (i:Nat) (x:Str) (v:V),X.N[i]? =some x->σ[i]? =some (some v)->Vis X.env.scope x->∃ u,RelV v u/\Look X.env s.heap m x u
 cell:∀ x c,X.env.cells.lookup x=some c->∃ v,s.heap.IsCell c v
 free:H X.env.locals=none
 freeC:∀ x c,X.env.cells.lookup x=some c->H c=none
 pin:∀ p∈X.pn++pins,s.heap.get? p.1=some p.2/\H p.1=none/\p.1≠X.env.locals/\p.1 ∉ X.fs/\∀ v,p.2.data ≠ .cell v
 hok:HOk X.prog X.w H s.heap
 len:σ.length=X.N.length
section
variable {X:Cx}{pins:PN}{σ:List (Option V)}{H H':Hp}{s:Shared}{h':Heap}
theorem Cx.Ok.ajp(ok:X.Ok){b:Addr}{o:Obj}(e:X.base.get? b=some o):b ∉ X.fs:=λ hb=>by have:=(ok.nI.mem hb).1;rw[e] at this;cases this
theorem Inv.bs(I:Inv X pins σ H s):∀ b o,X.base.get? b=some o->s.heap.get? b=some o/\H b=none:=λ b o e =>
 ⟨I.base.keep b o (I.ok.bs b o e).1 (I.ok.bs b o e).2 (I.ok.ajp e) (I.ok.noex b o e),I.base.free b o (I.ok.bs b o e).1 (I.ok.bs b o e).2 (I.ok.noex b o e)⟩
theorem Inv.bk(I:Inv X pins σ H s):∀ b o,X.base.get? b=some o->s.heap.get? b=some o:=λ b o e=>(I.bs b o e).1
theorem Inv.mod(I:Inv X pins σ H s):Mod X.K X.mg X.base:=I.ok.mod
theorem Inv.kIn(I:Inv X pins σ H s):X.K.In s.heap:=I.ok.mod.kin.keeps I.bk
theorem Inv.nolimit(I:Inv X pins σ H s):s.heap.NoLimit:=I.ok.mod.nolimit.keeps I.bk
theorem Inv.fr(I:Inv X pins σ H s):∃ m,Fr X.base X.env.locals s.heap m:=
 let ⟨m,hn,_⟩:=I.loc
 ⟨m,hn,I.bk,Nat.le_trans I.ok.bsz I.ok.above⟩
theorem Inv.lt(I:Inv X pins σ H s):X.env.locals<s.heap.objs.size:=let ⟨_,hn,_⟩:=I.loc;hn.lt
theorem Inv.sz(I:Inv X pins σ H s):X.s₀.heap.objs.size<=s.heap.objs.size:=Nat.le_trans I.ok.above (Nat.le_of_lt I.lt)
theorem Inv.aiO(I:Inv X pins σ H s){a:Addr}(h:s.heap.objs.size<=a):a ∉ X.fs:=λ hb=>by obtain⟨_,o,ho,_⟩:=I.ok.nI.mem hb;exact absurd (Nat.lt_of_lt_of_le (Heap.lt_size ho) (Nat.le_trans I.sz h)) (Nat.lt_irrefl _)
theorem Inv.cne(I:Inv X pins σ H s):∀ x c,X.env.cells.lookup x=some c->c≠X.env.locals:=λ x c e z=>by obtain⟨v,o,ho,hd⟩:=I.cell x c e;obtain⟨m,⟨o',es,ep,ho',hd',_⟩,_⟩:=I.loc;rw[z,ho'] at ho;cases ho;rw[hd'] at hd;cases hd
theorem Inv.nI(I:Inv X pins σ H s):s.heap.FunFrames X.base X.outer:=by
 have all:∀ (l:List Env),(∀ b∈frs l,b∈X.fs)->X.s₀.heap.FunFrames X.base l->s.heap.FunFrames X.base l:=by
  intro l
  induction l with
  | nil=>intro _ _;trivial
  | cons env r ih =>
   intro hs hl;obtain⟨hk,⟨L,o,hf,hn,ho,hd⟩,hr⟩:=hl;have hL:L∈X.fs:=hs L (by unfold frs;rw[List.filterMap_cons,hf];exact List.mem_cons_self);obtain⟨sl,e⟩:=I.base.slot L o ho (I.ok.frf L hL) hL λ z=>I.ok.exfs L z hL;exact⟨hk,⟨L,_,hf,hn,e,hd⟩,ih (λ b hb=>hs b (by unfold frs;rw[List.filterMap_cons,hf];exact List.mem_cons_of_mem _ hb)) hr⟩
 exact all X.outer (λ _ hb=>hb) I.ok.nI
theorem Inv.stack(I:Inv X pins σ H s):s.heap.FunFrames X.base X.stack:=by
 rcases I.ok.stk with e | ⟨e,hf⟩
 ·rw[e];exact I.nI
 ·rw[e];obtain⟨m,hn,_⟩:=I.loc;refine .cons (by rw[I.ok.kind];decide) hf hn ?_ I.nI;exact Heap.get?_none_of_le (Nat.le_trans I.ok.bsz I.ok.above)
theorem Inv.iW(I:Inv X pins σ H s):∀ b∈frs X.stack,b∈X.env.locals::X.fs:=λ b hb=>by
 rcases I.ok.stk with e | ⟨e,hf⟩
 ·rw[e] at hb;exact List.mem_cons_of_mem _ hb
 ·rw[e] at hb;unfold frs at hb;rw[List.filterMap_cons,hf] at hb;exact hb
theorem Inv.mw(I:Inv X pins σ H s):∀ b∈frs X.stack,H b=none:=λ b hb=>by
 rcases List.mem_cons.mp (I.iW b hb) with e | hb
 ·rw[e];exact I.free
 ·obtain⟨_,o,ho,_⟩:=I.ok.nI.mem hb;exact I.base.free b o ho (I.ok.frf b hb) λ z=>I.ok.exfs b z hb
theorem Inv.step{g':Array GenState}{t':Nat}{d':Drawn}{ch:List Addr}(I:Inv X pins σ H s)
  (hch:∀ b∈ch,(b∈X.ex\/X.s₀.heap.objs.size<=b)/\b≠X.env.locals/\(∀ x c,X.env.cells.lookup x=some c->c≠b)/\∀ p∈X.pn++pins,p.1≠b)
  (keep:∀ b o,b≠X.env.locals->b ∉ X.fs->b ∉ ch->s.heap.get? b=some o->H b=none->h'.get? b=some o)
  (slot:∀ b o,b≠X.env.locals->b∈X.fs->b ∉ ch->s.heap.get? b=some o->H b=none->∃ sl,h'.get? b=some {o with slots:=sl})(free:∀ b o,b ∉ ch->s.heap.get? b=some o->H b=none->H' b=none)
  (there:∀ b o,b ∉ ch->s.heap.get? b=some o->∃ o',h'.get? b=some o')
  (lg:∀ b xs,H b=some (.tup xs)->H' b=some (.tup xs))(frzs:∀ b o u,H b=some (.frz o u)->H' b=some (.frz o u))(tbls:∀ b ps,H b=some (.tbl ps)->∃ more,H' b=some (.tbl (ps++more)))
  (ns:∀ m,s.heap.Ns X.env.locals m->h'.Ns X.env.locals m)(hok:HOk X.prog X.w H' h')(hg:AllBare g') :
  Inv X pins σ H' {s with heap:=h',gens:=g',drawn:=d',toks:=t'}:=by
 have neL:∀ b o,X.s₀.heap.get? b=some o->b≠X.env.locals:=λ b o e=>Nat.ne_of_lt (Nat.lt_of_lt_of_le (Heap.lt_size e) I.ok.above);have neC:∀ b o,X.s₀.heap.get? b=some o->b ∉ X.ex->b ∉ ch:=λ b o e hx hb=>by
  rcases(hch b hb).1 with z | z
  ·exact hx z
  ·exact absurd (Nat.lt_of_lt_of_le (Heap.lt_size e) z) (Nat.lt_irrefl _)
 have cellK:∀ x c,X.env.cells.lookup x=some c->∀ v,s.heap.IsCell c v->h'.IsCell c v:=λ x c e v hq0=>by
  obtain⟨o,ho,hd⟩:=hq0;have nch:c ∉ ch:=λ z=>(hch c z).2.2.1 x c e rfl
  by_cases hc:c∈X.fs
  ·obtain⟨sl,q⟩:=slot c o (I.cne x c e) hc nch ho (I.freeC x c e);exact⟨_,q,hd⟩
  ·exact⟨o,keep c o (I.cne x c e) hc nch ho (I.freeC x c e),hd⟩
 refine⟨I.ok,I.os,hg,⟨λ b o e n hb hx=>?_,λ b o e n hb hx=>?_,λ b o e n hx=>?_,λ b o e hx=>?_,λ b xs e=>lg b xs (I.base.lg b xs e),λ b o xs e=>frzs b o xs (I.base.frzs b o xs e),λ b ps e=>?_⟩,?_,λ x c e=>?_,?_,λ x c e=>?_,λ p hp=>?_,hok,I.len⟩
 ·exact keep b o (neL b o e) hb (neC b o e hx) (I.base.keep b o e n hb hx) (I.base.free b o e n hx)
 ·obtain⟨sl,e1⟩:=I.base.slot b o e n hb hx;obtain⟨sl',e2⟩:=slot b _ (neL b o e) hb (neC b o e hx) e1 (I.base.free b o e n hx);exact⟨sl',e2⟩
 ·obtain⟨o',e1⟩:=I.base.there b o e hx;exact free b o' (neC b o e hx) e1 (I.base.free b o e n hx)
 ·obtain⟨o',e1⟩:=I.base.there b o e hx;exact there b o' (neC b o e hx) e1
 ·obtain⟨m1,e1⟩:=I.base.tbls b ps e;obtain⟨m2,e2⟩:=tbls b _ e1;exact⟨m1++m2,by rw[e2,Array.append_assoc]⟩
 ·obtain⟨m,hn,hl⟩:=I.loc;refine⟨m,ns m hn,λ i x v e1 e2 e3=>?_⟩;obtain⟨u,r,l⟩:=hl i x v e1 e2 e3;refine⟨u,r,?_⟩;rcases l with l | ⟨k,c,e,z⟩
  ·exact .inl l
  ·exact .inr ⟨k,c,e,cellK x c e _ z⟩
 ·obtain⟨v,z⟩:=I.cell x c e;exact⟨v,cellK x c e v z⟩
 ·obtain⟨m,⟨o,_,_,ho,_⟩,_⟩:=I.loc;exact free _ o (λ z=>(hch _ z).2.1 rfl) ho I.free
 ·obtain⟨v,o,ho,hd⟩:=I.cell x c e;exact free c o (λ z=>(hch c z).2.2.1 x c e rfl) ho (I.freeC x c e)
 ·obtain⟨e,n,ne,nf,d⟩:=I.pin p hp;have nch:p.1 ∉ ch:=λ z=>(hch p.1 z).2.2.2 p hp rfl;exact⟨keep p.1 p.2 ne nf nch e n,free p.1 p.2 nch e n,ne,nf,d⟩
theorem Inv.un{t':Nat}(I:Inv X pins σ H s)(u:Un X.fs [] H H' s.heap h')(hok:HOk X.prog X.w H' h'):Inv X pins σ H' {s with heap:=h',toks:=t'}:=by
 obtain⟨m,⟨o,es,ep,ho,r⟩,_⟩:=id I.loc;obtain⟨sl,hL⟩:=u.any ho I.free (by simp);exact I.step (g':=s.gens) (d':=s.drawn) (ch:=[]) (λ _ z=>nomatch z) (λ b o _ hb _ e n=>u.keep b o e n hb (by simp)) (λ b o _ hb _ e n=>u.slot b o e n hb (by simp)) (λ b o _ e n=>u.free b o e n (by simp)) (λ b o _ e=>u.there b o e (by simp)) u.lg u.frzs u.tbls (λ m' hm=>by obtain⟨o',es',ep',ho',r'⟩:=hm;rw[ho] at ho';cases ho';exact⟨_,es',ep',hL,r'⟩) hok I.bare
theorem Inv.call{g':Array GenState}{t':Nat}{d':Drawn}{ch:List Addr}(I:Inv X pins σ H s)(u:Un (frs X.stack) ch H H' s.heap h')(hok:HOk X.prog X.w H' h')(hg:AllBare g')
  (hch:∀ b∈ch,(b∈X.ex\/X.s₀.heap.objs.size<=b)/\b≠X.env.locals/\(∀ x c,X.env.cells.lookup x=some c->c≠b)/\∀ p∈X.pn++pins,p.1≠b) :
  Inv X pins σ H' {s with heap:=h',gens:=g',drawn:=d',toks:=t'}:=by
 obtain⟨m,⟨o,es,ep,ho,r⟩,_⟩:=id I.loc;obtain⟨sl,hL⟩:=u.any ho I.free λ z=>(hch _ z).2.1 rfl;exact I.step (ch:=ch) hch (λ b o hL hb hc e n=>u.keep b o e n (λ z=>(List.mem_cons.mp (I.iW b z)).elim hL hb) hc) (λ b o _ _ hc e n=>u.any e n hc) (λ b o hc e n=>u.free b o e n hc) (λ b o hc e=>u.there b o e hc) u.lg u.frzs u.tbls (λ m' hm=>by obtain⟨o',es',ep',ho',r'⟩:=hm;rw[ho] at ho';cases ho';exact⟨_,es',ep',hL,r'⟩) hok hg
theorem Inv.turned{t':Nat}{it:Addr}(I:Inv X pins σ H s)(k:∀ b o,b≠it->s.heap.get? b=some o->h'.get? b=some o)(hn:H it=none)(hL:it≠X.env.locals)
  (h1:it∈X.ex\/X.s₀.heap.objs.size<=it)(h2:∀ x c,X.env.cells.lookup x=some c->c≠it)(h3:∀ p∈X.pn++pins,p.1≠it):Inv X pins σ H {s with heap:=h',toks:=t'}:=by
 have nit:∀ b u,H b=some u->b≠it:=λ b u e z=>by rw[z,hn] at e;cases e
 refine I.step (g':=s.gens) (d':=s.drawn) (ch:=[it]) (λ b hb=>?_) (λ b o _ _ hc e _=>k b o (λ z=>hc (by simp[z])) e) (λ b o _ _ hc e _=>⟨o.slots,k b o (λ z=>hc (by simp[z])) e⟩) (λ _ _ _ _ n=>n)
  (λ b o hc e=>⟨o,k b o (λ z=>hc (by simp[z])) e⟩) (λ _ _ e=>e) (λ _ _ _ e=>e) (λ b ps e=>⟨#[],by rw[e];simp⟩) (λ m hm=>?_) (λ b u e=>?_) I.bare
 ·have e:b=it:=by simpa using hb
  subst e;exact⟨h1,hL,h2,h3⟩
 ·obtain⟨o,es,ep,ho,r⟩:=hm;exact⟨o,es,ep,k _ o (Ne.symm hL) ho,r⟩
 ·refine(I.hok b u e).qh (λ c v hc q=>k c v ?_ q) (λ _ q=>q) λ _ _ q=>q;rcases hc with z | z
  ·rw[z];exact nit b u e
  ·exact nit c _ z
theorem Inv.tok(I:Inv X pins σ H s)(t:Nat):Inv X pins σ H {s with toks:=t}:=I.un (h':=s.heap) (t':=t) Un.refl I.hok
theorem Inv.kept{t':Nat}(I:Inv X pins σ H s)(k:∀ b u,s.heap.get? b=some u->h'.get? b=some u):Inv X pins σ H {s with heap:=h',toks:=t'}:=I.un (Un.kept k) (I.hok.kept k)
theorem Inv.laid{a:Addr}{o:HO}{t':Nat}(I:Inv X pins σ H s)(k:∀ b u,s.heap.get? b=some u->h'.get? b=some u)(hp:s.heap.objs.size<=a)(new:bY X.prog X.w (upd H a o) h' a o) :
  Inv X pins σ (upd H a o) {s with heap:=h',toks:=t'}:=I.un (Un.laid k hp (I.hok.fresh hp)) (I.hok.laid k hp new)
theorem Inv.write{x e:Addr}{o:HO}{t':Nat}(I:Inv X pins σ H s)(mu:Mut (H x))(he:e=x\/H e=some (.own x))(k:∀ b u,b≠e->s.heap.get? b=some u->h'.get? b=some u)(heo:∃ u,h'.get? e=some u)
  (new:bY X.prog X.w (upd H x o) h' x o):Inv X pins σ (upd H x o) {s with heap:=h',toks:=t'}:=I.un (Un.write mu he k heo) (I.hok.write mu he k heo new)
theorem Inv.dN{pins':PN}(I:Inv X pins σ H s)(h:∀ p∈pins',s.heap.get? p.1=some p.2/\H p.1=none/\p.1≠X.env.locals/\p.1 ∉ X.fs/\∀ v,p.2.data ≠ .cell v):Inv X pins' σ H s:=
 ⟨I.ok,I.os,I.bare,I.base,I.loc,I.cell,I.free,I.freeC,λ p hp=>(List.mem_append.mp hp).elim (λ z=>I.pin p (List.mem_append_left _ z)) (h p),I.hok,I.len⟩
theorem tZ{N:List Str}(hN:N.Nodup){i j:Nat}{x:Str}(a:N[i]? =some x)(b:N[j]? =some x):i=j:=by obtain⟨h1,e1⟩:=List.getElem?_eq_some_iff.mp a;obtain⟨h2,e2⟩:=List.getElem?_eq_some_iff.mp b;exact(List.getElem_inj hN).mp (e1.trans e2.symm)
theorem wI{M:Model}{A:Around}{E:VP}{i:Nat}{x:Str}{v:V}{u:Value}{Q:Unit->Shared->Prop}(I:Inv X pins σ H s)(hN:X.N.Nodup)(hi:X.N[i]? =some x)(hx:Loc X.env.scope x)(r:RelV v u)
  (h:∀ s',Inv X pins (σ.set i (some v)) H s'->(∃ a,Heap.SameBut a s.heap s'.heap/\(a=X.env.locals\/X.env.cells.lookup x=some a))->Q () s')(hf:X.fn x=true\/X.env.scope.names.lookup x=some .local:=by first | exact .inl rfl | exact .inr rfl | assumption):wpAny M A (storeName X.env x u) Q E s:=by
 obtain⟨m,hn,hl⟩:=id I.loc;have hcls:(X.env.scope.kind==.class || (X.env.scope.kind==.module&&X.env.locals != X.env.globals))=false:=by rw[I.ok.kind];rfl
 have hiσ:i<σ.length:=by rw[I.len];exact(List.getElem?_eq_some_iff.mp hi).1
 have cne:=I.cne;have tracked:∀ {a:Addr} {h':Heap},(∃ o,s.heap.get? a=some o/\H a=none)->Heap.SameBut a s.heap h'->HOk X.prog X.w H h':=λ {a h'} ha hs b ob e=>by
  obtain⟨_,_,hfree⟩:=ha;refine(I.hok b ob e).qh (λ c w' hc q=>(hs.2 c ?_).trans q) (λ _ q=>q) λ _ _ q=>q;rintro rfl;rcases hc with rfl | hc
  ·rw[hfree] at e;cases e
  ·rw[hfree] at hc;cases hc
 rcases hx with hk | hk
 ·refine wpAny_storeName_local hk hn (λ h' hn' hs=>?_) hcls;obtain⟨oL,_,_,hoL,_⟩:=id hn;refine h _ ⟨I.ok,I.os,I.bare,⟨λ b o e n hb hx=>?_,λ b o e n hb hx=>?_,I.base.free,λ b o e hx=>?_,I.base.lg,I.base.frzs,I.base.tbls⟩,⟨_,hn',λ j y v' e1 e2 e3=>?_⟩,λ y c e=>?_,I.free,I.freeC,λ p hp=>?_,tracked ⟨oL,hoL,I.free⟩ hs,by simpa using I.len⟩ ⟨_,hs,.inl rfl⟩
  ·exact(hs.2 b (Nat.ne_of_lt (Nat.lt_of_lt_of_le (Heap.lt_size e) I.ok.above))).trans (I.base.keep b o e n hb hx)
  ·obtain⟨sl,e1⟩:=I.base.slot b o e n hb hx;exact⟨sl,(hs.2 b (Nat.ne_of_lt (Nat.lt_of_lt_of_le (Heap.lt_size e) I.ok.above))).trans e1⟩
  ·obtain⟨o',e1⟩:=I.base.there b o e hx;exact⟨o',(hs.2 b (Nat.ne_of_lt (Nat.lt_of_lt_of_le (Heap.lt_size e) I.ok.above))).trans e1⟩
  ·by_cases hj:j=i
   ·subst hj;rw[hi] at e1;cases e1;rw[List.getElem?_set_self hiσ] at e2;cases e2;exact⟨u,r,.inl ⟨hk,by simp⟩⟩
   ·rw[List.getElem?_set_ne (Ne.symm hj)] at e2;obtain⟨u',r',q⟩:=hl j y v' e1 e2 e3;refine⟨u',r',?_⟩;rcases q with ⟨k,e⟩ | ⟨k,c,e,z⟩
    ·refine .inl ⟨k,?_⟩;have:y≠x:=λ e=>hj (tZ hN e1 (e ▸ hi));simp[this,e]
    ·exact .inr ⟨k,c,e,z.sameBut hs (cne y c e)⟩
  ·obtain⟨w',z⟩:=I.cell y c e;exact⟨w',z.sameBut hs (cne y c e)⟩
  ·obtain⟨e,n,ne,nf,d⟩:=I.pin p hp;exact⟨(hs.2 p.1 ne).trans e,n,ne,nf,d⟩
 ·have hfn:X.fn x=true:=by
   rcases hf with z | z
   ·exact z
   ·rw[z] at hk;cases hk
  obtain⟨c,hc⟩:=I.ok.has x (.inl hk);obtain⟨w',z⟩:=I.cell x c hc;refine wpAny_storeName_cell I.ok.kind hk hc z (λ h' hc' hs=>?_);obtain⟨oc,hoc,hocd⟩:=id z;refine h {s with heap:=h'} ⟨I.ok,I.os,I.bare,⟨λ b o e n hb hx=>?_,λ b o e n hb hx=>?_,I.base.free,λ b o e hx=>?_,I.base.lg,I.base.frzs,I.base.tbls⟩,⟨m,hn.sameBut hs (Ne.symm (cne x c hc)),λ j y v' e1 e2 e3=>?_⟩,λ y c' e=>?_,I.free,I.freeC,λ p hp=>?_,tracked ⟨oc,hoc,I.freeC x c hc⟩ hs,by simpa using I.len⟩ ⟨c,hs,.inr hc⟩
  ·exact(hs.2 b (Nat.ne_of_lt (Nat.lt_of_lt_of_le (Heap.lt_size e) (I.ok.cab x c hfn hc)))).trans (I.base.keep b o e n hb hx)
  ·obtain⟨sl,e1⟩:=I.base.slot b o e n hb hx;exact⟨sl,(hs.2 b (Nat.ne_of_lt (Nat.lt_of_lt_of_le (Heap.lt_size e) (I.ok.cab x c hfn hc)))).trans e1⟩
  ·obtain⟨o',e1⟩:=I.base.there b o e hx;exact⟨o',(hs.2 b (Nat.ne_of_lt (Nat.lt_of_lt_of_le (Heap.lt_size e) (I.ok.cab x c hfn hc)))).trans e1⟩
  ·by_cases hj:j=i
   ·subst hj;rw[hi] at e1;cases e1;rw[List.getElem?_set_self hiσ] at e2;cases e2;exact⟨u,r,.inr ⟨.inl hk,c,hc,hc'⟩⟩
   ·rw[List.getElem?_set_ne (Ne.symm hj)] at e2;obtain⟨u',r',q⟩:=hl j y v' e1 e2 e3;refine⟨u',r',?_⟩;rcases q with q | ⟨k,c',e,z'⟩
    ·exact .inl q
    ·refine .inr ⟨k,c',e,z'.sameBut hs ?_⟩;rintro rfl;exact hj (tZ hN e1 (I.ok.inj _ _ _ e hc ▸ hi))
  ·by_cases hcc:c'=c
   ·subst hcc;exact⟨_,hc'⟩
   ·obtain⟨w2,z2⟩:=I.cell y c' e;exact⟨w2,z2.sameBut hs hcc⟩
  ·obtain⟨e,n,ne,nf,d⟩:=I.pin p hp;refine⟨(hs.2 p.1 ?_).trans e,n,ne,nf,d⟩;intro q;rw[q,hoc] at e;have q':oc=p.2:=Option.some.inj e;exact d w' (by rw[<- q'];exact hocd)
theorem fV{M:Model}{A:Around}{E:VP}{i:Nat}{x:Str}{v:V}{u:Value}{Q:Unit->Shared->Prop}(I:Inv X pins σ H s)(hN:X.N.Nodup)(hi:X.N[i]? =some x)(hx:Loc X.env.scope x)(r:RelV v u)
  (h:∀ s',Inv X pins (σ.set i (some v)) H s'->Q () s')(hf:X.fn x=true\/X.env.scope.names.lookup x=some .local:=by first | exact .inl rfl | exact .inr rfl | assumption):wpAny M A (storeName X.env x u) Q E s:=
 wI I hN hi hx r (λ s' I' _=>h s' I') hf
theorem Inv.adq{s':Shared}{ch:List Addr}(I:Inv X pins σ H s)(ho:s'.os=s.os)(u:Un (frs X.stack) ch H H' s.heap s'.heap)(hok:HOk X.prog X.w H' s'.heap)(hg:AllBare s'.gens)
  (hch:∀ b∈ch,(b∈X.ex\/X.s₀.heap.objs.size<=b)/\b≠X.env.locals/\(∀ x c,X.env.cells.lookup x=some c->c≠b)/\∀ p∈X.pn++pins,p.1≠b):Inv X pins σ H' s':=by
 obtain⟨h',g',d',t',o'⟩:=s';have e:o'=s.os:=ho;subst e;exact I.call (g':=g') (t':=t') (d':=d') u hok hg hch
end
abbrev XK:=Value->Option Addr->Hp->Prop
abbrev St:=List (Option V)
abbrev VK:=V->Hp->Prop
abbrev TE:=St->Hp->VK->Prop
abbrev TT:=St->Hp->(Bool->Hp->Prop)->Prop
abbrev TA:=St->Hp->(List V->Hp->Prop)->Prop
structure Ends where
 nx:St->Hp->Prop
 rt:VK
 bk:St->Hp->Prop:=λ _ _=>False
 ct:St->Hp->Prop:=λ _ _=>False
abbrev TS:=Ends->St->Hp->Prop
def EP(X:Cx)(pins:PN)(σ:St)(Q:VK)(u:Value)(s':Shared):Prop:=∃ v H',Inv X pins σ H' s'/\RelV v u/\Q v H'
def TP(X:Cx)(pins:PN)(σ:St)(Q:Bool->Hp->Prop)(b:Bool)(s':Shared):Prop:=∃ H',Inv X pins σ H' s'/\Q b H'
def AP(X:Cx)(pins:PN)(σ:St)(Q:List V->Hp->Prop)(us:List Value)(s':Shared):Prop:=∃ vs H',Inv X pins σ H' s'/\Vals vs us/\Q vs H'
def SP(X:Cx)(pins:PN)(D:Ends)(f:Flow)(s':Shared):Prop:=
 match f with
 | .next=>∃ σ' H',Inv X pins σ' H' s'/\D.nx σ' H'
 | .brk=>∃ σ' H',Inv X pins σ' H' s'/\D.bk σ' H'
 | .cont=>∃ σ' H',Inv X pins σ' H' s'/\D.ct σ' H'
 | .ret u=>∃ v σ' H',Inv X pins σ' H' s'/\RelV v u/\D.rt v H'
def PE(X:Cx)(e:Expr)(t:TE):Prop:=
 ∀ (pins:PN) (s:Shared) (σ:St) (H:Hp) (Q:VK),Inv X pins σ H s->t σ H Q->wpAny (model X.prog X.w) X.A (eval e X.env) (EP X pins σ Q) X.xe s
def PT(X:Cx)(e:Expr)(t:TT):Prop:=
 ∀ (pins:PN) (s:Shared) (σ:St) (H:Hp) (Q:Bool->Hp->Prop),Inv X pins σ H s->t σ H Q->wpAny (model X.prog X.w) X.A (isTrue e X.env (eval e X.env)) (TP X pins σ Q) X.xe s
def PW(X:Cx)(e:Expr)(t:TT):Prop:=
 ∀ (whole:Sem Value) (pins:PN) (s:Shared) (σ:St) (H:Hp) (Q:Bool->Hp->Prop),Inv X pins σ H s->t σ H Q->wpAny (model X.prog X.w) X.A (isTrue e X.env whole) (TP X pins σ Q) X.xe s
theorem PW.pt{X:Cx}{e:Expr}{t:TT}(h:PW X e t):PT X e t:=h _
def PA(X:Cx)(es:List Expr)(t:TA):Prop:=
 ∀ (pos:Pos) (pins:PN) (s:Shared) (σ:St) (H:Hp) (Q:List V->Hp->Prop),Inv X pins σ H s->t σ H Q->wpAny (model X.prog X.w) X.A (spliced (backTo pos (starEach es X.env))) (AP X pins σ Q) X.xe s
def PS(X:Cx)(st:Stmt)(t:TS):Prop:=
 ∀ (pins:PN) (s:Shared) (σ:St) (H:Hp) (D:Ends),Inv X pins σ H s->t D σ H->wpAny (model X.prog X.w) X.A (exec st X.env) (SP X pins D) X.xe s
def PSs(X:Cx)(st:List Stmt)(t:TS):Prop:=
 ∀ (pins:PN) (s:Shared) (σ:St) (H:Hp) (D:Ends),Inv X pins σ H s->t D σ H->wpAny (model X.prog X.w) X.A (execs st X.env) (SP X pins D) X.xe s
theorem thn{α:Type}{t:Sem α}{Q Q':α->Shared->Prop}{M:Model}{A:Around}{E:VP}{s:Shared}(h:wpAny M A t Q E s)(hQ:∀ a s,Q a s->Q' a s):wpAny M A t Q' E s:=wpAny_mono h hQ λ _ _ x=>x
section
variable {X:Cx}
def aiv(i:Nat):TE:=λ σ H Q=>∃ v,σ[i]? =some (some v)/\Q v H
def tC(v:V):TE:=λ _ H Q=>Q v H
theorem jM{i:Nat}{x:Str}{pos:Pos}(hN:X.N[i]? =some x)(hv:Vis X.env.scope x)(hd:ND x:=by decide)(hcd:(x==("__classdict__" : Str))=false:=by decide):PE X (.Name x pos) (aiv i):=by
 intro pins s σ H Q I h;obtain⟨v,e,h⟩:=h;obtain⟨m,hn,hl⟩:=I.loc;obtain⟨u,r,l⟩:=hl i x v hN e hv;have fin:EP X pins σ Q u s:=⟨v,H,I,r,h⟩;rcases l with ⟨hk,hm⟩ | ⟨hk,c,hc,hcell⟩
 ·exact wpAny_Name (wpAny_loadName_local I.ok.kind hk hn hm fin) hd
 ·rcases hk with hk | hk
  ·exact wpAny_Name (wpAny_loadName_cell I.ok.kind hk hc hcell fin) hd
  ·exact wpAny_Name (wpAny_loadName_free I.ok.kind hk hc hcell fin hcd) hd
theorem agN{i j pos}:PE X (.Constant (.int i) j pos) (tC (.int i)):=λ _ _ _ H _ I h=>wpAny_Constant_int ⟨.int i,H,I.tok _,⟨_,rfl⟩,h⟩
theorem afH{b j pos}:PE X (.Constant (.bool b) j pos) (tC (.bl b)):=λ _ _ _ H _ I h=>Constant_bool ⟨.bl b,H,I,rfl,h⟩
theorem agC{j pos}:PE X (.Constant .none j pos) (tC .non):=λ _ _ _ H _ I h=>Constant_none ⟨.non,H,I,rfl,h⟩
theorem afu{x j pos}:PE X (.Constant (.str x) j pos) (tC (.str x)):=λ _ _ _ H _ I h=>Calls.Constant_str ⟨.str x,H,I.tok _,⟨_,rfl⟩,h⟩
def Gl(X:Cx)(x:Str):Prop:=X.env.kindOf x=some .globalImplicit
theorem jE{E:VP}{pins:PN}{s:Shared}{σ:St}{H:Hp}{x:Str}{u:Value}{pos:Pos}{Q:VP}(I:Inv X pins σ H s)(hg:Gl X x)(hm:X.mg x=some u)(h:Q u s)
  (hd:ND x:=by decide):wpAny (model X.prog X.w) X.A (eval (.Name x pos) X.env) Q E s:=
 Calls.Name_function_global I.ok.kind hg (Calls.loadGlobal_global (by rw[I.ok.glob];exact I.mod.glob.keeps I.bk) hm h) hd
theorem fD{E:VP}{pins:PN}{s:Shared}{σ:St}{H:Hp}{x:Str}{u:Value}{pos:Pos}{Q:VP}(I:Inv X pins σ H s)(hg:Gl X x)(hm:X.mg x=none)(hv:bootBuiltins x=some u)(h:Q u s)
  (hn:x ≠ "__name__":= by decide)(hd:ND x:=by decide):wpAny (model X.prog X.w) X.A (eval (.Name x pos) X.env) Q E s:=by
 obtain⟨mb,h1,h2⟩:=I.mod.blt;exact Calls.Name_function_global I.ok.kind hg (Calls.loadGlobal_builtin (by rw[I.ok.glob];exact I.mod.glob.keeps I.bk) hm (by rw[I.ok.blt];exact h1.keeps I.bk) ((h2 x hn).trans hv) h) hd
theorem rG{x:Str}{v:V}{u:Value}{pos:Pos}(hg:Gl X x)(hm:X.mg x=some u)(r:RelV v u)(hd:ND x:=by decide):PE X (.Name x pos) (tC v):=
 λ _ _ _ H _ I h=>jE I hg hm ⟨v,H,I,r,h⟩ hd
theorem acR{x:Str}{v:V}{u:Value}{pos:Pos}(hg:Gl X x)(hm:X.mg x=none)(hv:bootBuiltins x=some u)(r:RelV v u)(hn:x ≠ "__name__":= by decide)(hd:ND x:=by decide):PE X (.Name x pos) (tC v):=
 λ _ _ _ H _ I h=>fD I hg hm hv ⟨v,H,I,r,h⟩ hn hd
variable {a b:Expr}{ta tb:TE}{pos:Pos}
theorem jw(b:Expr){op:CmpOp}(h:op ≠ .In)(h2:op ≠ .NotIn):behindInMarks op b=false:=by
 have e1:(op==CmpOp.In)=false:=by cases op<;>first | rfl | exact absurd rfl h
 have e2:(op==CmpOp.NotIn)=false:=by cases op<;>first | rfl | exact absurd rfl h2
 cases b<;>simp[behindInMarks,e1,e2]
def tB(t:TE):TT:=λ σ H Q=>t σ H λ x H1=>∃ c,x=.bl c/\Q c H1
theorem afs{e:Expr}{t:TE}(h:PE X e t)(he:∀ whole,isTrue e X.env whole=(do let v <- whole;standAt e.pos;holding [v] (truthy v)):=by intro _;rfl):PT X e (tB t):=by intro pins s σ H Q I hw;refine isTrue_plain (thn (h pins s σ H _ I hw) λ v s1 ⟨x,H1,I1,r1,q1⟩=>?_) (he _);obtain⟨d,rfl,q⟩:=q1;cases r1;exact wpAny_truthy_bool ⟨H1,I1,q⟩
variable {tA tB':TT}{rest:List Expr}
def aji(t u:TT):TT:=λ σ H Q=>t σ H λ c H1=>if c=true then u σ H1 Q else Q false H1
def tOr(t u:TT):TT:=λ σ H Q=>t σ H λ c H1=>if c=true then Q true H1 else u σ H1 Q
def ai4(t:TT):TT:=λ σ H Q=>t σ H λ c H1=>Q (!c) H1
theorem pw_and1(ha:PT X a tA):PW X (.BoolOp .And [a] pos) tA:=by
 intro wh pins s σ H Q I h;refine isTrue_and (thn (ha pins s σ H Q I h) λ c s1 e=>?_);cases c with
 | true=>exact isTrue_and_nil e
 | false=>exact e
theorem pw_or1(ha:PT X a tA):PW X (.BoolOp .Or [a] pos) tA:=by
 intro wh pins s σ H Q I h;refine isTrue_or (thn (ha pins s σ H Q I h) λ c s1 e=>?_);cases c with
 | false=>exact isTrue_or_nil e
 | true=>exact e
theorem pw_and(ha:PT X a tA)(hb:PW X (.BoolOp .And (b::rest) pos) tB'):PW X (.BoolOp .And (a::b::rest) pos) (aji tA tB'):=by
 intro wh pins s σ H Q I h;refine isTrue_and (thn (ha pins s σ H _ I h) λ c s1 hq1=>?_);obtain⟨H1,I1,q1⟩:=hq1;cases c with
 | true=>exact hb wh pins s1 σ H1 Q I1 q1
 | false=>exact⟨H1,I1,q1⟩
theorem pw_or(ha:PT X a tA)(hb:PW X (.BoolOp .Or (b::rest) pos) tB'):PW X (.BoolOp .Or (a::b::rest) pos) (tOr tA tB'):=by
 intro wh pins s σ H Q I h;refine isTrue_or (thn (ha pins s σ H _ I h) λ c s1 hq2=>?_);obtain⟨H1,I1,q1⟩:=hq2;cases c with
 | true=>exact⟨H1,I1,q1⟩
 | false=>exact hb wh pins s1 σ H1 Q I1 q1
theorem agg(ha:PT X a tA):PT X (.UnaryOp .Not a pos) (ai4 tA):=by intro pins s σ H Q I h;exact isTrue_not (ha pins s σ H (λ c H1=>Q (!c) H1) I h)
def ahE(ta tb:TE):TE:=λ σ H Q=>ta σ H λ x H1=>∃ c,x=.bl c/\if c=true then tb σ H1 Q else Q (.bl false) H1
def aif(ta:TE):TE:=λ σ H Q=>ta σ H λ x H1=>∃ c,x=.bl c/\Q (.bl (!c)) H1
theorem afZ{op}{t:TE}(h:PE X a t):PE X (.BoolOp op [a] pos) t:=λ pins s σ H Q I hw=>BoolOp_one (h pins s σ H Q I hw)
theorem afT(ha:PE X a ta)(hb:PE X (.BoolOp .And (b::rest) pos) tb):PE X (.BoolOp .And (a::b::rest) pos) (ahE ta tb):=by
 intro pins s σ H Q I h;refine BoolOp_and (thn (ha pins s σ H _ I h) λ v s1 hq3=>?_);obtain⟨x,H1,I1,r1,q1⟩:=hq3;obtain⟨c,rfl,q1⟩:=q1;cases r1;refine wpAny_truthy_bool ?_;cases c with
 | true=>exact hb pins s1 σ H1 Q I1 q1
 | false=>exact⟨.bl false,H1,I1,rfl,q1⟩
theorem agu(ha:PE X a ta):PE X (.UnaryOp .Not a pos) (aif ta):=by intro pins s σ H Q I h;refine UnaryOp_ (thn (ha pins s σ H _ I h) λ v s1 hq4=>?_);obtain⟨x,H1,I1,r1,q1⟩:=hq4;obtain⟨c,rfl,q1⟩:=q1;cases r1;exact not_of (wpAny_truthy_bool ⟨.bl (!c),H1,I1,rfl,q1⟩)
end
def SqL(K:FG)(H:Hp)(a:Addr)(xs:List V):Prop:=
 Rd H a (.lst xs) \/
  ∃ (o:Obj) (its:Array Value) (n:Nat),K.lookup a=some o/\o.cls=.type "list" /\ o.dict=none/\o.data=.seq its n/\its.size<=sizeLine/\Vals xs its.toList
def SqT(K:FG)(H:Hp)(a:Addr)(xs:List V):Prop:=
 Rd H a (.tup xs) \/
  ∃ (o:Obj) (its:Array Value) (n:Nat),K.lookup a=some o/\o.cls=.type "tuple" /\ o.dict=none/\o.data=.seq its n/\its.size<=sizeLine/\Vals xs its.toList
def ajm:Value->Option V
 | .none=>some .non
 | .bool b=>some (.bl b)
 | .int i _=>some (.int i)
 | .str x _=>some (.str x)
 | .bytes b _=>some (.byt b)
 | .float b _=>some (.flt b)
 | .ref a=>some (.ref a)
 | .type n=>some (.ty n)
 | _=>none
theorem RelV.abs{x:V}{u:Value}(r:RelV x u):ajm u=some x:=by
 cases x with
 | non=>cases r;rfl
 | bl _=>cases r;rfl
 | int _=>obtain⟨t,rfl⟩:=r;rfl
 | str _=>obtain⟨t,rfl⟩:=r;rfl
 | byt _=>obtain⟨t,rfl⟩:=r;rfl
 | flt _=>obtain⟨t,rfl⟩:=r;rfl
 | ref _=>cases r;rfl
 | ty _=>cases r;rfl
theorem RelV.inj{x y:V}{u:Value}(r:RelV x u)(q:RelV y u):x=y:=Option.some.inj (r.abs.symm.trans q.abs)
theorem Vals.inj:∀ {xs ys:List V} {us:List Value},Vals xs us->Vals ys us->xs=ys
 | _,_,_,.nil,.nil=>rfl
 | _,_,_,.cons r t,.cons r' t'=>by rw[r.inj r',Vals.inj t t']
section
variable {X:Cx}{pins:PN}{σ:St}{H:Hp}{s:Shared}{a:Addr}{xs ys:List V}
theorem SqL.of{K:FG}(h:H a=some (.lst xs)):SqL K H a xs:=.inl (.inl h)
theorem Inv.list(I:Inv X pins σ H s)(h:SqL X.K H a xs):∃ its:List Value,Vals xs its/\PlainL s.heap a its.toArray/\xs.length<=sizeLine:=by
 rcases h with h | ⟨o,its,n,hk,hc,hd,hs,hz,r⟩
 ·obtain⟨z,its,n,r,e⟩:=h.ok I.hok;exact⟨its,r,⟨_,n,e,rfl,rfl,rfl⟩,z⟩
 ·refine⟨its.toList,r,⟨o,n,I.kIn a o hk,hc,hd,by simpa using hs⟩,?_⟩;have e:=r.length;simp only[Array.length_toList] at e;omega
theorem Inv.aiK(I:Inv X pins σ H s)(h:SqT X.K H a xs):∃ its:List Value,Vals xs its/\abw s.heap a its.toArray/\xs.length<=sizeLine:=by
 rcases h with h | ⟨o,its,n,hk,hc,hd,hs,hz,r⟩
 ·obtain⟨z,its,r,p⟩:=h.ok I.hok;exact⟨its,r,p,z⟩
 ·refine⟨its.toList,r,⟨o,I.kIn a o hk,hc,hd,n,by simpa using hs⟩,?_⟩;have e:=r.length;simp only[Array.length_toList] at e;omega
theorem Inv.tuple(I:Inv X pins σ H s)(h:SqT X.K H a xs):∃ its:List Value,Vals xs its/\IsTup s.heap a its.toArray/\xs.length<=sizeLine:=by obtain⟨its,r,p,z⟩:=I.aiK h;exact⟨its,r,p.tup,z⟩
theorem Inv.sH(I:Inv X pins σ H s)(h:SqL X.K H a xs)(h':SqL X.K H a ys):xs=ys:=by
 obtain⟨its,r,⟨o,n,e,_,_,d⟩,_⟩:=I.list h;obtain⟨its',r',⟨o',n',e',_,_,d'⟩,_⟩:=I.list h';rw[e] at e';cases e';rw[d] at d'
 injection d' with d1 _
 have:its=its':=by simpa using congrArg Array.toList d1
 subst this;exact r.inj r'
theorem Inv.xA(I:Inv X pins σ H s)(h:SqT X.K H a xs)(h':SqT X.K H a ys):xs=ys:=by
 obtain⟨its,r,⟨o,e,_,n,d⟩,_⟩:=I.tuple h;obtain⟨its',r',⟨o',e',_,n',d'⟩,_⟩:=I.tuple h';rw[e] at e';cases e';rw[d] at d'
 injection d' with d1 _
 have:its=its':=by simpa using congrArg Array.toList d1
 subst this;exact r.inj r'
end
abbrev Cx.zr(X:Cx)(E:VP):Cx:={X with xe:=E}
abbrev Cx.nox(X:Cx):Cx:=X.zr λ _ _=>False
theorem Cx.Ok.zr{X:Cx}(ok:X.Ok)(E:VP):(X.zr E).Ok:=
 ⟨ok.mod,ok.kind,ok.glob,ok.blt,ok.above,ok.inj,ok.has,ok.cab,ok.hd,ok.frames,ok.stk,ok.exf,ok.bs,ok.bsz,ok.noex,ok.exfs,ok.nI,ok.frf⟩
theorem Cx.Ok.jb{X:Cx}{E:VP}(ok:(X.zr E).Ok):X.Ok:=
 ⟨ok.mod,ok.kind,ok.glob,ok.blt,ok.above,ok.inj,ok.has,ok.cab,ok.hd,ok.frames,ok.stk,ok.exf,ok.bs,ok.bsz,ok.noex,ok.exfs,ok.nI,ok.frf⟩
section
variable {X:Cx}{pins:PN}{σ:St}{H:Hp}{s:Shared}{E:VP}
theorem Inv.zr(I:Inv X pins σ H s)(E:VP):Inv (X.zr E) pins σ H s:=⟨I.ok.zr E,I.os,I.bare,I.base,I.loc,I.cell,I.free,I.freeC,I.pin,I.hok,I.len⟩
theorem Inv.jb(I:Inv (X.zr E) pins σ H s):Inv X pins σ H s:=⟨I.ok.jb,I.os,I.bare,I.base,I.loc,I.cell,I.free,I.freeC,I.pin,I.hok,I.len⟩
theorem SP.jb{D:Ends}{f:Flow}{s':Shared}(h:SP (X.zr E) pins D f s'):SP X pins D f s':=by
 cases f with
 | next=>obtain⟨σ',H',I,q⟩:=h;exact⟨σ',H',I.jb,q⟩
 | brk=>obtain⟨σ',H',I,q⟩:=h;exact⟨σ',H',I.jb,q⟩
 | cont=>obtain⟨σ',H',I,q⟩:=h;exact⟨σ',H',I.jb,q⟩
 | ret u=>obtain⟨v,σ',H',I,r,q⟩:=h;exact⟨v,σ',H',I.jb,r,q⟩
theorem PSs.nox{st:List Stmt}{t:TS}(h:PSs X.nox st t):PSs X st t:=λ pins s σ H D I hw =>
 wpAny_mono (h pins s σ H D (I.zr _) hw) (λ _ _ q=>q.jb) λ _ _ z=>False.elim z
end
section
variable {X:Cx}{st:Stmt}{rest:List Stmt}{t u:TS}{e:Expr}{te:TE}{pos:Pos}
def ahP:TS:=λ D σ H=>D.nx σ H
def ai0(t u:TS):TS:=λ D σ H=>t {D with nx:=u D} σ H
theorem acE:PSs X [] ahP:=λ _ _ σ H _ I h=>wpAny_execs_nil ⟨σ,H,I,h⟩
theorem nK(h1:PS X st t)(h2:PSs X rest u):PSs X (st::rest) (ai0 t u):=by
 intro pins s σ H D I h;refine wpAny_execs_cons (thn (h1 pins s σ H {D with nx:=u D} I h) λ f s1 q=>?_);cases f with
 | next =>
  obtain⟨σ',H',I',q⟩:=q;exact h2 pins s1 σ' H' D I' q
 | ret v=>exact q
 | brk=>exact q
 | cont=>exact q
theorem zh(h1:PS X st t):PSs X [st] t:=by
 intro pins s σ H D I h;refine wpAny_execs_cons (thn (h1 pins s σ H D I h) λ f s1 q=>?_);cases f with
 | next=>exact wpAny_execs_nil q
 | ret v=>exact q
 | brk=>exact q
 | cont=>exact q
theorem Inv.quiet{pins:PN}{σ:St}{H:Hp}{s:Shared}(I:Inv X pins σ H s):interactive X.env=false:=by simp[interactive,I.ok.kind]
def aij(te:TE):TS:=λ D σ H=>te σ H λ _ H1=>D.nx σ H1
theorem adk(he:PE X e te)(hs:swapsWith e none pos.line X.env=pure false:=by rfl):PS X (.Expr e pos) (aij te):=by intro pins s σ H D I h;exact wpAny_Expr_any (thn (he pins s σ H _ I h) λ v s1 ⟨x,H1,I1,r1,q1⟩=>⟨σ,H1,I1,q1⟩) I.quiet hs
def ai1(te:TE):TS:=λ D σ H=>te σ H D.rt
theorem agG(he:PE X e te):PS X (.Return (some e) pos) (ai1 te):=by intro pins s σ H D I h;exact wpAny_Return_some (thn (he pins s σ H _ I h) λ v s1 ⟨x,H1,I1,r1,q1⟩=>⟨x,σ,H1,I1,r1,q1⟩)
def ai2(c:TT)(t u:TS):TS:=λ D σ H=>c σ H λ b H1=>if b=true then t D σ H1 else u D σ H1
theorem ah7{c:Expr}{a b:List Stmt}{tc:TT}(hc:PT X c tc)(ha:PSs X a t)(hb:PSs X b u):PS X (.If c a b pos) (ai2 tc t u):=by
 intro pins s σ H D I h;refine wpAny_If (thn (hc pins s σ H _ I h) λ d s1 hq5=>?_);obtain⟨H1,I1,q1⟩:=hq5;cases d with
 | true=>exact ha pins s1 σ H1 D I1 q1
 | false=>exact hb pins s1 σ H1 D I1 q1
end
abbrev TG:=V->St->Hp->(St->Hp->Prop)->Prop
abbrev TGs:=List V->St->Hp->(St->Hp->Prop)->Prop
def PG(X:Cx)(target:Expr)(t:TG):Prop:=
 ∀ (pins:PN) (s:Shared) (σ:St) (H:Hp) (v:V) (u:Value) (Q:St->Hp->Prop),Inv X pins σ H s->RelV v u->t v σ H Q ->
  wpAny (model X.prog X.w) X.A (assign target X.env u) (λ _ s'=>∃ σ' H',Inv X pins σ' H' s'/\Q σ' H') X.xe s
def PGs(X:Cx)(ts:List Expr)(t:TGs):Prop:=
 ∀ (pins:PN) (s:Shared) (σ:St) (H:Hp) (vs:List V) (us:List Value) (Q:St->Hp->Prop),Inv X pins σ H s->Vals vs us->t vs σ H Q ->
  wpAny (model X.prog X.w) X.A (assignInOrder ((assignEach ts X.env).map (·.2)) us) (λ _ s'=>∃ σ' H',Inv X pins σ' H' s'/\Q σ' H') X.xe s
abbrev afq:=V->V->V->Hp->(Hp->Prop)->Prop
def aha(X:Cx)(t:afq):Prop:=
 ∀ (pins:PN) (s:Shared) (σ:St) (H:Hp) (o i v:V) (ov iv u:Value) (Q:Hp->Prop),Inv X pins σ H s->RelV o ov->RelV i iv->RelV v u->t o i v H Q ->
  wpAny (model X.prog X.w) X.A (setItem ov iv u) (λ _ s'=>∃ H',Inv X pins σ H' s'/\Q H') X.xe s
abbrev TIp:=V->V->Hp->VK->Prop
def PIp(X:Cx)(op:Operator)(t:TIp):Prop:=
 ∀ (pins:PN) (s:Shared) (σ:St) (H:Hp) (x y:V) (v u:Value) (Q:VK),Inv X pins σ H s->RelV x v->RelV y u->t x y H Q ->
  wpAny (model X.prog X.w) X.A (inplaceOp op v u) (EP X pins σ Q) X.xe s
section
variable {X:Cx}{pos:Pos}
def aaT(i:Nat):TG:=λ v σ H Q=>Q (σ.set i (some v)) H
theorem qM{i:Nat}{x:Str}(hN:X.N.Nodup)(hi:X.N[i]? =some x)(hx:Loc X.env.scope x)(hf:X.fn x=true\/X.env.scope.names.lookup x=some .local:=by first | exact .inl rfl | exact .inr rfl | assumption):PG X (.Name x pos) (aaT i):=by intro pins s σ H v u Q I r h;exact wpAny_assign_Name (fV I hN hi hx r (λ s' I'=>⟨_,H,I',h⟩) hf)
def aiY:TGs:=λ vs σ H Q=>vs=[]/\Q σ H
def ahM(t:TG)(u:TGs):TGs:=λ vs σ H Q=>∃ v r,vs=v::r/\t v σ H λ σ' H'=>u r σ' H' Q
theorem adU:PGs X [] aiY:=by intro pins s σ H vs us Q I r h;obtain⟨e,h⟩:=h;subst e;cases r;exact assignInOrder_nil ⟨σ,H,I,h⟩
theorem zR{e:Expr}{es:List Expr}{t:TG}{u:TGs}(h1:PG X e t)(h2:PGs X es u)
  (hs:(assignEach (e::es) X.env).map (·.2)=assign e X.env::(assignEach es X.env).map (·.2):=by rfl):PGs X (e::es) (ahM t u):=by
 intro pins s σ H vs us Q I r h;obtain⟨v,vr,e1,h⟩:=h;subst e1;cases r with
 | cons r rr =>
  rw[hs];refine assignInOrder_cons (thn (h1 pins s σ H _ _ _ I r h) λ _ s1 hq6=>?_);obtain⟨σ1,H1,I1,q1⟩:=hq6;exact h2 pins s1 σ1 H1 _ _ Q I1 rr q1
def aiX(K:FG)(n:Nat)(t:TGs):TG:=λ v σ H Q=>∃ a xs,v=.ref a/\SqT K H a xs/\xs.length=n/\t xs σ H Q
theorem agO{es:List Expr}{k:Nat}{t:TGs}{n:Nat}(hc:X.calm=true)(h:PGs X es t)
  (hn:(assignEach es X.env).length=n:=by rfl)(hst:(assignEach es X.env).findIdx? (·.1)=none:=by rfl):PG X (.Tuple es k pos) (aiX X.K n t):=by
 intro pins s σ H v u Q I r hw;obtain⟨a,xs,e1,hq,hl,hw⟩:=hw;subst e1;cases r;obtain⟨its,rv,ht,hz⟩:=I.tuple hq;refine assign_Tuple_tuple (I.ok.hd hc) ht (by simp[hn,<- hl,rv.length]) hst λ h' hx=>?_;have I1:Inv X pins σ H {s with heap:=h'}:=I.kept (t':=s.toks) λ b o e=>hx b o (Nat.ne_of_lt (Heap.lt_size e)) e;exact h pins _ σ H xs _ Q I1 (by simpa using rv) hw
def ai6(to ti:TE)(t:afq):TG:=λ v σ H Q=>to σ H λ o H1=>ti σ H1 λ i H2=>t o i v H2 λ H3=>Q σ H3
theorem aeK{o i:Expr}{to ti:TE}{t:afq}(ho:PE X o to)(hi:PE X i ti)(hs:aha X t)
  (ha:∀ v,assign (.Subscript o i pos) X.env v=(do
   let ov <- holding [v] (eval o X.env)
   let iv <- holding [v,ov] (eval i X.env)
   standAt pos
   holding [v,ov,iv] (setItem ov iv v)
   release [v,ov,iv] []):=by intro _;rfl):PG X (.Subscript o i pos) (ai6 to ti t):=by
 intro pins s σ H v u Q I r h;rw[ha];refine wpAny_bind (wpAny_holding (thn (ho pins s σ H _ I h) λ ov s1 hq7=>?_));obtain⟨x,H1,I1,r1,q1⟩:=hq7;refine wpAny_bind (wpAny_holding (thn (hi pins s1 σ H1 _ I1 q1) λ iv s2 hq8=>?_));obtain⟨y,H2,I2,r2,q2⟩:=hq8;refine wpAny_bind (wpAny_standAt (wpAny_bind (wpAny_holding (thn (hs pins s2 σ H2 x y v ov iv u _ I2 r1 r2 r q2) λ _ s3 hq9=>?_))));obtain⟨H3,I3,q3⟩:=hq9;exact wpAny_release ⟨σ,H3,I3,q3⟩
def agw(te:TE)(g:TG):TS:=λ D σ H=>te σ H λ x H1=>g x σ H1 D.nx
theorem aeV{tg e:Expr}{te:TE}{g:TG}(he:PE X e te)(hg:PG X tg g)(hs:swapsWithSole [tg] e pos.line X.env=pure false:=by rfl)(hw:swappedStores [tg] e X.env=pure none:=by rfl)
  (h1:(assignEach [tg] X.env).map (·.2)=[assign tg X.env]:=by rfl):PS X (.Assign [tg] e pos) (agw te g):=by
 intro pins s σ H D I h;refine wpAny_Assign_stores (thn (he pins s σ H _ I h) λ v s1 ⟨x,H1,I1,r1,q1⟩=>?_) hs hw;rw[h1];exact thn (hg pins s1 σ H1 x v _ I1 r1 q1) λ _ s2 q=>q
theorem afC{i:Nat}{x:Str}{e:Expr}{te:TE}{pos':Pos}(hN:X.N.Nodup)(hi:X.N[i]? =some x)(hx:Loc X.env.scope x)(he:PE X e te)(hs:swapsWith e (some (.Name x pos')) pos.line X.env=pure false:=by rfl)(hf:X.fn x=true\/X.env.scope.names.lookup x=some .local:=by first | exact .inl rfl | exact .inr rfl | assumption) :
  PS X (.Assign [.Name x pos'] e pos) (agw te (aaT i)):=by
 intro pins s σ H D I h;refine wpAny_Assign_Name (thn (he pins s σ H _ I h) λ v s1 ⟨y,H1,I1,r1,q1⟩=>?_) hs;exact fV I1 hN hi hx r1 (λ s2 I2=>⟨_,H1,I2,q1⟩) hf
def ai5(i j:Nat)(ta:TA):TS:=λ D σ H=>ta σ H λ vs H1=>∃ v w,vs=[v,w]/\D.nx ((σ.set i (some v)).set j (some w)) H1
theorem aeZ{i j:Nat}{x y:Str}{a b:Expr}{ta:TA}{px py pt:Pos}{kt k2 pt2}(hc:X.calm=true)(hN:X.N.Nodup)(hi:X.N[i]? =some x)(hj:X.N[j]? =some y)(hij:i≠j)
  (hx:X.env.scope.names.lookup x=some .local)(hy:X.env.scope.names.lookup y=some .local)(ha:PA X [a,b] ta)
  (hw:swappedStores [.Tuple [.Name x px,.Name y py] kt pt] (.Tuple [a,b] k2 pt2) X.env=pure (some [x,y]))
  (hs:swapsWithSole [.Tuple [.Name x px,.Name y py] kt pt] (.Tuple [a,b] k2 pt2) pos.line X.env=pure false:=by rfl) :
  PS X (.Assign [.Tuple [.Name x px,.Name y py] kt pt] (.Tuple [a,b] k2 pt2) pos) (ai5 i j ta):=by
 intro pins s σ H D I h;rw[exec_Assign_arm];refine wpAny_bind (wpAny_standAt ?_);rw[hs];refine wpAny_bind (wpAny_pure ?_);rw[if_neg (by decide)];refine wpAny_bind (Tuple_ (thn (ha _ pins s σ H _ I h) λ us s1 hq10=>?_));obtain⟨vs,H1,I1,r1,q1⟩:=hq10;obtain⟨v,w,e1,q1⟩:=q1;subst e1;obtain⟨u1,u2,rfl,rv,rw'⟩:∃ u1 u2,us=[u1,u2]/\RelV v u1/\RelV w u2:=by
  cases r1 with
  | cons p q =>
   cases q with
   | cons p' q' =>
    cases q';exact⟨_,_,rfl,p,p'⟩
 refine wpAny_newObj_type ?_ (by show 2<=sizeLine;decide);have I2:Inv X pins σ H1 {s1 with heap:=s1.heap.push {cls:=.type "tuple",data:=.seq [u1,u2].toArray}}:=I1.kept (t':=s1.toks) λ b o e=>Heap.get?_push_of_some _ e;rw[hw];refine wpAny_bind (wpAny_pure ?_);show wpAny (model X.prog X.w) X.A (do rule "assign.swapped-stores";let items <- unpackItems (.ref s1.heap.objs.size) 2 none;assignInOrder [λ v=>bindName X.env y v,λ v=>bindName X.env x v] items.reverse;pure Flow.next) _ _ _;refine wpAny_bind (wpAny_rule (wpAny_bind (unpackItems_tuple (items:=#[u1,u2]) (I.ok.hd hc) (IsTup.new s1.heap _) λ h' hx'=>?_)));have I3:=I2.kept (h':=h') (t':=s1.toks) λ b o e=>hx' b o (Nat.ne_of_lt (Heap.lt_size e)) e;show wpAny _ _ (assignInOrder [λ v=>bindName X.env y v,λ v=>bindName X.env x v] [u2,u1] >>= λ _=>pure Flow.next) _ _ _;refine wpAny_bind (assignInOrder_cons (wpAny_bindName (fV I3 hN hj (.inl hy) rw' (λ s2 I4=>?_) (.inr hy))));refine assignInOrder_cons (wpAny_bindName (fV I4 hN hi (.inl hx) rv (λ s3 I5=>assignInOrder_nil (wpAny_pure ?_)) (.inr hx)));rw[List.set_comm _ _ (Ne.symm hij)] at I5;exact⟨_,H1,I5,q1⟩
def ajn(i:Nat)(te:TE)(ti:TIp):TS:=λ D σ H=>∃ x,σ[i]? =some (some x)/\te σ H λ y H1=>ti x y H1 λ z H2=>D.nx (σ.set i (some z)) H2
theorem age{i:Nat}{x:Str}{e:Expr}{te:TE}{op:Operator}{ti:TIp}{pos':Pos}(hN:X.N.Nodup)(hi:X.N[i]? =some x)(hx:Loc X.env.scope x)(he:PE X e te)(ho:PIp X op ti)(hf:X.fn x=true\/X.env.scope.names.lookup x=some .local:=by first | exact .inl rfl | exact .inr rfl | assumption) :
  PS X (.AugAssign (.Name x pos') op e pos) (ajn i te ti):=by
 intro pins s σ H D I h;obtain⟨v,e1,h⟩:=h;obtain⟨m,hn,hl⟩:=I.loc;have vis:Vis X.env.scope x:=by rcases hx with k | k;exact .inl k;exact .inr (.inl k)
 obtain⟨u,r,l⟩:=hl i x v hi e1 vis;refine wpAny_AugAssign_Name ?_;have go:wpAny (model X.prog X.w) X.A (eval e X.env) (λ w s₂=>wpAny (model X.prog X.w) X.A (inplaceOp op u w) (λ r s₃=>wpAny (model X.prog X.w) X.A (storeName X.env x r) (λ _=>SP X pins D .next) X.xe s₃) X.xe s₂) X.xe s:=by refine thn (he pins s σ H _ I h) λ w s1 hq11=>?_;obtain⟨y,H1,I1,r1,q1⟩:=hq11;refine thn (ho pins s1 σ H1 v y u w _ I1 r r1 q1) λ z s2 hq12=>?_;obtain⟨zv,H2,I2,r2,q2⟩:=hq12;exact fV I2 hN hi hx r2 (λ s3 I3=>⟨_,H2,I3,q2⟩) hf
 rcases l with ⟨hk,hm⟩ | ⟨hk,c,hc,hcell⟩
 ·exact wpAny_loadName_local I.ok.kind hk hn hm go
 ·rcases hk with hk | hk
  ·exact wpAny_loadName_cell I.ok.kind hk hc hcell go
  ·rcases hx with k | k
   ·have:X.env.scope.names.lookup x=some .free:=hk;rw[k] at this;cases this
   ·have:X.env.scope.names.lookup x=some .free:=hk;rw[k] at this;cases this
def ahz(to ti te:TE)(gJ:V->V->Hp->VK->Prop)(tip:TIp)(tset:afq):TS:=λ D σ H=>to σ H λ o H1=>ti σ H1 λ i H2=>gJ o i H2 λ x H3=>te σ H3 λ y H4=>tip x y H4 λ z H5=>tset o i z H5 λ H6=>D.nx σ H6
def ahx(X:Cx)(t:V->V->Hp->VK->Prop):Prop:=
 ∀ (pins:PN) (s:Shared) (σ:St) (H:Hp) (o i:V) (ov iv:Value) (Q:VK),Inv X pins σ H s->RelV o ov->RelV i iv->t o i H Q ->
  wpAny (model X.prog X.w) X.A (getItem ov iv) (EP X pins σ Q) X.xe s
theorem yH{o i e:Expr}{to ti te:TE}{gJ:V->V->Hp->VK->Prop}{tip:TIp}{tset:afq}{op:Operator}{tpos:Pos}(ho:PE X o to)(hi:PE X i ti)(hg:ahx X gJ)(he:PE X e te)(hp:PIp X op tip)(hs:aha X tset)
  (ha:∀ ov iv new,augStore i ov iv new=(do holding [new,ov,iv] (setItem ov iv new);release [new,ov,iv] [];pure .next):=by intros;rfl):PS X (.AugAssign (.Subscript o i tpos) op e pos) (ahz to ti te gJ tip tset):=by
 intro pins s σ H D I h;refine wpAny_AugAssign_SubscriptAny (thn (ho pins s σ H _ I h) λ ov s1 ⟨x1,H1,I1,r1,q1⟩=>?_) ha;refine thn (hi pins s1 σ H1 _ I1 q1) λ iv s2 hq13=>?_;obtain⟨x2,H2,I2,r2,q2⟩:=hq13;refine thn (hg pins s2 σ H2 x1 x2 ov iv _ I2 r1 r2 q2) λ old s3 hq14=>?_;obtain⟨x3,H3,I3,r3,q3⟩:=hq14;refine thn (he pins s3 σ H3 _ I3 q3) λ v s4 hq15=>?_;obtain⟨x4,H4,I4,r4,q4⟩:=hq15;refine thn (hp pins s4 σ H4 x3 x4 old v _ I4 r3 r4 q4) λ new s5 hq16=>?_;obtain⟨x5,H5,I5,r5,q5⟩:=hq16;exact thn (hs pins s5 σ H5 x1 x2 x5 ov iv new _ I5 r1 r2 r5 q5) λ _ s6 ⟨H6,I6,q6⟩=>⟨σ,H6,I6,q6⟩
def ipI(f:Int->Int->Int):TIp:=λ x y H Q=>∃ i j,x=.int i/\y=.int j/\Q (.int (f i j)) H
theorem abK:PIp X .Add (ipI λ i j=>i+j):=by intro pins s σ H x y v u Q I r1 r2 h;obtain⟨i,j,e1,e2,q⟩:=h;subst e1;subst e2;obtain⟨t,rfl⟩:=r1;obtain⟨t',rfl⟩:=r2;exact iadd_int ⟨.int _,H,I.tok _,⟨_,rfl⟩,q⟩
theorem aeA:PIp X .Sub (ipI λ i j=>i-j):=by intro pins s σ H x y v u Q I r1 r2 h;obtain⟨i,j,e1,e2,q⟩:=h;subst e1;subst e2;obtain⟨t,rfl⟩:=r1;obtain⟨t',rfl⟩:=r2;exact isub_int ⟨.int _,H,I.tok _,⟨_,rfl⟩,q⟩
end
section
variable {X:Cx}{pos:Pos}
end
structure It where
 go:Nat->Hp->Prop
 yld:Nat->Hp->V->Hp->Prop
 stop:Nat->Hp->Prop
def iE(X:Cx)(pins:PN)(H:Hp)(b:Addr):Prop:=
 H b=none/\b≠X.env.locals/\b ∉ X.fs/\(b∈X.ex\/X.s₀.heap.objs.size<=b)/\(∀ x c,X.env.cells.lookup x=some c->c≠b)/\∀ p∈X.pn++pins,p.1≠b
theorem Inv.nU{X:Cx}{pins:PN}{σ:St}{H H':Hp}{s:Shared}{b:Addr}(I:Inv X pins σ H s)(hb:s.heap.objs.size<=b)(hn:H' b=none):iE X pins H' b:=by
 refine⟨hn,Nat.ne_of_gt (Nat.lt_of_lt_of_le I.lt hb),I.aiO hb,.inr (Nat.le_trans I.sz hb),λ x c e z=>?_,λ p hp z=>?_⟩
 ·obtain⟨v,q⟩:=I.cell x c e;exact absurd (Nat.lt_of_lt_of_le q.lt (by rw[z];exact hb)) (Nat.lt_irrefl _)
 ·exact absurd (Nat.lt_of_lt_of_le (Heap.lt_size (I.pin p hp).1) (by rw[z];exact hb)) (Nat.lt_irrefl _)
structure Turn(P:Program)(w:World)(K:FG)(tg:Expr)(J:It)(fp:List Addr)(it:Addr)(tn:Nat->Heap->Prop):Prop where
 mem:it∈fp
 obj:∀ i h,tn i h->∀ b∈fp,∃ o,h.get? b=some o/\∀ v,o.data ≠ .cell v
 keep:∀ i h h',tn i h->(∀ b∈fp,∀ o,h.get? b=some o->h'.get? b=some o)->tn i h'
 item:∀ (X:Cx),X.prog=P->X.w=w->X.K=K->X.calm=true->∀ (i:Nat) (pins:PN) (s:Shared) (σ:St) (H:Hp) (E:VP),Inv X pins σ H s->(∀ b∈fp,iE X pins H b)->tn i s.heap->J.go i H ->
  wpAny (model P w) X.A (pyNext (.ref it)) (λ r s1=>∃ u,r=some u /\
   wpAny (model P w) X.A (letOwnedTupleGo tg (.ref it) u) (λ _ s2=>∃ x H',Inv X pins σ H' s2/\RelV x u/\J.yld i H x H'/\tn (i+1) s2.heap/\∀ b∈fp,H' b=none) E s1) E s
 done:∀ (X:Cx),X.prog=P->X.w=w->X.K=K->X.calm=true->∀ (i:Nat) (pins:PN) (s:Shared) (σ:St) (H:Hp) (E:VP),Inv X pins σ H s->(∀ b∈fp,iE X pins H b)->tn i s.heap->J.stop i H ->
  wpAny (model P w) X.A (pyNext (.ref it)) (λ r s1=>r=none/\Inv X pins σ H s1) E s
 self:∀ (A:Around) (i:Nat) (s:Shared) (Q:VP) (E:VP),tn i s.heap->Q (.ref it) s->wpAny (model P w) A (pyIter (.ref it)) Q E s
abbrev TI:=St->Hp->(It->Hp->Prop)->Prop
def PIE(X:Cx)(pins:PN)(σ:St)(tg:Expr)(R:It->Hp->Prop)(itv:Value)(s2:Shared):Prop:=
 ∃ (it:Addr) (fp:List Addr) (tn:Nat->Heap->Prop) (J:It) (H':Hp),itv=.ref it/\Inv X pins σ H' s2/\Turn X.prog X.w X.K tg J fp it tn/\tn 0 s2.heap/\(∀ b∈fp,iE X pins H' b)/\R J H'
def PI(X:Cx)(tg iter:Expr)(wi:TI):Prop:=
 ∀ (pins:PN) (s:Shared) (σ:St) (H:Hp) (R:It->Hp->Prop),Inv X pins σ H s->wi σ H R ->
  wpAny (model X.prog X.w) X.A (eval iter X.env) (λ v s1=>wpAny (model X.prog X.w) X.A (pyIter v) (PIE X pins σ tg R) X.xe s1) X.xe s
theorem uh{M:Model}{A:Around}{E:VP}{s:Shared}{tg:Expr}{it:Addr}{u:Value}{o:Obj}{n:String}{vs:Array Value}{Q:Unit->Shared->Prop}(ho:s.heap.get? it=some o)(hc:o.cls=.type n)(hd:o.data=.fields vs)
  (hn:["enumerate", "zip", "dict_itemiterator", "dict_reverseitemiterator", "odict_iterator", "itertools.zip_longest", "itertools.pairwise"].contains n=false)(hQ:Q () s):wpAny M A (letOwnedTupleGo tg (.ref it) u) Q E s:=by
 unfold letOwnedTupleGo;cases tg<;>first
  | exact wpAny_pure hQ
  | (cases u<;>first
    | exact wpAny_pure hQ
    | (refine wpAny_bind (wpAny_load ho ?_)
       rw[hc,hd];show wpAny M A (if (["enumerate", "zip", "dict_itemiterator", "dict_reverseitemiterator", "odict_iterator", "itertools.zip_longest", "itertools.pairwise"].contains n&&vs[0]? == some (rawInt _))=true then _ else _) Q E s;rw[if_neg (by intro h;rw[hn,Bool.false_and] at h;cases h)];exact wpAny_pure hQ))
def Itl(K:FG)(a:Addr):It:=
 ⟨λ i H=>∃ xs x,SqL K H a xs/\xs[i]? =some x,λ i H x H'=>H'=H/\∀ xs,SqL K H a xs->xs[i]? =some x,λ i H=>∃ xs,SqL K H a xs/\xs.length<=i⟩
def Itt(K:FG)(a:Addr):It:=
 ⟨λ i H=>∃ xs x,SqT K H a xs/\xs[i]? =some x,λ i H x H'=>H'=H/\∀ xs,SqT K H a xs->xs[i]? =some x,λ i H=>∃ xs,SqT K H a xs/\xs.length<=i⟩
def Itr(lo:Int)(n:Nat):It:=⟨λ i _=>i<n,λ i H x H'=>H'=H/\x=.int (lo+i),λ i _=>n<=i⟩
theorem yb{P:Program}{w:World}{K:FG}{tg:Expr}(a it:Addr):Turn P w K tg (Itl K a) [it] it (λ i h=>h.IsListIter it a i) where
 mem:=by simp
 obj:=λ i h st b hb=>by
  have e:b=it:=by simpa using hb
  subst e;obtain⟨o,e,c,d⟩:=st;exact⟨o,e,λ v z=>by rw[d] at z;cases z⟩
 keep:=λ i h h' st k=>st.at λ o e=>k it (by simp) o e
 item:=by intro X hP hw hK hc i pins s σ H E I hf st hg;subst hP hw hK;obtain⟨xs,x,hq,hx⟩:=hg;obtain⟨its,rv,p,hz⟩:=I.list hq;obtain⟨u,hu,ru⟩:=rv.get hx;obtain⟨f0,f1,f2,f3,f4,f5⟩:=hf it (by simp);refine wpAny_pyNext_list_item st p.isList (x:=u) (by simpa using hu) λ h' st' sb=>?_;have I1:Inv X pins σ H {s with heap:=h'}:=I.turned (t':=s.toks) (λ b o hb e=>(sb.2 b hb).trans e) f0 f1 f3 f4 f5;obtain⟨o,e,c,d⟩:=id st';exact⟨u,rfl,uh (s:={s with heap:=h'}) e c d (by decide) ⟨x,H,I1,ru,⟨rfl,λ ys hy=>by rw[I.sH hy hq];exact hx⟩,st',λ b hb=>(hf b hb).1⟩⟩
 done:=by intro X hP hw hK hc i pins s σ H E I hf st hg;subst hP hw hK;obtain⟨xs,hq,hx⟩:=hg;obtain⟨its,rv,p,hz⟩:=I.list hq;obtain⟨f0,f1,f2,f3,f4,f5⟩:=hf it (by simp);have hl:=rv.length;exact wpAny_pyNext_list_end (I.ok.hd hc) st p.isList (by simp;omega) λ h' eb=>⟨rfl,I.turned (t':=s.toks) (λ b o hb e=>eb b o hb e) f0 f1 f3 f4 f5⟩
 self:=λ _ _ _ _ _ st h=>wpAny_pyIter_listiter st h
theorem u5{P:Program}{w:World}{K:FG}{tg:Expr}(a it:Addr):Turn P w K tg (Itt K a) [it] it (λ i h=>h.IsTupleIter it a i) where
 mem:=by simp
 obj:=λ i h st b hb=>by
  have e:b=it:=by simpa using hb
  subst e;obtain⟨o,e,c,d⟩:=st;exact⟨o,e,λ v z=>by rw[d] at z;cases z⟩
 keep:=λ i h h' st k=>st.at λ o e=>k it (by simp) o e
 item:=by intro X hP hw hK hc i pins s σ H E I hf st hg;subst hP hw hK;obtain⟨xs,x,hq,hx⟩:=hg;obtain⟨its,rv,p,hz⟩:=I.tuple hq;obtain⟨u,hu,ru⟩:=rv.get hx;obtain⟨f0,f1,f2,f3,f4,f5⟩:=hf it (by simp);refine wpAny_pyNext_tuple_item st (show s.heap.IsTuple a its.toArray from p) (x:=u) (by simpa using hu) λ h' st' sb=>?_;have I1:Inv X pins σ H {s with heap:=h'}:=I.turned (t':=s.toks) (λ b o hb e=>(sb.2 b hb).trans e) f0 f1 f3 f4 f5;obtain⟨o,e,c,d⟩:=id st';exact⟨u,rfl,uh (s:={s with heap:=h'}) e c d (by decide) ⟨x,H,I1,ru,⟨rfl,λ ys hy=>by rw[I.xA hy hq];exact hx⟩,st',λ b hb=>(hf b hb).1⟩⟩
 done:=by intro X hP hw hK hc i pins s σ H E I hf st hg;subst hP hw hK;obtain⟨xs,hq,hx⟩:=hg;obtain⟨its,rv,p,hz⟩:=I.tuple hq;obtain⟨f0,f1,f2,f3,f4,f5⟩:=hf it (by simp);have hl:=rv.length;exact wpAny_pyNext_tuple_end (I.ok.hd hc) st (show s.heap.IsTuple a its.toArray from p) (by simp;omega) λ h' eb=>⟨rfl,I.turned (t':=s.toks) (λ b o hb e=>eb b o hb e) f0 f1 f3 f4 f5⟩
 self:=λ _ _ _ _ _ st h=>wpAny_pyIter_tupleiter st h
theorem uJ{P:Program}{w:World}{K:FG}{tg:Expr}(it:Addr)(lo:Int)(n:Nat):Turn P w K tg (Itr lo n) [it] it (λ i h=>IsRangeIter h it (lo+(i:Nat) * 1) ((n:Int)-(i:Nat)) 1) where
 mem:=by simp
 obj:=λ i h st b hb=>by
  have e:b=it:=by simpa using hb
  subst e;exact⟨_,st,λ v z=>by have z':Data.fields _=Data.cell v:=z;cases z'⟩
 keep:=λ i h h' st k=>k it (by simp) _ st
 item:=by intro X hP hw hK hc i pins s σ H E I hf st hg;subst hP hw hK;obtain⟨f0,f1,f2,f3,f4,f5⟩:=hf it (by simp);have W:=Walks.range (prog:=X.prog) (w:=X.w) (I.ok.hd hc) it lo 1 n;refine W.item i s _ _ hg st λ v h' tk hv st' kk=>?_;obtain⟨t,rfl⟩:=hv;have I1:Inv X pins σ H {s with heap:=h',toks:=tk}:=I.turned (λ b o hb e=>kk b o (by simpa using hb) e) f0 f1 f3 f4 f5;refine⟨_,rfl,uh (s:={s with heap:=h',toks:=tk}) (n:= "range_iterator") st' rfl rfl (by decide) ⟨.int (lo+i),H,I1,⟨t,?_⟩,⟨rfl,rfl⟩,st',λ b hb=>(hf b hb).1⟩⟩;rw[Int.mul_one]
 done:=by intro X hP hw hK hc i pins s σ H E I hf st hg;subst hP hw hK;obtain⟨f0,f1,f2,f3,f4,f5⟩:=hf it (by simp);exact wpAny_pyNext_range_end (I.ok.hd hc) st (by have:n<=i:=hg;omega) λ h' eb=>⟨rfl,I.turned (t':=s.toks) (λ b o hb e=>eb b o hb e) f0 f1 f3 f4 f5⟩
 self:=λ _ _ _ _ _ st h=>wpAny_pyIter_rangeiter st h
section
variable {X:Cx}{tg:Expr}
theorem rX{pins:PN}{σ:St}{H:Hp}{s:Shared}{R:It->Hp->Prop}{E:VP}{lo hi:Int}{t u v:Tok}{tk:Nat}(I:Inv X pins σ H s)(h1:-(2 ^ 62)<=lo)(h2:lo<2 ^ 62)(h3:-(2 ^ 62)<=hi)(h4:hi<2 ^ 62)
  (q:R (Itr lo (hi-lo).toNat) H):wpAny (model X.prog X.w) X.A (pyIter (.ref s.heap.objs.size)) (PIE X pins σ tg R) E {s with heap:=s.heap.push {cls:=.type "range",data:=.fields #[.int lo t,.int hi u,.int 1 v]},toks:=tk}:=by
 refine wpAny_pyIter_range (IsRange.new ..) (small_one h1 h2 h3 h4) ?_;have I1:Inv X pins σ H {s with heap:=s.heap.push {cls:=.type "range",data:=.fields #[.int lo t,.int hi u,.int 1 v]},toks:=tk}:=I.kept λ b o e=>Heap.get?_push_of_some _ e;refine⟨(s.heap.push {cls:=.type "range",data:=.fields #[.int lo t,.int hi u,.int 1 v]}).objs.size,[(s.heap.push {cls:=.type "range",data:=.fields #[.int lo t,.int hi u,.int 1 v]}).objs.size],_,_,H,rfl,
  I1.kept (t':=tk) λ b o e=>Heap.get?_push_of_some _ e,uJ _ lo (hi-lo).toNat,?_,λ b hb=>?_,q⟩
 ·have e1:lo+((0:Nat):Int) * 1=lo:=by simp
  have e2:(((hi-lo).toNat:Nat):Int)-((0:Nat):Int)=Builtin.Range.rangeSize lo hi 1:=by rw[rangeSize_one];split<;>omega
  show IsRangeIter _ _ (lo+((0:Nat):Int) * 1) ((((hi-lo).toNat:Nat):Int)-((0:Nat):Int)) 1;rw[e1,e2];exact Heap.get?_push_size _ rfl
 ·have e:b=(s.heap.push {cls:=.type "range",data:=.fields #[.int lo t,.int hi u,.int 1 v]}).objs.size:=by simpa using hb
  subst e;exact I1.nU (Nat.le_refl _) (I1.hok.fresh (Nat.le_refl _))
def ahe(ta:TA):TI:=λ σ H R=>ta σ H λ vs H1=>∃ j:Int,vs=[.int j]/\-(2 ^ 62)<=j/\j<2 ^ 62/\R (Itr 0 j.toNat) H1
def ahC(ta:TA):TI:=λ σ H R=>ta σ H λ vs H1=>∃ i j:Int,vs=[.int i,.int j]/\(-(2 ^ 62)<=i/\i<2 ^ 62/\-(2 ^ 62)<=j/\j<2 ^ 62)/\R (Itr i (j-i).toNat) H1
theorem we{a:Expr}{ta:TA}{p pos:Pos}(hg:Gl X "range")(hm:X.mg "range" = none)(ha:PA X [a] ta)(hs:starEach [a] X.env=[(false,eval a X.env)]:=by rfl):PI X tg (.Call (.Name "range" p) [a] [] pos) (ahe ta):=by
 intro pins s σ H R I h;refine Call_ (fD I hg hm boot_range (PyProof.Rows.callWith_type1 (thn (ha pos pins s σ H _ I h) λ us s1 ⟨vs,H1,I1,r1,q1⟩=>?_) hs rfl));obtain⟨j,e,q1,q2,q⟩:=q1;subst e;cases r1 with
 | cons r rr =>
  cases rr;obtain⟨t,rfl⟩:=r;exact call_range_1 (rX I1 (by omega) (by omega) q1 q2 (by simpa using q))
theorem w5{a b:Expr}{ta:TA}{p pos:Pos}(hg:Gl X "range")(hm:X.mg "range" = none)(ha:PA X [a,b] ta)(hs:starEach [a,b] X.env=[(false,eval a X.env),(false,eval b X.env)]:=by rfl)(hs2:starEach [b] X.env=[(false,eval b X.env)]:=by rfl) :
  PI X tg (.Call (.Name "range" p) [a,b] [] pos) (ahC ta):=by
 intro pins s σ H R I h;refine Call_ (fD I hg hm boot_range (PyProof.Rows.callWith_type1 (thn (ha pos pins s σ H _ I h) λ us s1 ⟨vs,H1,I1,r1,q1⟩=>?_) (by rw[hs,hs2]) (by rw[hs2];rfl)));obtain⟨i,j,e,⟨q1,q2,q3,q4⟩,q⟩:=q1;subst e;cases r1 with
 | cons r rr =>
  cases rr with
  | cons r' rr =>
   cases rr;obtain⟨t,rfl⟩:=r;obtain⟨t',rfl⟩:=r';exact call_range_2 (rX I1 q1 q2 q3 q4 q)
def ai3(wi:TI)(g:TG)(tb:TS):TS:=λ D σ H=>wi σ H λ J H1=>∃ W:Nat->Nat->St->Hp->Prop,(∃ m,W 0 m σ H1)/\∀ i m σ H,W i m σ H ->
 (J.stop i H/\D.nx σ H)\/(J.go i H/\∃ N:St->Hp->Prop,(∀ σ' H',N σ' H'->∃ m',m'<m/\W (i+1) m' σ' H')/\∀ x H',J.yld i H x H'->g x σ H' λ σ2 H2=>tb {D with nx:=N,ct:=N,bk:=D.nx} σ2 H2)
def kI(fp:List Addr)(h:Heap):PN:=fp.filterMap λ b=>(h.get? b).map λ o=>(b,o)
theorem dq{fp:List Addr}{h:Heap}{b:Addr}{o:Obj}(hb:b∈fp)(e:h.get? b=some o):(b,o)∈kI fp h:=List.mem_filterMap.mpr ⟨b,hb,by rw[e];rfl⟩
theorem wZ{fp:List Addr}{h:Heap}{p:Addr×Obj}(hp:p∈kI fp h):p.1∈fp/\h.get? p.1=some p.2:=by
 obtain⟨b,hb,e⟩:=List.mem_filterMap.mp hp;cases q:h.get? b with
 | none=>rw[q] at e;cases e
 | some o =>
  rw[q] at e;have e':(b,o)=p:=Option.some.inj e;subst e';exact⟨hb,q⟩
theorem Inv.pinned{pins:PN}{σ:St}{H:Hp}{s:Shared}{fp:List Addr}(I:Inv X pins σ H s)(hf:∀ b∈fp,iE X pins H b)(ho:∀ b∈fp,∃ o,s.heap.get? b=some o/\∀ v,o.data ≠ .cell v):Inv X (pins++kI fp s.heap) σ H s:=
 I.dN λ p hp=>(List.mem_append.mp hp).elim (λ z=>I.pin p (List.mem_append_right _ z)) λ z=>by obtain⟨hb,e⟩:=wZ z;obtain⟨f0,f1,f2,_⟩:=hf p.1 hb;obtain⟨o,e',d⟩:=ho p.1 hb;rw[e] at e';cases e';exact⟨e,f0,f1,f2,d⟩
theorem Inv.hJ{pins pl:PN}{σ:St}{H:Hp}{s:Shared}(I:Inv X (pins++pl) σ H s):Inv X pins σ H s:=I.dN λ p hp=>I.pin p (List.mem_append_right _ (List.mem_append_left _ hp))
theorem aeL{iter:Expr}{body:List Stmt}{wi:TI}{g:TG}{tb:TS}{pos:Pos}(hp:PassesOwn (model X.prog X.w) X.A X.env X.xe)(hc:X.calm=true)(hi:PI X tg iter wi)(hg:PG X tg g)(hb:PSs X body tb)
  (hs:∀ x,foldedSetIterable iter X.env x=pure x:=by intro _;rfl):PS X (.For tg iter body [] pos) (ai3 wi g tb):=by
 intro pins s σ H D I h;refine wpAny_For (thn (hi pins s σ H _ I h) λ v s1 h1=>thn h1 λ itv s2 h2=>?_) hs;obtain⟨it,fp,tn,J,H2,e,I2,T,st2,f2,W,⟨m0,w0⟩,turn⟩:=h2;subst e;have stat:∀ {H':Hp},(∀ b∈fp,H' b=none)->∀ b∈fp,iE X pins H' b:=λ hn b hb=>⟨hn b hb,(f2 b hb).2⟩;refine codeAny_forLoop_any (λ n s'=>∃ i σ' H',Inv X pins σ' H' s'/\tn i s'.heap/\(∀ b∈fp,H' b=none)/\W i n σ' H') ?_ m0 ⟨0,σ,H2,I2,st2,λ b hb=>(f2 b hb).1,w0⟩;rintro n s3 ⟨i,σ3,H3,I3,st3,fr3,w3⟩;rcases turn i n σ3 H3 w3 with ⟨stop,qn⟩ | ⟨go,N,hN,step⟩
 ·refine wpAny_passesOwn hp (thn (T.done X rfl rfl rfl hc i pins s3 σ3 H3 X.xe I3 (stat fr3) st3 stop) λ r s4 ⟨hr,I4⟩=>?_);subst hr;exact wpAny_execs_nil ⟨σ3,H3,I4,qn⟩
 ·refine wpAny_passesOwn hp (thn (T.item X rfl rfl rfl hc i pins s3 σ3 H3 X.xe I3 (stat fr3) st3 go) λ r s4 ⟨u,hr,h4⟩=>?_);subst hr;refine wpAny_passesOwn hp (thn h4 λ _ s5 hq17=>?_);obtain⟨x,H5,I5,r5,y5,st5,fr5⟩:=hq17;have I5':=I5.pinned (stat fr5) (T.obj _ _ st5);refine wpAny_passesOwn hp (thn (hg _ s5 σ3 H5 x u _ I5' r5 (step x H5 y5)) λ _ s6 hq18=>?_);obtain⟨σ6,H6,I6,q6⟩:=hq18;refine wpAny_passesOwn hp (thn (hb _ s6 σ6 H6 _ I6 q6) λ f s7 q7=>?_);have again:∀ {σ7:St} {H7:Hp},Inv X (pins++kI fp s5.heap) σ7 H7 s7->N σ7 H7->∃ m,m<n/\∃ i σ' H',Inv X pins σ' H' s7/\tn i s7.heap/\(∀ b∈fp,H' b=none)/\W i m σ' H':=λ {σ7 H7} I7 n7=>by obtain⟨m',hm,w7⟩:=hN σ7 H7 n7;refine⟨m',hm,i+1,σ7,H7,I7.hJ,T.keep _ _ _ st5 λ b hb o e=>(I7.pin (b,o) (List.mem_append_right _ (List.mem_append_right _ (dq hb e)))).1,λ b hb=>?_,w7⟩;obtain⟨o,e,d⟩:=T.obj _ _ st5 b hb;exact(I7.pin (b,o) (List.mem_append_right _ (List.mem_append_right _ (dq hb e)))).2.1
  cases f with
  | next=>obtain⟨σ7,H7,I7,n7⟩:=q7;exact again I7 n7
  | cont=>obtain⟨σ7,H7,I7,n7⟩:=q7;exact again I7 n7
  | brk=>obtain⟨σ7,H7,I7,q7⟩:=q7;exact⟨σ7,H7,I7.hJ,q7⟩
  | ret v=>obtain⟨x7,σ7,H7,I7,r7,q7⟩:=q7;exact⟨x7,σ7,H7,I7.hJ,r7,q7⟩
end
abbrev R2:=V->V->Hp->VK->Prop
def OpR(X:Cx)(f:Value->Value->Sem Value)(r:R2):Prop:=
 ∀ (pins:PN) (s:Shared) (σ:St) (H:Hp) (x y:V) (v u:Value) (Q:VK),Inv X pins σ H s->RelV x v->RelV y u->r x y H Q ->
  wpAny (model X.prog X.w) X.A (f v u) (EP X pins σ Q) X.xe s
def UnR(X:Cx)(f:Value->Sem Value)(r:V->Hp->VK->Prop):Prop:=
 ∀ (pins:PN) (s:Shared) (σ:St) (H:Hp) (x:V) (v:Value) (Q:VK),Inv X pins σ H s->RelV x v->r x H Q ->
  wpAny (model X.prog X.w) X.A (f v) (EP X pins σ Q) X.xe s
def dk(X:Cx)(f:Value)(r:List V->Hp->VK->Prop):Prop:=
 ∀ (pins:PN) (s:Shared) (σ:St) (H:Hp) (xs:List V) (us:List Value) (Q:VK),Inv X pins σ H s->Vals xs us->r xs H Q ->
  wpAny (model X.prog X.w) X.A (call f us) (EP X pins σ Q) X.xe s
def tOp(r:R2)(ta tb:TE):TE:=λ σ H Q=>ta σ H λ x H1=>tb σ H1 λ y H2=>r x y H2 Q
def tUn(r:V->Hp->VK->Prop)(ta:TE):TE:=λ σ H Q=>ta σ H λ x H1=>r x H1 Q
def rI(C:Int->Int->Prop)(g:Int->Int->V):R2:=λ x y H Q=>∃ i j,x=.int i/\y=.int j/\C i j/\Q (g i j) H
def rI0(g:Int->Int->V):R2:=λ x y H Q=>∃ i j,x=.int i/\y=.int j/\Q (g i j) H
def rU(g:Int->V):V->Hp->VK->Prop:=λ x H Q=>∃ i,x=.int i/\Q (g i) H
section
variable {X:Cx}{a b c:Expr}{ta tb tc:TE}{pos:Pos}
theorem ahH(ha:PE X a ta)(hb:PE X b tb){pins:PN}{s:Shared}{σ:St}{H:Hp}{R:V->V->Hp->Prop}(I:Inv X pins σ H s)
  (h:ta σ H λ x H1=>tb σ H1 λ y H2=>R x y H2){Q:VP}{f:Value->Value->Sem Value}
  (hf:∀ v u s2 x y H2,Inv X pins σ H2 s2->RelV x v->RelV y u->R x y H2->wpAny (model X.prog X.w) X.A (f v u) Q X.xe s2) :
  wpAny (model X.prog X.w) X.A (eval a X.env) (λ v s₁=>wpAny (model X.prog X.w) X.A (eval b X.env) (λ u s₂=>wpAny (model X.prog X.w) X.A (f v u) Q X.xe s₂) X.xe s₁) X.xe s:=by
 refine thn (ha pins s σ H _ I h) λ v s1 hq19=>?_;obtain⟨x,H1,I1,r1,q1⟩:=hq19;refine thn (hb pins s1 σ H1 _ I1 q1) λ u s2 hq20=>?_;obtain⟨y,H2,I2,r2,q2⟩:=hq20;exact hf v u s2 x y H2 I2 r1 r2 q2
theorem agx{op:Operator}{r:R2}(ho:OpR X (binaryOp op) r)(ha:PE X a ta)(hb:PE X b tb):PE X (.BinOp a op b pos) (tOp r ta tb):=by intro pins s σ H Q I h;exact wpAny_BinOp (ahH ha hb I h λ v u s2 x y H2 I2 rx ry q=>ho pins s2 σ H2 x y v u Q I2 rx ry q)
theorem ahf{op:UnaryOp}{r:V->Hp->VK->Prop}(ho:UnR X (unaryOp op) r)(ha:PE X a ta):PE X (.UnaryOp op a pos) (tUn r ta):=by intro pins s σ H Q I h;exact UnaryOp_ (thn (ha pins s σ H _ I h) λ v s1 ⟨x,H1,I1,r1,q1⟩=>ho pins s1 σ H1 x v Q I1 r1 q1)
theorem opI{f:Value->Value->Sem Value}{C:Int->Int->Prop}{g:Int->Int->Int}
  (rule:∀ (i j:Int) (t u:Tok) (s:Shared) (Q:VP) (E:VP),C i j->Q (.int (g i j) s.toks) {s with toks:=s.toks+1}->wpAny (model X.prog X.w) X.A (f (.int i t) (.int j u)) Q E s) :
  OpR X f (rI C λ i j=>.int (g i j)):=by
 intro pins s σ H x y v u Q I rx ry h;obtain⟨i,j,rfl,rfl,hc,q⟩:=h;obtain⟨t,rfl⟩:=rx;obtain⟨t',rfl⟩:=ry;exact rule i j t t' s _ _ hc ⟨.int (g i j),H,I.tok _,⟨_,rfl⟩,q⟩
theorem aiS{f:Value->Value->Sem Value}{g:Int->Int->Int}
  (rule:∀ (i j:Int) (t u:Tok) (s:Shared) (Q:VP) (E:VP),Q (.int (g i j) s.toks) {s with toks:=s.toks+1}->wpAny (model X.prog X.w) X.A (f (.int i t) (.int j u)) Q E s) :
  OpR X f (rI0 λ i j=>.int (g i j)):=by
 intro pins s σ H x y v u Q I rx ry h;obtain⟨i,j,rfl,rfl,q⟩:=h;obtain⟨t,rfl⟩:=rx;obtain⟨t',rfl⟩:=ry;exact rule i j t t' s _ _ ⟨.int (g i j),H,I.tok _,⟨_,rfl⟩,q⟩
theorem ag0{f:Value->Value->Sem Value}{g:Int->Int->Bool}
  (rule:∀ (i j:Int) (t u:Tok) (s:Shared) (Q:VP) (E:VP),Q (.bool (g i j)) s->wpAny (model X.prog X.w) X.A (f (.int i t) (.int j u)) Q E s) :
  OpR X f (rI0 λ i j=>.bl (g i j)):=by
 intro pins s σ H x y v u Q I rx ry h;obtain⟨i,j,rfl,rfl,q⟩:=h;obtain⟨t,rfl⟩:=rx;obtain⟨t',rfl⟩:=ry;exact rule i j t t' s _ _ ⟨.bl (g i j),H,I,rfl,q⟩
def ahB(i j:Int):Prop:=0<j/\j<1073741824
def afe(i j:Int):Prop:=(-(2 ^ 64)<i/\i<2 ^ 64)\/(-(2 ^ 64)<j/\j<2 ^ 64)
theorem afe.ok{i j:Int}(h:afe i j):IntMulOk i j:=by
 rcases h with ⟨h1,h2⟩ | ⟨h1,h2⟩
 ·exact .of_left (intBits_le_64 h1 h2)
 ·exact .of_right (intBits_le_64 h1 h2)
theorem agl:OpR X (binaryOp .Add) (rI0 λ i j=>.int (i+j)):=aiS λ _ _ _ _ _ _ _ q=>add_int q
theorem ql:OpR X (binaryOp .Sub) (rI0 λ i j=>.int (i-j)):=aiS λ _ _ _ _ _ _ _ q=>sub_int q
theorem lK:OpR X (binaryOp .Mult) (rI afe λ i j=>.int (i * j)):=opI λ _ _ _ _ _ _ _ hc q=>mul_int q hc.ok
theorem xC:OpR X (binaryOp .FloorDiv) (rI ahB λ i j=>.int (i / j)):=opI λ i j _ _ _ _ _ hc q=>by have h1:(0:Int)<j:=hc.1;have h2:j<1073741824:=hc.2;exact floordiv_int (by omega) (by rw[Int.fdiv_eq_ediv_of_nonneg i (by omega)];exact q) (.inl (PyProof.noPylong_small (by omega)))
theorem gf:OpR X (binaryOp .Mod) (rI (λ _ j=>0<j) λ i j=>.int (i % j)):=opI λ i j _ _ _ _ _ hc q=>by have h1:(0:Int)<j:=hc;exact mod_int' (by omega) (by rw[Int.fmod_eq_emod_of_nonneg i (by omega)];exact q)
theorem unI{f:Value->Sem Value}{g:Int->Int}
  (rule:∀ (i:Int) (t:Tok) (s:Shared) (Q:VP) (E:VP),Q (.int (g i) s.toks) {s with toks:=s.toks+1}->wpAny (model X.prog X.w) X.A (f (.int i t)) Q E s) :
  UnR X f (rU λ i=>.int (g i)):=by
 intro pins s σ H x v Q I rx h;obtain⟨i,rfl,q⟩:=h;obtain⟨t,rfl⟩:=rx;exact rule i t s _ _ ⟨.int (g i),H,I.tok _,⟨_,rfl⟩,q⟩
theorem abJ:UnR X (unaryOp .USub) (rU λ i=>.int (-i)):=unI λ _ _ _ _ _ q=>neg_int q
end
def aiD:V->V->Bool
 | .non,.non=>true | .non,.int _=>true | .int _,.non=>true | .non,.bl _=>true | .bl _,.non=>true | .non,.str _=>true | .str _,.non=>true
 | .int _,.int _=>true | .bl _,.bl _=>true | .str _,.str _=>true | .byt _,.byt _=>true
 | .int _,.str _=>true | .str _,.int _=>true | .bl _,.str _=>true | .str _,.bl _=>true
 | _,_=>false
def rEq:R2:=λ x y H Q=>aiD x y=true/\Q (.bl (decide (x=y))) H
def rNe:R2:=λ x y H Q=>aiD x y=true/\Q (.bl (!decide (x=y))) H
theorem wU{i j:Int}:decide (V.int i=V.int j)=(i==j):=by rw[Bool.eq_iff_iff];simp
theorem abv{i j:Bool}:decide (V.bl i=V.bl j)=(i==j):=by rw[Bool.eq_iff_iff];simp
theorem xX{i j:Str}:decide (V.str i=V.str j)=(i==j):=by rw[Bool.eq_iff_iff];simp
theorem vD{i j:Array UInt8}:decide (V.byt i=V.byt j)=(i.toList==j.toList):=by rw[Bool.eq_iff_iff];cases i;cases j;simp
section
variable {X:Cx}{a b c:Expr}{ta tb tc:TE}{pos:Pos}
theorem bu{pins:PN}{σ:St}{H:Hp}{s:Shared}{Q:VK}{k k':Bool}(I:Inv X pins σ H s)(q:Q (.bl k) H)(e:k=k'):EP X pins σ Q (.bool k') s:=by subst e;exact⟨.bl k,H,I,rfl,q⟩
theorem ail:OpR X (compareOp .Eq) rEq:=by
 intro pins s σ H x y v u Q I rx ry h;obtain⟨hs,q⟩:=h;cases x with
 | non =>
  cases rx;cases y with
  | non=>cases ry;exact PySem.EqNone.eq_none_none (bu I q (by simp))
  | bl j=>cases ry;exact PySem.EqNone.eq_none_bool (bu I q (by simp))
  | int j=>obtain⟨t',rfl⟩:=ry;exact PySem.EqNone.eq_none_int (bu I q (by simp))
  | str j=>obtain⟨t',rfl⟩:=ry;exact PySem.EqNone.eq_none_str (bu I q (by simp))
  | _=>exact absurd (show false=true from hs) Bool.false_ne_true
 | bl i =>
  cases rx;cases y with
  | non=>cases ry;exact PySem.EqNone.eq_bool_none (bu I q (by simp))
  | bl j=>cases ry;exact eq_bool (bu I q abv)
  | str j=>obtain⟨t',rfl⟩:=ry;exact PySem.EqMixed.eq_bool_str (bu I q (by simp))
  | _=>exact absurd (show false=true from hs) Bool.false_ne_true
 | int i =>
  obtain⟨t,rfl⟩:=rx;cases y with
  | non=>cases ry;exact PySem.EqNone.eq_int_none (bu I q (by simp))
  | int j=>obtain⟨t',rfl⟩:=ry;exact eq_int (bu I q wU)
  | str j=>obtain⟨t',rfl⟩:=ry;exact PySem.EqMixed.eq_int_str (bu I q (by simp))
  | _=>exact absurd (show false=true from hs) Bool.false_ne_true
 | str i =>
  obtain⟨t,rfl⟩:=rx;cases y with
  | non=>cases ry;exact PySem.EqNone.eq_str_none (bu I q (by simp))
  | bl j=>cases ry;exact PySem.EqMixed.eq_str_bool (bu I q (by simp))
  | int j=>obtain⟨t',rfl⟩:=ry;exact PySem.EqMixed.eq_str_int (bu I q (by simp))
  | str j=>obtain⟨t',rfl⟩:=ry;exact eq_str (bu I q xX)
  | _=>exact absurd (show false=true from hs) Bool.false_ne_true
 | byt i =>
  obtain⟨t,rfl⟩:=rx;cases y with
  | byt j=>obtain⟨t',rfl⟩:=ry;exact W.eq_bytes (bu I q vD)
  | _=>exact absurd (show false=true from hs) Bool.false_ne_true
 | _=>cases y<;>exact absurd (show false=true from hs) Bool.false_ne_true
theorem ahF:OpR X (compareOp .NotEq) rNe:=by
 intro pins s σ H x y v u Q I rx ry h;obtain⟨hs,q⟩:=h;cases x with
 | non =>
  cases rx;cases y with
  | non=>cases ry;exact PySem.EqNone.ne_none_none (bu I q (by simp))
  | bl j=>cases ry;exact PySem.EqNone.ne_none_bool (bu I q (by simp))
  | int j=>obtain⟨t',rfl⟩:=ry;exact PySem.EqNone.ne_none_int (bu I q (by simp))
  | str j=>obtain⟨t',rfl⟩:=ry;exact PySem.EqNone.ne_none_str (bu I q (by simp))
  | _=>exact absurd (show false=true from hs) Bool.false_ne_true
 | bl i =>
  cases rx;cases y with
  | non=>cases ry;exact PySem.EqNone.ne_bool_none (bu I q (by simp))
  | bl j=>cases ry;exact ne_bool (bu I q (congrArg not abv))
  | str j=>obtain⟨t',rfl⟩:=ry;exact PySem.EqMixed.ne_bool_str (bu I q (by simp))
  | _=>exact absurd (show false=true from hs) Bool.false_ne_true
 | int i =>
  obtain⟨t,rfl⟩:=rx;cases y with
  | non=>cases ry;exact PySem.EqNone.ne_int_none (bu I q (by simp))
  | int j=>obtain⟨t',rfl⟩:=ry;exact ne_int (bu I q (congrArg not wU))
  | str j=>obtain⟨t',rfl⟩:=ry;exact PySem.EqMixed.ne_int_str (bu I q (by simp))
  | _=>exact absurd (show false=true from hs) Bool.false_ne_true
 | str i =>
  obtain⟨t,rfl⟩:=rx;cases y with
  | non=>cases ry;exact PySem.EqNone.ne_str_none (bu I q (by simp))
  | bl j=>cases ry;exact PySem.EqMixed.ne_str_bool (bu I q (by simp))
  | int j=>obtain⟨t',rfl⟩:=ry;exact PySem.EqMixed.ne_str_int (bu I q (by simp))
  | str j=>obtain⟨t',rfl⟩:=ry;exact ne_str (bu I q (congrArg not xX))
  | _=>exact absurd (show false=true from hs) Bool.false_ne_true
 | byt i =>
  obtain⟨t,rfl⟩:=rx;cases y with
  | byt j=>obtain⟨t',rfl⟩:=ry;exact W.ne_bytes (bu I q (congrArg not vD))
  | _=>exact absurd (show false=true from hs) Bool.false_ne_true
 | _=>cases y<;>exact absurd (show false=true from hs) Bool.false_ne_true
theorem afI:OpR X (compareOp .Lt) (rI0 λ i j=>.bl (decide (i<j))):=ag0 λ _ _ _ _ _ _ _ q=>lt_int q
theorem aib:OpR X (compareOp .LtE) (rI0 λ i j=>.bl (decide (i<=j))):=ag0 λ _ _ _ _ _ _ _ q=>le_int q
theorem uC:OpR X (compareOp .Gt) (rI0 λ i j=>.bl (decide (j<i))):=ag0 λ _ _ _ _ _ _ _ q=>gt_int q
theorem ac4:OpR X (compareOp .GtE) (rI0 λ i j=>.bl (decide (j<=i))):=ag0 λ _ _ _ _ _ _ _ q=>ge_int q
theorem tm:OpR X (compareOp .Is) (λ x y H Q=>y=.non/\Q (.bl (decide (x=.non))) H):=by
 intro pins s σ H x y v u Q I rx ry h;obtain⟨rfl,q⟩:=h;cases ry;refine is_none_gen (bu I q ?_);cases x<;>first
  | (cases rx;rfl)
  | (obtain⟨t,rfl⟩:=rx;rfl)
theorem w6:OpR X (compareOp .IsNot) (λ x y H Q=>y=.non/\Q (.bl (!decide (x=.non))) H):=by
 intro pins s σ H x y v u Q I rx ry h;obtain⟨rfl,q⟩:=h;cases ry;refine isnot_none_gen (bu I q ?_);cases x<;>first
  | (cases rx;rfl)
  | (obtain⟨t,rfl⟩:=rx;rfl)
theorem adZ{op:CmpOp}{r:R2}(ho:OpR X (compareOp op) r)(ha:PE X a ta)(hb:PE X b tb)(hm:behindInMarks op b=false):PE X (.Compare a [op] [b] pos) (tOp r ta tb):=by intro pins s σ H Q I h;exact wpAny_Compare1 (ahH ha hb I h λ v u s2 x y H2 I2 rx ry q=>ho pins s2 σ H2 x y v u Q I2 rx ry q) hm
def acX(t:TE):TT:=λ σ H Q=>t σ H λ x H'=>∃ k,x=.bl k/\Q k H'
theorem adC{op:CmpOp}{r:R2}(ho:OpR X (compareOp op) r)(ha:PE X a ta)(hb:PE X b tb)(hm:behindInMarks op b=false):PT X (.Compare a [op] [b] pos) (acX (tOp r ta tb)):=by
 intro pins s σ H Q I h;refine wpAny_isTrue_Compare1 (thn (ha pins s σ H _ I h) λ v s1 ⟨x,H1,I1,r1,q1⟩=>thn (hb pins s1 σ H1 _ I1 q1) λ u s2 ⟨y,H2,I2,r2,q2⟩ =>
  thn (ho pins s2 σ H2 x y v u _ I2 r1 r2 q2) λ c s3 ⟨z,H3,I3,r3,k,e,q3⟩=>?_) hm
 subst e;cases r3;exact wpAny_truthy_bool ⟨H3,I3,q3⟩
def yS(r r':R2)(ta tb tc:TE):TE:=λ σ H Q=>ta σ H λ x H1=>tb σ H1 λ y H2=>r x y H2 λ z H3=>∃ k,z=.bl k /\
 (if k=true then tc σ H3 λ w' H4=>r' y w' H4 Q else Q (.bl false) H3)
theorem zT{op op':CmpOp}{r r':R2}(ho:OpR X (compareOp op) r)(ho':OpR X (compareOp op') r')(ha:PE X a ta)(hb:PE X b tb)(hc:PE X c tc)
  (hm:lastMarks [op,op'] [b,c]=false:=by with_unfolding_all rfl):PE X (.Compare a [op,op'] [b,c] pos) (yS r r' ta tb tc):=by
 intro pins s σ H Q I h;refine Compare_chain (thn (ha pins s σ H _ I h) λ v s1 ⟨x,H1,I1,r1,q1⟩=>chain_link (thn (hb pins s1 σ H1 _ I1 q1) λ u s2 ⟨y,H2,I2,r2,q2⟩ =>
  thn (ho pins s2 σ H2 x y v u _ I2 r1 r2 q2) λ d s3 ⟨z,H3,I3,r3,k,e,q3⟩=>?_)) hm
 subst e;cases r3;refine wpAny_truthy_bool ?_;cases k with
 | false=>exact ite_ff ⟨.bl false,H3,I3,rfl,q3⟩
 | true=>exact ite_tt (chain_last (thn (hc pins s3 σ H3 _ I3 q3) λ w' s4 ⟨z',H4,I4,r4,q4⟩=>ho' pins s4 σ H4 y z' u w' Q I4 r2 r4 q4))
theorem aaj{op op':CmpOp}{r r':R2}(ho:OpR X (compareOp op) r)(ho':OpR X (compareOp op') r')(ha:PE X a ta)(hb:PE X b tb)(hc:PE X c tc)
  (hm:lastMarks [op,op'] [b,c]=false:=by with_unfolding_all rfl):PT X (.Compare a [op,op'] [b,c] pos) (acX (yS r r' ta tb tc)):=by
 intro pins s σ H Q I h;refine isTrue_chain (thn (ha pins s σ H _ I h) λ v s1 ⟨x,H1,I1,r1,q1⟩=>test_link (thn (hb pins s1 σ H1 _ I1 q1) λ u s2 ⟨y,H2,I2,r2,q2⟩ =>
  thn (ho pins s2 σ H2 x y v u _ I2 r1 r2 q2) λ d s3 ⟨z,H3,I3,r3,k,e,q3⟩=>?_)) hm
 subst e;cases r3;refine wpAny_truthy_bool ?_;cases k with
 | false =>
  obtain⟨k',e',q'⟩:=q3;cases e';exact ite_ff ⟨H3,I3,q'⟩
 | true =>
  refine ite_tt (test_last (thn (hc pins s3 σ H3 _ I3 q3) λ w' s4 ⟨z',H4,I4,r4,q4⟩=>thn (ho' pins s4 σ H4 y z' u w' _ I4 r2 r4 q4) λ d' s5 hq21=>?_));obtain⟨z2,H5,I5,r5,k2,e2,q5⟩:=hq21;subst e2;cases r5;exact wpAny_truthy_bool ⟨H5,I5,q5⟩
theorem lT:(sizeLine:Nat)<2 ^ 63:=by rw[sizeLine_eq];decide
theorem uD:OpR X (binaryOp .Add) (λ x y H Q=>∃ i j,x=.str i/\y=.str j/\i.length+j.length<=sizeLine/\Q (.str (i++j)) H):=by intro pins s σ H x y v u Q I rx ry h;obtain⟨i,j,rfl,rfl,hz,q⟩:=h;obtain⟨t,rfl⟩:=rx;obtain⟨t',rfl⟩:=ry;exact add_str (λ t' tk=>⟨.str (i++j),H,I.tok _,⟨_,rfl⟩,q⟩) hz
theorem vals1{x:V}{us:List Value}(r:Vals [x] us):∃ u,us=[u]/\RelV x u:=by
 cases r with
 | cons r1 r2=>cases r2;exact⟨_,rfl,r1⟩
theorem vals2{x y:V}{us:List Value}(r:Vals [x,y] us):∃ u w',us=[u,w']/\RelV x u/\RelV y w':=by
 cases r with
 | cons r1 r2 =>
  cases r2 with
  | cons r3 r4=>cases r4;exact⟨_,_,rfl,r1,r3⟩
theorem zy:dk X (.builtin "abs") (λ xs H Q=>∃ i,xs=[.int i]/\Q (.int (if i<0 then -i else i)) H):=by intro pins s σ H xs us Q I r h;obtain⟨i,rfl,q⟩:=h;obtain⟨u,rfl,t,rfl⟩:=vals1 r;exact call_abs_int λ u tk=>⟨.int (if i<0 then -i else i),H,I.tok _,⟨_,rfl⟩,q⟩
theorem jF(hc:X.calm=true):dk X (.builtin "min") (λ xs H Q=>∃ i j,xs=[.int i,.int j]/\Q (.int (if j<i then j else i)) H):=by
 intro pins s σ H xs us Q I r h;obtain⟨i,j,rfl,q⟩:=h;obtain⟨u,w',rfl,⟨t,rfl⟩,⟨t',rfl⟩⟩:=vals2 r;refine min_two_ints (I.ok.hd hc) λ h' tk k=>⟨_,H,I.kept k,?_,q⟩
 by_cases hj:j<i
 ·rw[if_pos hj,if_pos hj];exact⟨_,rfl⟩
 ·rw[if_neg hj,if_neg hj];exact⟨_,rfl⟩
theorem yq:dk X (.type "int") (λ xs H Q=>(∃ i,xs=[.int i]/\Q (.int i) H)\/∃ k,xs=[.bl k]/\Q (.int (if k then 1 else 0)) H):=by
 intro pins s σ H xs us Q I r h;rcases h with ⟨i,rfl,q⟩ | ⟨k,rfl,q⟩
 ·obtain⟨u,rfl,t,rfl⟩:=vals1 r;exact call_int_int ⟨.int i,H,I,⟨_,rfl⟩,q⟩
 ·obtain⟨u,rfl,r1⟩:=vals1 r;cases r1;exact call_int_bool ⟨.int (if k then 1 else 0),H,I.tok _,⟨_,rfl⟩,q⟩
def aiR(K:FG)(x:V)(H:Hp)(n:Nat):Prop:=
 match x with
 | .str y=>y.length<=sizeLine/\n=y.length
 | .byt y=>y.size<=sizeLine/\n=y.size
 | .ref p=>(∃ xs,SqL K H p xs/\n=xs.length)\/∃ xs,SqT K H p xs/\n=xs.length
 | _=>False
theorem dj:dk X (.builtin "len") (λ xs H Q=>∃ x n,xs=[x]/\aiR X.K x H n/\Q (.int n) H):=by
 intro pins s σ H xs us Q I r h;obtain⟨x,n,rfl,e,q⟩:=h;obtain⟨u,rfl,rx⟩:=vals1 r;have hl:=lT;have hs:sizeLine=16777216:=sizeLine_eq;cases x with
 | str y =>
  obtain⟨t,rfl⟩:=rx;obtain⟨hy,e'⟩:y.length<=sizeLine/\n=y.length:=e;subst e';exact len_str (by omega) ⟨.int _,H,I.tok _,⟨_,rfl⟩,q⟩
 | byt y =>
  obtain⟨t,rfl⟩:=rx;obtain⟨hy,e'⟩:y.size<=sizeLine/\n=y.size:=e;subst e';exact W.len_bytes (by omega) ⟨.int _,H,I.tok _,⟨_,rfl⟩,q⟩
 | ref p =>
  cases rx;have e':(∃ xs,SqL X.K H p xs/\n=xs.length)\/∃ xs,SqT X.K H p xs/\n=xs.length:=e;rcases e' with ⟨xs,hx,e'⟩ | ⟨xs,hx,e'⟩
  ·subst e';obtain⟨its,r',pl,hz⟩:=I.list hx;have hlen:=r'.length;exact Calls.call_len_list pl.isList (by simp only[List.size_toArray];omega) ⟨.int xs.length,H,I.tok _,⟨_,by simp only[List.size_toArray];rw[hlen]⟩,q⟩
  ·subst e';obtain⟨its,r',pl,hz⟩:=I.tuple hx;have hlen:=r'.length;exact len_tuple pl (by simp only[List.size_toArray];omega) ⟨.int xs.length,H,I.tok _,⟨_,by simp only[List.size_toArray];rw[hlen]⟩,q⟩
 | _=>exact(show False from e).elim
end
theorem wO{h:Heap}{dx:Addr}{mA:Str->Option Value}(n:h.Ns1 dx mA):∃ od,h.get? dx=some od/\∀ name,W.lookIn name od=some (mA name):=by
 obtain⟨o,es,ep,ho,hd,hk,_,hm⟩:=n;refine⟨o,ho,λ name=>?_⟩;have e:=hm name;unfold nsFind findBy at e;rw[<- Array.find?_toList] at e;unfold W.lookIn;rw[hd];dsimp only
 split
 ·rename_i y q
  rw[q] at e;exact congrArg some e
 ·rename_i q
  rw[q] at e;have a:es.toList.any (·.refKey)=false:=by rw[List.any_eq_false];intro y hy;obtain⟨z,t,hkey⟩:=hk y (Array.mem_toList_iff.mp hy);simp[DictEntry.refKey,hkey]
  have a':¬ es.toList.any (·.refKey)=true:=by rw[a];exact Bool.false_ne_true
  rw[if_neg a'];exact congrArg some e
section
variable {prog:Program}{w:World}{A:Around}{E:VP}{s:Shared}{K:FG}{x dx C f:Addr}{mA:Str->Option Value}{name:Str}{v:Value}
end
def qp(f:Str)(v:V):List (Str×V)->List (Str×V)
 | []=>[(f,v)]
 | (g,x)::r=>if g=f then (g,v)::r else (g,x)::qp f v r
theorem jS(f g:Str)(v:V):∀ fs:List (Str×V),(qp f v fs).lookup g=if g=f then some v else fs.lookup g
 | []=>by
  show List.lookup g [(f,v)]=_
  by_cases h:g=f
  ·have hb:(g==f)=true:=beq_iff_eq.mpr h;simp only[List.lookup,hb,if_pos h]
  ·have hb:(g==f)=false:=beq_eq_false_iff_ne.mpr h;simp only[List.lookup,hb,if_neg h]
 | (k,x)::r=>by
  have ih:=jS f g v r;rw[show qp f v ((k,x)::r)=(if k=f then (k,v)::r else (k,x)::qp f v r) from rfl]
  by_cases hk:k=f
  ·rw[if_pos hk]
   by_cases h:g=k
   ·have hb:(g==k)=true:=beq_iff_eq.mpr h;simp only[List.lookup,hb,if_pos (h.trans hk)]
   ·have hb:(g==k)=false:=beq_eq_false_iff_ne.mpr h;simp only[List.lookup,hb,if_neg (λ e:g=f=>h (e.trans hk.symm))]
  ·rw[if_neg hk]
   by_cases h:g=k
   ·have hb:(g==k)=true:=beq_iff_eq.mpr h;simp only[List.lookup,hb,if_neg (λ e:g=f=>hk (h.symm.trans e))]
   ·have hb:(g==k)=false:=beq_eq_false_iff_ne.mpr h;simp only[List.lookup,hb];exact ih
theorem jH(f:Str)(v:V):∀ fs:List (Str×V),f∈(qp f v fs).map (·.1)/\∀ g,g∈fs.map (·.1)->g∈(qp f v fs).map (·.1)
 | []=>⟨by simp[qp],λ g h=>by simp at h⟩
 | (k,x)::r=>by
  obtain⟨i1,i2⟩:=jH f v r;rw[show qp f v ((k,x)::r)=(if k=f then (k,v)::r else (k,x)::qp f v r) from rfl]
  by_cases hk:k=f
  ·rw[if_pos hk];subst hk;exact⟨by simp,λ g h=>by simpa using h⟩
  ·rw[if_neg hk];refine⟨?_,λ g h=>?_⟩
   ·rw[List.map_cons];exact List.mem_cons_of_mem _ i1
   ·rw[List.map_cons] at h ⊢;rcases List.mem_cons.mp h with e | e
    ·exact List.mem_cons.mpr (.inl e)
    ·exact List.mem_cons_of_mem _ (i2 g e)
theorem vt.some_of{v:V}{o:Option Value}(r:vt (some v) o):∃ u,o=some u/\RelV v u:=by
 cases o with
 | none=>exact(show False from r).elim
 | some u=>exact⟨u,rfl,r⟩
theorem yK{v:V}{u:Value}(r:RelV v u):W.handedIn u=true:=by
 cases v with
 | non=>cases (show u=Value.none from r);rfl
 | bl b=>cases (show u=Value.bool b from r);rfl
 | int i=>obtain⟨t,e⟩:=(show ∃ t,u=Value.int i t from r);cases e;rfl
 | str x=>obtain⟨t,e⟩:=(show ∃ t,u=Value.str x t from r);cases e;rfl
 | byt b=>obtain⟨t,e⟩:=(show ∃ t,u=Value.bytes b t from r);cases e;rfl
 | flt b=>obtain⟨t,e⟩:=(show ∃ t,u=Value.float b t from r);cases e;rfl
 | ref a=>cases (show u=Value.ref a from r);rfl
 | ty n=>cases (show u=Value.type n from r);rfl
section
variable {P:Program}{w:World}{H H':Hp}{h h':Heap}{a C dx:Addr}{fs fs':List (Str×V)}
end
def gh(K:FG)(C:Addr)(f:Str):Prop:=W.findIn K (.ref C) f=some none
section
variable {X:Cx}{pins:PN}{σ:St}{H:Hp}{s:Shared}{a C dx:Addr}{fs:List (Str×V)}{f:Str}{v:V}{A:Around}{E:VP}
theorem aek{prog:Program}{w:World}{env:Env}{e:Expr}{f:Str}{pos:Pos}{s:Shared}{Q:VP}(hb:attributeBase e f env (eval e env)=eval e env)
  (h:wpAny (model prog w) A (eval e env) (λ o s₁=>wpAny (model prog w) A (getAttr o f true) Q E s₁) E s):wpAny (model prog w) A (eval (.Attribute e f pos) env) Q E s:=
 Attribute_any_ h (by rw[arm_eval_Attribute,hb])
end
section
variable {X:Cx}{o e value:Expr}{f:Str}{pos pos' tpos:Pos}{ta tv:TE}
end
section
variable {X:Cx}{pins:PN}{σ:St}{H:Hp}{s:Shared}{A:Around}{E:VP}{Q:VP}{c:Value}{b:Bool}
end
structure cY(k:Nat)(A:Around):Prop where
 hd:A.handled=none
 gd:A.guards=some []
 dp:A.depth+3 * k+5<recursionLimit
 un:A.units+16 * k+200<cLine
theorem cY.mono{j k:Nat}{A:Around}(r:cY k A)(h:j<=k):cY j A:=⟨r.hd,r.gd,by have:=r.dp;omega,by have:=r.un;omega⟩
theorem cY.deeper{k:Nat}{A:Around}(r:cY (k+1) A)(env:Env):cY k (A.deeper env):=
 ⟨r.hd,r.gd,by have:=r.dp;show A.depth+1+3 * k+5<_;omega,by have:=r.un;show A.units+3+16 * k+200<_;omega⟩
theorem cY.in1{k:Nat}{A:Around}(r:cY (k+1) A):cY k A.in1:=
 ⟨r.hd,r.gd,by have:=r.dp;show A.depth+3 * k+5<_;omega,by have:=r.un;show A.units+1+16 * k+200<_;omega⟩
theorem uF{A:Around}{C:Addr}{us:List Value}{kw:List (Str×Value)}:(A.under (.builtin "type.__call__" ⟨.ref C::us,kw⟩)).depth=A.depth+1:=by
 first | rfl | simp[Around.under,Code.weight,Code.isCreation,Code.isGuard,Code.isCaller,Code.frames,Code.isFrame,guardIds]
theorem ug{A:Around}{C:Addr}{us:List Value}{kw:List (Str×Value)}:(A.under (.builtin "type.__call__" ⟨.ref C::us,kw⟩)).units=A.units+1:=by
 first | rfl | simp[Around.under,Code.cUnits,Code.frames,Code.isFrame]
theorem cY.make{k:Nat}{A:Around}(r:cY (k+1) A)(C:Addr)(us:List Value)(kw:List (Str×Value)):cY k (A.under (.builtin "type.__call__" ⟨.ref C::us,kw⟩)):=
 ⟨r.hd,(by first | exact r.gd | (simpa [Around.under,Code.isGuard,Code.frames,Code.isFrame,guardIds] using r.gd)),by have:=r.dp;rw[uF];omega,by have:=r.un;rw[ug];omega⟩
theorem cY.depth{k:Nat}{A:Around}(r:cY k A):A.depth<recursionLimit:=by have:=r.dp;omega
theorem cY.units{k:Nat}{A:Around}(r:cY k A):A.units+64<cLine:=by have:=r.un;omega
def abV:TA:=λ _ H Q=>Q [] H
def n5(ta:TE)(tr:TA):TA:=λ σ H Q=>ta σ H λ x H1=>tr σ H1 λ xs H2=>Q (x::xs) H2
section
variable {X:Cx}{e:Expr}{es:List Expr}{te:TE}{t:TA}{pos:Pos}
theorem km:PA X [] abV:=λ _ _ _ _ H Q I h=>Calls.spliced_nil ⟨[],H,I,.nil,h⟩
theorem fL(ha:PE X e te)(hr:PA X es t)(hs:starEach (e::es) X.env=(false,eval e X.env)::starEach es X.env:=by rfl):PA X (e::es) (n5 te t):=by intro pos pins s σ H Q I h;rw[hs];show wpAny _ _ (spliced ((false,eval e X.env)::backTo pos (starEach es X.env))) _ _ s;refine Calls.spliced_cons (thn (ha pins s σ H _ I h) λ u s1 hq22=>?_);obtain⟨x,H1,I1,r1,q1⟩:=hq22;exact thn (hr pos pins s1 σ H1 _ I1 q1) λ us s2 ⟨xs,H2,I2,r2,q2⟩=>⟨x::xs,H2,I2,.cons r1 r2,q2⟩
def aiz(t:TA):TE:=λ σ H Q=>t σ H λ xs H1=>xs.length<=sizeLine/\∀ p,H1 p=none->Q (.ref p) (upd H1 p (.tup xs))
def ai7(t:TA):TE:=λ σ H Q=>t σ H λ xs H1=>xs.length<=sizeLine/\∀ p,H1 p=none->Q (.ref p) (upd H1 p (.lst xs))
theorem yr{x1}(h:PA X es t):PE X (.Tuple es x1 pos) (aiz t):=by intro pins s σ H Q I hq;refine wpAny_Tuple_spliced (thn (h pos pins s σ H _ I hq) λ us s1 ⟨xs,H1,I1,r,z,q⟩=>⟨by rw[<- r.length];exact z,?_⟩);have hf:H1 s1.heap.objs.size=none:=I1.hok.fresh (Nat.le_refl _);refine⟨.ref s1.heap.objs.size,upd H1 s1.heap.objs.size (.tup xs),I1.laid (t':=s1.toks) (λ b u e=>Heap.get?_push_of_some _ e) (Nat.le_refl _) ?_,rfl,q _ hf⟩;exact⟨z,us,r,abw.new _ _⟩
theorem abe(h:PA X es t):PE X (.List es pos) (ai7 t):=by intro pins s σ H Q I hq;refine wpAny_List_spliced (thn (h pos pins s σ H _ I hq) λ us s1 ⟨xs,H1,I1,r,z,q⟩=>⟨by rw[<- r.length];exact z,?_⟩);have hf:H1 s1.heap.objs.size=none:=I1.hok.fresh (Nat.le_refl _);refine⟨.ref s1.heap.objs.size,upd H1 s1.heap.objs.size (.lst xs),I1.laid (t':=s1.toks) (λ b u e=>Heap.get?_push_of_some _ e) (Nat.le_refl _) ?_,rfl,q _ hf⟩;exact⟨z,us,0,r,Heap.get?_push_size _ rfl⟩
end
abbrev Sp:=List V->Hp->VK->XK->Prop
abbrev CXT:=List Env->Hp->Shared->XK->VP
structure adm(P:Program)(w:World)(K:FG)(mg:Str->Option Value)(base:Heap)(A:Around)(outer:List Env)(s:Shared)(H:Hp):Prop where
 frames:A.frames=some outer
 mod:Mod K mg base
 bs:∀ b o,base.get? b=some o->s.heap.get? b=some o/\H b=none
 bsz:base.objs.size<=s.heap.objs.size
 nI:s.heap.FunFrames base outer
 frf:∀ b∈frs outer,H b=none
 hok:HOk P w H s.heap
 bare:AllBare s.gens
def CE(outer:List Env)(P:Program)(w:World)(H:Hp)(s:Shared)(Q:VK)(u:Value)(s':Shared):Prop:=
 ∃ v H',s'.os=s.os/\AllBare s'.gens/\Un (frs outer) [] H H' s.heap s'.heap/\HOk P w H' s'.heap/\RelV v u/\Q v H'
def CR(CX:CXT)(outer:List Env)(P:Program)(w:World)(H:Hp)(s:Shared)(Q:VK)(E:XK)(r:Result)(s':Shared):Prop:=
 match r with
 | .ok (.ret u)=>CE outer P w H s Q u s'
 | .ok _=>False
 | .error e=>CX outer H s E e s'
structure cy(P:Program)(w:World)(K:FG)(mg:Str->Option Value)(base:Heap)(CX:CXT)(k:Nat)(f:Addr)(fd:FuncData)(ps:List Str)(sp:Sp):Prop where
 len:∀ vs H Q E,sp vs H Q E->vs.length=ps.length
 run:∀ (A:Around) (outer:List Env) (s:Shared) (H:Hp) (args:Args) (us:List Value) (vs:List V) (Q:VK) (E:XK),cY k A->adm P w K mg base A outer s H->BindsTo s fd args (ps.zip us)->Vals vs us->sp vs H Q E ->
  codeAny (model P w) A (.call (.ref f) args) (CR CX outer P w H s Q E) s
theorem adm.make{P:Program}{w:World}{K:FG}{mg:Str->Option Value}{base:Heap}{A:Around}{outer:List Env}{s:Shared}{H:Hp}(e:adm P w K mg base A outer s H)(C:Addr)(us:List Value)(kw:List (Str×Value)) :
  adm P w K mg base (A.under (.builtin "type.__call__" ⟨.ref C::us,kw⟩)) outer s H:=⟨by first | exact e.frames | (simpa [Around.under,Code.envs,Code.isFrame,pushEnvs] using e.frames),e.mod,e.bs,e.bsz,e.nI,e.frf,e.hok,e.bare⟩
section
variable {X:Cx}{pins:PN}{σ:St}{H:Hp}{s s':Shared}
theorem Inv.ahh(I:Inv X pins σ H s):adm X.prog X.w X.K X.mg X.base X.A X.stack s H:=
 ⟨I.ok.frames,I.ok.mod,I.bs,Nat.le_trans I.ok.bsz I.sz,I.stack,I.mw,I.hok,I.bare⟩
theorem Inv.after{Q:VK}{u:Value}(I:Inv X pins σ H s)(h:CE X.stack X.prog X.w H s Q u s'):EP X pins σ Q u s':=by obtain⟨v,H',os,bare,un,hok,r,q⟩:=h;obtain⟨hh,g,d,t,os'⟩:=s';obtain rfl:os'=s.os:=os;exact⟨v,H',I.call (h':=hh) (g':=g) (d':=d) (t':=t) (ch:=[]) un hok bare (λ b z=>absurd z (by simp)),r,q⟩
end
def ah8(sp:Sp)(dvs:List V)(E:XK)(t:TA):TE:=λ σ H Q=>t σ H λ vs H1=>sp (vs++dvs) H1 Q E
def Binds(K:FG)(fd:FuncData)(ps:List Str)(ds:List Value):Prop:=
 ∀ (s:Shared) (us:List Value),K.In s.heap->(us++ds).length=ps.length->BindsTo s fd ⟨us,[]⟩ (ps.zip (us++ds))
theorem Binds.all{K:FG}{fd:FuncData}{ps:List Str}(h:∀ us:List Value,us.length=ps.length->bindArgs fd ⟨us,[]⟩=pure (ps.zip us)):Binds K fd ps []:=λ s us _ hl=>by rw[List.append_nil] at hl ⊢;exact .of_eq (h us hl)
def Passes(CX:CXT)(X:Cx)(E:XK):Prop:=∀ (pins:PN) (σ:St) (H:Hp) (s:Shared) (e:Value) (s':Shared),Inv X pins σ H s->CX X.stack H s E e s'->X.xe e s'
section
variable {X:Cx}{CX:CXT}{k:Nat}{f C:Addr}{fd:FuncData}{ps:List Str}{sp:Sp}{dvs:List V}{ds:List Value}{E:XK}{x m:Str}{p pos apos:Pos}{e o:Expr}{es:List Expr}{ta:TE}{t:TA}
theorem af6{pins:PN}{σ:St}{H:Hp}{s:Shared}{Q:VK}{us:List Value}{vs:List V}(F:cy X.prog X.w X.K X.mg X.base CX k f fd ps sp)(hr:cY k X.A)(hb:Binds X.K fd ps ds)(hd:Vals dvs ds)(hx:Passes CX X E)
  (I:Inv X pins σ H s)(r:Vals vs us)(h:sp (vs++dvs) H Q E):wpAny (model X.prog X.w) X.A (call (.ref f) us) (EP X pins σ Q) X.xe s:=by
 have r2:Vals (vs++dvs) (us++ds):=r.append hd;have hl:(us++ds).length=ps.length:=by rw[<- r2.length];exact F.len _ _ _ _ h
 refine wpAny_call (codeAny_mono (F.run X.A X.stack s H ⟨us,[]⟩ (us++ds) (vs++dvs) Q E hr I.ahh (hb s us I.kIn hl) r2 h) λ r s' hq=>?_);cases r with
 | error e=>exact hx pins σ H s e s' I hq
 | ok fl =>
  cases fl with
  | ret u=>exact I.after hq
  | next=>exact False.elim hq
  | brk=>exact False.elim hq
  | cont=>exact False.elim hq
theorem xU(F:cy X.prog X.w X.K X.mg X.base CX k f fd ps sp)(hr:cY k X.A)(hg:Gl X x)(hm:X.mg x=some (.ref f))(hk:W.keepIn X.K (.ref f)=true)(hb:Binds X.K fd ps ds)(hd:Vals dvs ds)(hx:Passes CX X E)
  (ha:PA X (e::es) t)(hdb:ND x:=by decide)(he:starEach (e::es) X.env=(false,eval e X.env)::starEach es X.env:=by rfl)(hpl:(backTo pos (starEach es X.env)).any (·.1)=false:=by rfl) :
  PE X (.Call (.Name x p) (e::es) [] pos) (ah8 sp dvs E t):=by
 intro pins s σ H Q I h;refine wpAny_Call_Name_kw (jE I hg hm ?_ hdb);refine W.callWith_K (h₀:=X.base) I.ok.mod.kin hk (thn (ha pos pins s σ H _ I h) λ us s1 ⟨vs,H1,I1,r,q⟩=>⟨I1.kIn,?_⟩) he hpl;exact af6 F hr hb hd hx I1 r q
end
def PK(X:Cx)(kws:List Keyword)(t:TA):Prop:=
 ∀ (pos:Pos) (pins:PN) (s:Shared) (σ:St) (H:Hp) (Q:List V->Hp->Prop),Inv X pins σ H s->t σ H Q->wpAny (model X.prog X.w) X.A (evalAll ((backToKw pos (keywordEach kws X.env)).map (·.2))) (AP X pins σ Q) X.xe s
section
variable {X:Cx}{CX:CXT}{k:Nat}{f C:Addr}{fd:FuncData}{ps ks:List Str}{sp:Sp}{E:XK}{x m:Str}{p pos apos kpos:Pos}{e o:Expr}{es:List Expr}{kws:List Keyword}{te ta:TE}{t tk:TA}{nm:Option Str}
theorem ab3:PK X [] abV:=λ _ _ _ _ H Q I h=>wpAny_evalAll_nil ⟨[],H,I,.nil,h⟩
theorem yC(ha:PE X e te)(hr:PK X kws t):PK X (⟨nm,e,kpos⟩::kws) (n5 te t):=by intro pos pins s σ H Q I h;show wpAny _ _ (evalAll ((do let v <- eval e X.env;standAt pos;pure v)::(backToKw pos (keywordEach kws X.env)).map (·.2))) _ _ s;refine wpAny_evalAll_cons (wpAny_bind (thn (ha pins s σ H _ I h) λ u s1 ⟨x,H1,I1,r1,q1⟩=>wpAny_bind (wpAny_standAt (wpAny_pure ?_))));exact thn (hr pos pins s1 σ H1 _ I1 q1) λ us s2 ⟨xs,H2,I2,r2,q2⟩=>⟨x::xs,H2,I2,.cons r1 r2,q2⟩
variable {g:List Value->List Value->List Value}{gV:List V->List V->List V}
end
structure aH(N P:List Str)(sc:Scope):Prop where
 kind:sc.kind=.function
 co:sc.isCoroutine=false
 gen:sc.isGenerator=false
 nd:N.Nodup
 pre:N.take P.length=P
 par:∀ x∈P,sc.names.lookup x=some .local\/sc.names.lookup x=some .cell
 nofree:∀ y∈sc.names,y.2 ≠ .free
theorem qj{kindOf:Str->Option NameKind}{x:Str}:∀ {binds:List (Str×Value)} {m:Str->Option Value},(∀ v,(x,v) ∉ binds)->bindL kindOf binds m x=m x
 | [],_,_=>rfl
 | (n,v)::r,m,h=>by
  unfold bindL;rw[qj λ w hw=>h w (List.mem_cons_of_mem _ hw)]
  split
  ·have:x≠n:=by rintro rfl;exact h v List.mem_cons_self
   simp[this]
  ·rfl
theorem pB{kindOf:Str->Option NameKind}{x:Str}:∀ {binds:List (Str×Value)} {m:Str->Option Value},(∀ v,(x,v) ∉ binds)->bindC kindOf binds m x=m x
 | [],_,_=>rfl
 | (n,v)::r,m,h=>by
  unfold bindC;rw[pB λ w hw=>h w (List.mem_cons_of_mem _ hw)]
  split
  ·rfl
  ·have:x≠n:=by rintro rfl;exact h v List.mem_cons_self
   simp[this]
theorem oJ{kindOf:Str->Option NameKind}{x:Str}{v:Value}:∀ {P:List Str} {vs:List Value} {i:Nat} {m:Str->Option Value},P.Nodup->P[i]? =some x->vs[i]? =some v->kindOf x=some .local ->
  bindL kindOf (P.zip vs) m x=some v
 | [],_,_,_,_,h,_,_=>by simp at h
 | _::_,[],_,_,_,_,h,_=>by simp at h
 | p::P,w::vs,0,m,nd,h1,h2,hk=>by simp at h1 h2;subst h1;subst h2;show bindL kindOf ((p,w)::P.zip vs) m p=_;unfold bindL;rw[qj λ v hv=>(List.nodup_cons.mp nd).1 (List.of_mem_zip hv).1,if_pos hk];simp
 | p::P,w::vs,i+1,m,nd,h1,h2,hk=>by show bindL kindOf ((p,w)::P.zip vs) m x=_;unfold bindL;exact oJ (i:=i) (List.nodup_cons.mp nd).2 (by simpa using h1) (by simpa using h2) hk
theorem oy{kindOf:Str->Option NameKind}{x:Str}{v:Value}:∀ {P:List Str} {vs:List Value} {i:Nat} {m:Str->Option Value},P.Nodup->P[i]? =some x->vs[i]? =some v->kindOf x≠some .local ->
  bindC kindOf (P.zip vs) m x=some v
 | [],_,_,_,_,h,_,_=>by simp at h
 | _::_,[],_,_,_,_,h,_=>by simp at h
 | p::P,w::vs,0,m,nd,h1,h2,hk=>by simp at h1 h2;subst h1;subst h2;show bindC kindOf ((p,w)::P.zip vs) m p=_;unfold bindC;rw[pB λ v hv=>(List.nodup_cons.mp nd).1 (List.of_mem_zip hv).1,if_neg hk];simp
 | p::P,w::vs,i+1,m,nd,h1,h2,hk=>by show bindC kindOf ((p,w)::P.zip vs) m x=_;unfold bindC;exact oy (i:=i) (List.nodup_cons.mp nd).2 (by simpa using h1) (by simpa using h2) hk
def start(N:List Str)(vs:List V):St:=vs.map some++List.replicate (N.length-vs.length) none
def uV(CX:CXT)(P:Program)(w:World)(K:FG)(mg:Str->Option Value)(base:Heap)(N:List Str)(qual:Str)(scope:Scope)(f:Addr)(cd:Value)(A:Around)(outer:List Env)(s:Shared)(H:Hp)(E:XK):Cx where
 prog:=P
 w:=w
 K:=K
 mg:=mg
 base:=base
 A:=A.deeper (envOfC qual scope s.heap.objs.size f cd)
 N:=N
 s₀:=s
 H₀:=H
 env:=envOfC qual scope s.heap.objs.size f cd
 outer:=outer
 stack:=envOfC qual scope s.heap.objs.size f cd::outer
 ex:=[]
 calm:=true
 fn:=λ _=>true
 pn:=[]
 xe:=λ e s'=>wpAny (model P w) (A.deeper (envOfC qual scope s.heap.objs.size f cd)) (leaving (envOfC qual scope s.heap.objs.size f cd) e) (λ _ s''=>CX outer H s E e s'') (λ e' s''=>CX outer H s E e' s'') s'
theorem sR{sc:Scope}{n:Nat}{x:Str}(h:sc.names.lookup x=some .cell):∃ c,(cellsFrom n sc.names []).lookup x=some c:=by have q:=W.cellsFrom_some sc.names n [] (.inl h);exact Option.isSome_iff_exists.mp q
theorem wD{CX:CXT}{P:Program}{w:World}{K:FG}{mg:Str->Option Value}{base:Heap}{N ps:List Str}{qual:Str}{scope:Scope}{f:Addr}{cd:Value}{A:Around}{outer:List Env}{s s1:Shared}{H:Hp}{E:XK}{us:List Value}{vs:List V}
  (S:aH N ps scope)(hd:A.handled=none)(e0:adm P w K mg base A outer s H)(hl:vs.length=ps.length)(r:Vals vs us)
  (x:InCallC s s.heap.objs.size (bindL (envOfC qual scope s.heap.objs.size f cd).kindOf (ps.zip us) λ _=>none) (cellsFrom (s.heap.objs.size+1) scope.names []) (bindC (envOfC qual scope s.heap.objs.size f cd).kindOf (ps.zip us) λ _=>none) s1) :
  Inv (uV CX P w K mg base N qual scope f cd A outer s H E) [] (start N vs) H s1:=by
 have hpl:ps.length<=N.length:=by have:=congrArg List.length S.pre;rw[List.length_take] at this;omega
 obtain⟨h1,tk,rfl,hk⟩:=x.done;have noA:∀ b:Addr,b ∉ (uV CX P w K mg base N qual scope f cd A outer s H E).ex:=λ b z=>absurd (show b∈([]:List Addr) from z) (by simp);refine⟨⟨e0.mod,S.kind,rfl,rfl,Nat.le_refl _,λ y z c h1 h2=>?_,λ y hy=>?_,λ y c _ h=>?_,λ _=>hd,Around.frames_deeper e0.frames,.inr ⟨rfl,rfl⟩,λ b z=>absurd z (noA b),e0.bs,e0.bsz,λ b _ _=>noA b,λ b z=>absurd z (noA b),e0.nI,e0.frf⟩,
  rfl,e0.bare,Un.kept hk,⟨_,x.toInCall.ns,λ i y v h1 h2 h3=>?_⟩,λ y c h=>⟨_,x.cell y c h⟩,e0.hok.fresh (Nat.le_refl _),λ y c h=>?_,λ p hp=>absurd (show p∈([]:PN) from hp) (by simp),e0.hok.kept hk,?_⟩
 ·exact name_of_addr x.apart (PySem.mem_of_lookup h1) (PySem.mem_of_lookup h2)
 ·have hy:scope.names.lookup y=some .cell\/scope.names.lookup y=some .free:=hy;rcases hy with hy | hy
  ·exact sR hy
  ·exact absurd rfl (S.nofree _ (PySem.mem_of_lookup hy))
 ·exact Nat.le_of_lt (x.above y c (PySem.mem_of_lookup h))
 ·have hi:i<vs.length:=by
   unfold start at h2
   by_cases hi:i<vs.length
   ·exact hi
   ·rw[List.getElem?_append_right (by simpa using hi)] at h2;rw[List.getElem?_replicate] at h2
    split at h2<;>cases h2
  have ha:vs[i]? =some v:=by
   unfold start at h2;rw[List.getElem?_append_left (by simpa using hi),List.getElem?_map] at h2;cases e:vs[i]? with
   | none=>rw[e] at h2;cases h2
   | some a=>rw[e] at h2;cases h2;rfl
  obtain⟨u,hu,rv⟩:=r.get ha;have hp:ps[i]? =some y:=by rw[<- S.pre,List.getElem?_take_of_lt (by omega)];exact h1
  have ndP:ps.Nodup:=by rw[<- S.pre];exact S.nd.sublist (List.take_sublist _ _)
  refine⟨u,rv,?_⟩;rcases S.par y (List.mem_of_getElem? hp) with k | k
  ·exact .inl ⟨k,oJ ndP hp hu k⟩
  ·obtain⟨c,e⟩:=sR (n:=s.heap.objs.size+1) k;refine .inr ⟨.inl k,c,e,?_⟩;have q:=x.cell y c e;rw[oy ndP hp hu (by show scope.names.lookup y≠_;rw[k];decide)] at q;exact q
 ·exact e0.hok.fresh (Nat.le_of_lt (x.above y c (PySem.mem_of_lookup h)))
 ·unfold start;show _=N.length;rw[List.length_append,List.length_map,List.length_replicate];omega
theorem aap{CX:CXT}{P:Program}{w:World}{K:FG}{mg:Str->Option Value}{base:Heap}{k:Nat}{f:Addr}{name qual:Str}{params:Arguments}{body:List Stmt}{scope:Scope}{dV kV doc pm cdv ct oc:Value}{an od:Option Addr}
  {osl:Array (Option Value)}{N ps:List Str}{sp:Sp}(lk:K.lookup f=some ⟨oc,od,.func (W.fnOf name qual params body scope dV kV doc pm an cdv ct),osl⟩)(hcd:W.codeIn K cdv qual=true)(S:aH N ps scope)
  (len:∀ vs H Q E,sp vs H Q E->vs.length=ps.length)
  (hbody:∀ (A:Around) (outer:List Env) (s:Shared) (H:Hp) (vs:List V) (Q:VK) (E:XK),cY k (A.deeper (envOfC qual scope s.heap.objs.size f cdv))->sp vs H Q E ->
   ∃ t,PSs (uV CX P w K mg base N qual scope f cdv A outer s H E) body t/\t {nx:=λ _ H'=>Q .non H',rt:=Q} (start N vs) H) :
  cy P w K mg base CX (k+1) f (W.fnOf name qual params body scope dV kV doc pm an cdv ct) ps sp:=by
 refine⟨len,λ A outer s H args us vs Q E hr e0 hb r hsp=>?_⟩;have hl:=len _ _ _ _ hsp;have KX:K.In s.heap:=e0.mod.kin.keeps λ b o e=>(e0.bs b o e).1;have lim:s.heap.NoLimit:=e0.mod.nolimit.keeps λ b o e=>(e0.bs b o e).1;have hkind:∀ y∈ps.zip us,scope.names.lookup y.1=some .local\/(scope.names.lookup y.1=some .cell/\((cellsFrom (s.heap.objs.size+1) scope.names []).lookup y.1).isSome=true):=λ⟨n,v⟩ hy=>by
  rcases S.par n (List.of_mem_zip hy).1 with q | q
  ·exact .inl q
  ·exact .inr ⟨q,W.cellsFrom_some _ _ _ (.inl q)⟩
 refine codeAny_call_function hr.depth (KX _ _ lk) rfl S.co S.gen rfl (W.codeRec_of KX hcd) (hb _ _ _ _ ?_);refine wpAny_newFunctionEnv_cells S.kind hkind λ env he s1 x=>?_;subst he;refine⟨lim.keeps x.toInCall.keep,codeAny_func ?_⟩;obtain⟨t,ht,hq⟩:=hbody A outer s H vs Q E (hr.deeper _) hsp;have I:Inv (uV CX P w K mg base N qual scope f cdv A outer s H E) [] (start N vs) H s1:=wD S hr.hd e0 hl r x;refine wpAny_mono (ht [] s1 (start N vs) H _ I hq) (λ fl s' hs=>?_) λ e s' hs=>hs;have fin:∀ {σ':St} {H':Hp} {v:V} {u:Value},Inv (uV CX P w K mg base N qual scope f cdv A outer s H E) [] σ' H' s'->RelV v u->Q v H'->CE outer P w H s Q u s':=
  λ {σ' H' v u} J rv q=>⟨v,H',J.os,J.bare,J.base,J.hok,rv,q⟩
 cases fl with
 | ret u =>
  obtain⟨v,σ',H',J,rv,q⟩:=hs;exact fin J rv q
 | next =>
  obtain⟨σ',H',J,q⟩:=hs;exact fin (v:=V.non) (u:=Value.none) J rfl q
 | brk =>
  obtain⟨_,_,_,q⟩:=hs;exact False.elim q
 | cont =>
  obtain⟨_,_,_,q⟩:=hs;exact False.elim q
section
variable {X:Cx}{x:Str}{p pos:Pos}{e:Expr}{es:List Expr}{t:TA}{id T:String}{r:List V->Hp->VK->Prop}
def tCB(r:List V->Hp->VK->Prop)(t:TA):TE:=λ σ H Q=>t σ H λ vs H1=>r vs H1 Q
theorem nD(hc:dk X (.builtin id) r)(hg:Gl X x)(hm:X.mg x=none)(hv:bootBuiltins x=some (.builtin id))(ha:PA X (e::es) t)(hn:x ≠ "__name__":= by decide)(hdb:ND x:=by decide)
  (he:starEach (e::es) X.env=(false,eval e X.env)::starEach es X.env:=by rfl)(hpl:(backTo pos (starEach es X.env)).any (·.1)=false:=by rfl):PE X (.Call (.Name x p) (e::es) [] pos) (tCB r t):=by
 intro pins s σ H Q I h;refine wpAny_Call_Name_kw (fD I hg hm hv ?_ hn hdb);exact PyProof.Rows.callWith_builtin1 (thn (ha pos pins s σ H _ I h) λ us s1 ⟨vs,H1,I1,r1,q1⟩=>hc pins s1 σ H1 vs us Q I1 r1 q1) he hpl
theorem wm(hc:dk X (.type T) r)(hg:Gl X x)(hm:X.mg x=none)(hv:bootBuiltins x=some (.type T))(ha:PA X (e::es) t)(hn:x ≠ "__name__":= by decide)(hdb:ND x:=by decide)
  (he:starEach (e::es) X.env=(false,eval e X.env)::starEach es X.env:=by rfl)(hpl:(backTo pos (starEach es X.env)).any (·.1)=false:=by rfl):PE X (.Call (.Name x p) (e::es) [] pos) (tCB r t):=by
 intro pins s σ H Q I h;refine wpAny_Call_Name_kw (fD I hg hm hv ?_ hn hdb);exact PyProof.Rows.callWith_type1 (thn (ha pos pins s σ H _ I h) λ us s1 ⟨vs,H1,I1,r1,q1⟩=>hc pins s1 σ H1 vs us Q I1 r1 q1) he hpl
end
end L2
namespace HT
open PySem PyProof.Rows
section
open PySem.SeqAt
open PySem.AutoSeq1 (wpAny_loadPart')
open PySem.MeetsSeq PySem.MeetsSeq2 PySem.MeetsSeq3
end
section
variable {prog:Program}{w:World}{A:Around}{E:VP}{s:Shared}
def sIx(n d:Nat):Option Int->Nat
 | none=>d
 | some v=>if v<0 then (v+(n:Int)).toNat else min v.toNat n
theorem adI(n d k:Nat):sIx n d (some (k:Int))=min k n:=by show(if (k:Int)<0 then ((k:Int)+(n:Int)).toNat else min (k:Int).toNat n)=min k n;rw[if_neg (by omega),Int.toNat_natCast]
theorem aeM(n d:Nat)(hd:d<=n)(o:Option Int):sIx n d o<=n:=by
 cases o with
 | none=>exact hd
 | some v =>
  show(if v<0 then (v+(n:Int)).toNat else min v.toNat n)<=n
  by_cases hv:v<0
  ·rw[if_pos hv];omega
  ·rw[if_neg hv];exact Nat.min_le_right _ _
theorem wG(v:Int)(n d:Nat):(if v<0 then max (v+(n:Int)) 0 else min v (n:Int))=((sIx n d (some v):Nat):Int):=by
 show(if v<0 then max (v+(n:Int)) 0 else min v (n:Int))=(((if v<0 then (v+(n:Int)).toNat else min v.toNat n):Nat):Int)
 by_cases hv:v<0
 ·simp only[if_pos hv];omega
 ·simp only[if_neg hv];omega
theorem uI(lo hi:Option Int)(n:Nat):Builtin.Slice.sliceAdjust lo hi 1 (n:Int)=(((sIx n 0 lo:Nat):Int),((sIx n n hi:Nat):Int)):=by
 have h1:¬ ((1:Int)<0):=by omega
 unfold Builtin.Slice.sliceAdjust;simp only[h1,if_false];refine Prod.ext ?_ ?_
 ·cases lo with
  | none=>rfl
  | some v=>exact wG v n 0
 ·cases hi with
  | none=>rfl
  | some v=>exact wG v n n
theorem uU(i j:Nat):Builtin.Slice.slicePlaces (i:Int) (j:Int) 1=j-i:=by
 unfold Builtin.Slice.slicePlaces;have h1:(1:Int) > 0:=by omega
 simp only[h1,if_true,Int.ediv_one]
 split<;>omega
theorem lV{v:Value}{o:Option Int}{Q:Option Int->Shared->Prop}(p:IsPart v o)(h:Q o s):wpAny (model prog w) A (Builtin.Slice.slicePartIndex v) Q E s:=by
 cases p with
 | none=>exact slicePart_none h
 | int i t=>exact slicePart_int h
theorem jg{sl:Addr}{vl vu:Value}{lo hi:Option Int}{n:Nat}{Q:Int×Int×Nat->Shared->Prop}(hs:s.heap.IsSliceOf sl vl vu .none)(pl:IsPart vl lo)(pu:IsPart vu hi)
  (h:Q (((sIx n 0 lo:Nat):Int),1,sIx n n hi-sIx n 0 lo) s):wpAny (model prog w) A (Builtin.Slice.sliceApplied (.ref sl) (pure (n:Int))) Q E s:=by
 obtain⟨os,hos,hcs,hds⟩:=id hs;unfold Builtin.Slice.sliceApplied Builtin.Slice.sliceFields;refine wpAny_bind (wpAny_bind (wpAny_field hos hds (x:=vl) rfl (wpAny_bind (wpAny_field hos hds (x:=vu) rfl (wpAny_bind (wpAny_field hos hds (x:=.none) rfl (wpAny_pure ?_)))))));refine wpAny_bind (slicePart_none ?_);show wpAny _ _ (if ((1:Int)==0)=true then _ else _) _ _ s;rw[if_neg (by decide)];refine wpAny_bind (lV pl (wpAny_bind (lV pu (wpAny_bind (wpAny_pure ?_)))));show wpAny _ _ (match Builtin.Slice.sliceAdjust lo hi 1 (n:Int) with | (lo,hi)=>pure (lo,(1:Int),Builtin.Slice.slicePlaces lo hi 1)) _ _ s
 rw[uI lo hi n];show wpAny _ _ (pure (((sIx n 0 lo:Nat):Int),(1:Int),Builtin.Slice.slicePlaces ((sIx n 0 lo:Nat):Int) ((sIx n n hi:Nat):Int) 1)) _ _ s;rw[uU];exact wpAny_pure h
theorem aai(xs:Array Value)(i k:Nat):((List.range k).filterMap λ(m:Nat)=>xs[((i:Int)+(m:Int) * 1).toNat]?).toArray=((xs.toList.drop i).take k).toArray:=by
 have e:(λ(m:Nat)=>xs[((i:Int)+(m:Int) * 1).toNat]?)=λ m=>xs[i+m]?:=by
  funext m;have:((i:Int)+(m:Int) * 1).toNat=i+m:=by omega
  rw[this]
 rw[e];have:=pick_run xs i k;rw[List.filterMap_map] at this;have e2:((λ x=>xs[x]?) ∘ λ x=>i+x)=λ m=>xs[i+m]?:=rfl;rw[e2] at this;rw[this]
theorem iK{t sl:Addr}{items:Array Value}{vl vu:Value}{lo hi:Option Int}{Q:VP}(ht:IsTup s.heap t items)(hs:s.heap.IsSliceOf sl vl vu .none)(pl:IsPart vl lo)(pu:IsPart vu hi)
  (hw:¬ (sIx items.size 0 lo=0/\sIx items.size items.size hi=items.size))
  (h:Q (.ref s.heap.objs.size) {s with heap:=s.heap.push {cls:=.type "tuple",data:=.seq ((items.toList.drop (sIx items.size 0 lo)).take (sIx items.size items.size hi-sIx items.size 0 lo)).toArray}})
  (hsz:items.size<=sizeLine):wpAny (model prog w) A (getItem (.ref t) (.ref sl)) Q E s:=by
 have htake:sizeOk (.seq ((items.toList.drop (sIx items.size 0 lo)).take (sIx items.size items.size hi-sIx items.size 0 lo)).toArray):=by show((items.toList.drop (sIx items.size 0 lo)).take (sIx items.size items.size hi-sIx items.size 0 lo)).toArray.size<=sizeLine;rw[List.size_toArray,List.length_take,List.length_drop,Array.length_toList];omega
 have hj:sIx items.size items.size hi<=items.size:=aeM _ _ (Nat.le_refl _) hi;obtain⟨os,hos,hcs,hds⟩:=id hs;have hTs:s.TypeIs (.ref sl) "slice":= ⟨os,hos,hcs⟩;unfold getItem
 try with_reducible refine wpAny_holding ?_
 first | refine wpAny_bind (wpAny_pure ?_) | skip
 refine wpAny_bind (wpAny_sequenceKey ht.typeIs (by decide) ?_);refine wpAny_bind (wpAny_callSpecial?_slot (name:=Str.ofString "__getitem__") ht.typeIs PyProof.Rows.slot_tuple_getitem
  (wpAny_call_entry PyProof.Rows.slot_tuple_getitem ht.typeIs entry_tuple_getitem ?_ (args_tuple_getitem _ _)))
 show wpAny _ _ (Builtin.Tuple.tupleItemsOf (.ref t) >>= _) _ _ s;refine wpAny_bind (tupleItemsOf_ ht ?_);refine wpAny_bind (wpAny_typeOf hTs ?_);rw[if_pos (by decide)];refine wpAny_bind (jg hs pl pu ?_);have hno:¬ ((((sIx items.size 0 lo:Nat):Int)==0&&(1:Int)==1&&(sIx items.size items.size hi-sIx items.size 0 lo)==items.size)=true):=by intro q;rw[Bool.and_eq_true,Bool.and_eq_true] at q;have q1:((sIx items.size 0 lo:Nat):Int)=0:=eq_of_beq q.1.1;have q2:sIx items.size items.size hi-sIx items.size 0 lo=items.size:=eq_of_beq q.2;exact hw ⟨by omega,by omega⟩
 show wpAny _ _ (if (((sIx items.size 0 lo:Nat):Int)==0&&(1:Int)==1&&(sIx items.size items.size hi-sIx items.size 0 lo)==items.size)=true then _ else _) _ _ s;rw[if_neg hno,aai]
 first
  | exact wpAny_bind (m:=Builtin.Tuple.tupleExact _) (wpAny_newObj_type (wpAny_pure ⟨_,rfl,wpAny_pure h⟩) htake)
  | exact wpAny_bind (m:=Builtin.Tuple.tupleExact _) (wpAny_newObj_type (wpAny_bind (wpAny_pure (wpAny_pure ⟨_,rfl,wpAny_pure h⟩))) htake)
  | exact wpAny_bind (wpAny_bind (m:=Builtin.Tuple.tupleExact _) (wpAny_newObj_type (wpAny_pure (wpAny_pure ⟨_,rfl,wpAny_pure h⟩)) htake))
  | exact wpAny_bind (wpAny_bind (m:=Builtin.Tuple.tupleExact _) (wpAny_newObj_type (wpAny_pure ⟨_,rfl,wpAny_pure h⟩) htake))
end
end HT
namespace L2
abbrev TO:=St->Hp->(Option Int->Hp->Prop)->Prop
def PO(X:Cx)(e:Option Expr)(t:TO):Prop:=
 ∀ (pins:PN) (s:Shared) (σ:St) (H:Hp) (Q:Option Int->Hp->Prop),Inv X pins σ H s->t σ H Q ->
  wpAny (model X.prog X.w) X.A (evalPart e X.env) (λ u s'=>∃ o H',Inv X pins σ H' s'/\IsPart u o/\Q o H') X.xe s
def acI:TO:=λ _ H Q=>Q none H
def ahK(t:TE):TO:=λ σ H Q=>t σ H λ x H1=>∃ i,x=.int i/\Q (some i) H1
section
variable {X:Cx}{e:Expr}{te:TE}{lo hi:Option Expr}{tl th:TO}{pos p2:Pos}
theorem acf:PO X none acI:=by intro pins s σ H Q I h;rw[evalPart_none];exact wpAny_pure ⟨none,H,I,.none,h⟩
theorem ac7(h:PE X e te):PO X (some e) (ahK te):=by intro pins s σ H Q I hw;rw[evalPart_some];refine thn (h pins s σ H _ I hw) λ u s1 hq23=>?_;obtain⟨x,H1,I1,r1,q1⟩:=hq23;obtain⟨i,rfl,q⟩:=q1;obtain⟨t,rfl⟩:=r1;exact⟨some i,H1,I1,.int i t,q⟩
def SlR(X:Cx)(r:V->Option Int->Option Int->Hp->VK->Prop):Prop:=
 ∀ (pins:PN) (s:Shared) (σ:St) (H:Hp) (x:V) (v vl vu:Value) (lo hi:Option Int) (sl:Addr) (Q:VK),Inv X pins σ H s->RelV x v->s.heap.IsSliceOf sl vl vu .none->IsPart vl lo->IsPart vu hi->r x lo hi H Q ->
  ∃ T id,typeLookup (.type T) "__getitem__" = pure (some (.builtin id))/\s.TypeIs v T/\wpAny (model X.prog X.w) X.A (getItem v (.ref sl)) (EP X pins σ Q) X.xe s
theorem SlR.or{r r':V->Option Int->Option Int->Hp->VK->Prop}(h:SlR X r)(h':SlR X r'):SlR X (λ x lo hi H Q=>r x lo hi H Q\/r' x lo hi H Q):=by
 intro pins s σ H x v vl vu lo hi sl Q I rx hs pl pu q;rcases q with q | q
 ·exact h pins s σ H x v vl vu lo hi sl Q I rx hs pl pu q
 ·exact h' pins s σ H x v vl vu lo hi sl Q I rx hs pl pu q
def tSl(r:V->Option Int->Option Int->Hp->VK->Prop)(te:TE)(tl th:TO):TE:=λ σ H Q=>te σ H λ x H1=>tl σ H1 λ l H2=>th σ H2 λ u H3=>r x l u H3 Q
theorem aaX{r:V->Option Int->Option Int->Hp->VK->Prop}(hr:SlR X r)(he:PE X e te)(hl:PO X lo tl)(hu:PO X hi th):PE X (.Subscript e (.Slice lo hi none p2) pos) (tSl r te tl th):=by intro pins s σ H Q I h;refine Subscript_ (thn (he pins s σ H _ I h) λ v s1 hq24=>?_);obtain⟨x,H1,I1,r1,q1⟩:=hq24;refine wpAny_Slice (thn (hl pins s1 σ H1 _ I1 q1) λ vl s2 ⟨l,H2,I2,pl,q2⟩=>thn (hu pins s2 σ H2 _ I2 q2) λ vu s3 hq25=>?_);obtain⟨u,H3,I3,pu,q3⟩:=hq25;rw[evalPart_none];refine wpAny_pure ?_;have I4:Inv X pins σ H3 {s3 with heap:=s3.heap.push {cls:=.type "slice",data:=.fields #[vl,vu,.none]}}:=I3.kept (t':=s3.toks) λ b ob q=>Heap.get?_push_of_some _ q;obtain⟨T,id,hT,ht,hg⟩:=hr pins {s3 with heap:=s3.heap.push {cls:=.type "slice",data:=.fields #[vl,vu,.none]}} σ H3 x v vl vu l u s3.heap.objs.size Q I4 r1 (Heap.IsSliceOf.new ..) pl pu q3;show wpAny (model X.prog X.w) X.A (subscriptTail e (.Slice lo hi none p2) v (.ref s3.heap.objs.size)) (EP X pins σ Q) X.xe {s3 with heap:=s3.heap.push {cls:=.type "slice",data:=.fields #[vl,vu,.none]}};exact tail_any (ops:=[.ref s3.heap.objs.size,v]) ht hT hg (by with_unfolding_all rfl)
def ab0(xs:List V)(lo hi:Option Int):List V:=(xs.drop (HT.sIx xs.length 0 lo)).take (HT.sIx xs.length xs.length hi-HT.sIx xs.length 0 lo)
theorem jN(xs:List V)(lo hi:Option Int):(ab0 xs lo hi).length<=xs.length:=by
 unfold ab0;rw[List.length_take,List.length_drop];omega
def aiC(K:FG):V->Option Int->Option Int->Hp->VK->Prop:=λ x lo hi H Q=>∃ a xs,x=.ref a/\SqT K H a xs /\
 ¬ (HT.sIx xs.length 0 lo=0/\HT.sIx xs.length xs.length hi=xs.length)/\∀ p,H p=none->Q (.ref p) (upd H p (.tup (ab0 xs lo hi)))
theorem afJ:SlR X (aiC X.K):=by
 intro pins s σ H x v vl vu lo hi sl Q I rx hs pl pu h;obtain⟨a,xs,rfl,hx,hw,q⟩:=h;cases rx;obtain⟨its,r,ht,hz⟩:=I.tuple hx;have hlen:its.toArray.size=xs.length:=by rw[List.size_toArray];exact r.length.symm
 refine⟨"tuple",_,PyProof.Rows.slot_tuple_getitem.lookup,ht.typeIs,?_⟩;refine HT.iK ht hs pl pu (by rw[hlen];exact hw) ?_ (by rw[hlen];exact hz);rw[hlen];refine⟨.ref s.heap.objs.size,_,I.laid (t':=s.toks) (o:=.tup (ab0 xs lo hi)) (λ b ob q=>Heap.get?_push_of_some _ q) (Nat.le_refl _) ?_,rfl,q _ (I.hok.fresh (Nat.le_refl _))⟩;exact⟨Nat.le_trans (jN xs lo hi) hz,_,(r.drop (HT.sIx xs.length 0 lo)).take (HT.sIx xs.length xs.length hi-HT.sIx xs.length 0 lo),abw.new _ _⟩
end
def ixN(n:Nat)(i:Int):Option Nat:=if 0<=i then (if i<n then some i.toNat else none) else if -(n:Int)<=i then some (i+n).toNat else none
def atI{α:Type}(xs:List α)(i:Int):Option α:=(ixN xs.length i).bind λ j=>xs[j]?
theorem xV{n:Nat}{i:Int}{j:Nat}(h:ixN n i=some j):seqIndex? i n=some j/\j<n/\-(n:Int)<=i/\i<n:=by
 unfold ixN at h
 by_cases h0:0<=i
 ·rw[if_pos h0] at h
  by_cases h1:i<n
  ·rw[if_pos h1] at h;have e:i.toNat=j:=Option.some.inj h;exact⟨by rw[seqIndex_of h0 h1,e],by omega,by omega,h1⟩
  ·rw[if_neg h1] at h;cases h
 ·rw[if_neg h0] at h
  by_cases h1:-(n:Int)<=i
  ·rw[if_pos h1] at h;have e:(i+n).toNat=j:=Option.some.inj h;exact⟨by rw[seqIndex_neg (by omega) h1,e],by omega,h1,by omega⟩
  ·rw[if_neg h1] at h;cases h
theorem nJ{α:Type}{xs:List α}{i:Int}{v:α}(h:atI xs i=some v):∃ j,seqIndex? i xs.length=some j/\xs[j]? =some v/\j<xs.length/\-(xs.length:Int)<=i/\i<xs.length:=by
 unfold atI at h;cases e:ixN xs.length i with
 | none=>rw[e] at h;cases h
 | some j =>
  rw[e] at h;obtain⟨h1,h2,h3,h4⟩:=xV e;exact⟨j,h1,h,h2,h3,h4⟩
def qK(b:Expr):Prop:=∀ o i,subscripted b false o i=operate [o,i] (getItem o i)
def IxR(X:Cx)(r:R2):Prop:=
 ∀ (value slice:Expr) (pins:PN) (s:Shared) (σ:St) (H:Hp) (x y:V) (v u:Value) (Q:VK),Inv X pins σ H s->RelV x v->RelV y u->r x y H Q ->
  subscripted slice false v u=operate [v,u] (getItem v u)->wpAny (model X.prog X.w) X.A (subscriptTail value slice v u) (EP X pins σ Q) X.xe s
def MtR(X:Cx)(id:String)(r:V->List V->Hp->VK->Prop):Prop:=
 ∀ (pins:PN) (s:Shared) (σ:St) (H:Hp) (x:V) (xs:List V) (v:Value) (us:List Value) (Q:VK),Inv X pins σ H s->RelV x v->Vals xs us->r x xs H Q ->
  wpAny (model X.prog X.w) X.A (call (.builtin id) (v::us)) (EP X pins σ Q) X.xe s
section
variable {X:Cx}{a b:Expr}{ta tb:TE}{pos:Pos}
theorem IxR.or{r r':R2}(h:IxR X r)(h':IxR X r'):IxR X (λ x y H Q=>r x y H Q\/r' x y H Q):=by
 intro value slice pins s σ H x y v u Q I rx ry q hs;rcases q with q | q
 ·exact h value slice pins s σ H x y v u Q I rx ry q hs
 ·exact h' value slice pins s σ H x y v u Q I rx ry q hs
theorem ahS{r:R2}(hr:IxR X r)(ha:PE X a ta)(hb:PE X b tb)(hs:qK b):PE X (.Subscript a b pos) (tOp r ta tb):=by intro pins s σ H Q I h;exact Subscript_ (ahH ha hb I h λ v u s2 x y H2 I2 rx ry q=>hr a b pins s2 σ H2 x y v u Q I2 rx ry q (hs _ _))
def ahY(K:FG):R2:=λ x y H Q=>∃ p xs i v,x=.ref p/\y=.int i/\SqL K H p xs/\atI xs i=some v/\Q v H
def aix(K:FG):R2:=λ x y H Q=>∃ p xs i v,x=.ref p/\y=.int i/\SqT K H p xs/\atI xs i=some v/\Q v H
def aiP:R2:=λ x y H Q=>∃ z i c,x=.str z/\y=.int i/\z.length<=sizeLine/\atI z.cps.toList i=some c/\Q (.str ⟨#[c]⟩) H
theorem adz:IxR X (ahY X.K):=by
 intro value slice pins s σ H x y v u Q I rx ry h hs;obtain⟨p,xs,i,z,rfl,rfl,hq,he,q⟩:=h;cases rx;obtain⟨t,rfl⟩:=ry;obtain⟨its,r,pl,hz⟩:=I.list hq;obtain⟨j,h1,h2,h3,h4,h5⟩:=nJ he;obtain⟨w,ew,rw'⟩:=r.get h2;have hl:=r.length;have hn:=lT;have fin:EP X pins σ Q w s:=⟨z,H,I,rw',q⟩
 by_cases h0:0<=i
 ·have hj:i.toNat=j:=by rw[seqIndex_of h0 h5] at h1;exact Option.some.inj h1
  exact item_listR pl.isList h0 (by omega) (by rw[hj];simpa using ew) fin hs
 ·have hj:(i+(its.toArray.size:Int)).toNat=j:=by rw[seqIndex_neg (by omega) h4] at h1;rw[List.size_toArray,<- hl];exact Option.some.inj h1
  exact subscriptTail_builtinR (x:=w) pl.isList.typeIs slot_list_getitem.lookup
   (wpAny_getItem_list_neg (Q:=λ r s'=>r=w/\EP X pins σ Q r s') pl.isList (by omega) (by rw[List.size_toArray]<;>omega) (by omega) (by rw[hj];simpa using ew) ⟨rfl,fin⟩) hs
theorem iZ:IxR X (aix X.K):=by
 intro value slice pins s σ H x y v u Q I rx ry h hs;obtain⟨p,xs,i,z,rfl,rfl,hq,he,q⟩:=h;cases rx;obtain⟨t,rfl⟩:=ry;obtain⟨its,r,pl,hz⟩:=I.tuple hq;obtain⟨j,h1,h2,h3,h4,h5⟩:=nJ he;obtain⟨w,ew,rw'⟩:=r.get h2;have hl:=r.length;have hn:=lT;have fin:EP X pins σ Q w s:=⟨z,H,I,rw',q⟩;exact subscriptTail_builtinR (x:=w) pl.typeIs slot_tuple_getitem.lookup
  (getItem_tuple (j:=j) (Q:=λ r s'=>r=w/\EP X pins σ Q r s') pl (by omega) (by omega) (by rw[List.size_toArray,<- hl];exact h1) (by simpa using ew) ⟨rfl,fin⟩) hs
theorem aeR:IxR X aiP:=by
 intro value slice pins s σ H x y v u Q I rx ry h hs;obtain⟨z,i,c,rfl,rfl,hz,he,q⟩:=h;obtain⟨t,rfl⟩:=rx;obtain⟨t',rfl⟩:=ry;obtain⟨j,h1,h2,h3,h4,h5⟩:=nJ he;have hl:z.cps.toList.length=z.length:=by simp[Str.length]
 rw[hl] at h1 h4 h5;have hn:=lT;exact tail_any (typeIs_str s z t) slot_str_getitem.lookup (getItem_str (c:=c) (by have e1:decide (i < -(2 ^ 63:Int))=false:=decide_eq_false (by omega);have e2:decide (i >= 2 ^ 63)=false:=decide_eq_false (by omega);rw[e1,e2,Bool.or_false]) (by rw[h1];simpa using h2) ⟨.str ⟨#[c]⟩,H,I.tok _,⟨_,rfl⟩,q⟩) hs
def rIx(K:FG):R2:=λ x y H Q=>ahY K x y H Q\/aix K x y H Q\/aiP x y H Q
theorem aY:IxR X (rIx X.K):=adz.or (iZ.or aeR)
theorem uz(its:List Value)(n j:Nat)(u:Value):Obj.mapSeq (·.setIfInBounds j u) {cls:=.type "list",data:=.seq its.toArray n}={cls:=.type "list",data:=.seq (its.set j u).toArray n}:=by simp[Obj.mapSeq]
theorem Inv.lst{pins:PN}{σ:St}{H:Hp}{s:Shared}{p:Addr}{xs:List V}(I:Inv X pins σ H s)(h:H p=some (.lst xs)) :
  ∃ (its:List Value) (n:Nat),Vals xs its/\s.heap.get? p=some {cls:=.type "list",data:=.seq its.toArray n}/\xs.length<=sizeLine:=by
 obtain⟨z,its,n,r,e⟩:=I.hok p _ h;exact⟨its,n,r,e,z⟩
theorem Inv.agv{pins:PN}{σ:St}{H:Hp}{s:Shared}{p:Addr}{xs ys:List V}{its its':List Value}{n n':Nat}{f:Obj->Obj}(I:Inv X pins σ H s)(h:H p=some (.lst xs))
  (ho:s.heap.get? p=some {cls:=.type "list",data:=.seq its.toArray n})(hf:f {cls:=.type "list",data:=.seq its.toArray n}={cls:=.type "list",data:=.seq its'.toArray n'})(r:Vals ys its')(hz:ys.length<=sizeLine)(t:Nat) :
  Inv X pins σ (upd H p (.lst ys)) {s with heap:=s.heap.update p f,toks:=t}:=by
 have e:(s.heap.update p f).get? p=some {cls:=.type "list",data:=.seq its'.toArray n'}:=by rw[Heap.get?_update_self f ho (by rw[hf]<;>rfl),hf]
 refine I.write (x:=p) (e:=p) (by rw[h];trivial) (.inl rfl) (λ b u hb q=>(Heap.get?_update_other _ _ (Ne.symm hb)).trans q) ⟨_,e⟩ ?_;exact⟨hz,its',n',r,e⟩
def ahU:V->V->V->Hp->(Hp->Prop)->Prop:=λ o i v H Q=>∃ p xs k j,o=.ref p/\i=.int k/\H p=some (.lst xs)/\ixN xs.length k=some j/\Q (upd H p (.lst (xs.set j v)))
theorem set_list:aha X ahU:=by
 intro pins s σ H o i v ov iv u Q I ro ri rv h;obtain⟨p,xs,k,j,rfl,rfl,hp,hj,q⟩:=h;cases ro;obtain⟨t,rfl⟩:=ri;obtain⟨its,n,r,ho,hz⟩:=I.lst hp;obtain⟨h1,h2,h3,h4⟩:=xV hj;have hl:=r.length;have hn:=lT;have I':Inv X pins σ (upd H p (.lst (xs.set j v))) {s with heap:=s.heap.update p (Obj.mapSeq (·.setIfInBounds j u))}:=
  I.agv hp ho (uz its n j u) (r.set rv j) (by rw[List.length_set];exact hz) s.toks
 by_cases h0:0<=k
 ·have hk:k.toNat=j:=by rw[seqIndex_of h0 h4] at h1;exact Option.some.inj h1
  exact W.ki_setAt ho h0 (by omega) (by rw[List.size_toArray,<- hl];exact h4) (by rw[hk];exact⟨_,I',q⟩)
 ·have hk:(k+(its.toArray.size:Int)).toNat=j:=by rw[seqIndex_neg (by omega) h3] at h1;rw[List.size_toArray,<- hl];exact Option.some.inj h1
  exact W.ki_setBack ho (by omega) (by rw[List.size_toArray,<- hl];exact h3) (by omega) (by rw[hk];exact⟨_,I',q⟩)
theorem nX(lo hi:Option Int)(n:Nat):(sliceBounds lo hi none n).1=((HT.sIx n 0 lo:Nat):Int)/\(sliceBounds lo hi none n).2.1=((HT.sIx n n hi:Nat):Int)/\(sliceBounds lo hi none n).2.2=1:=by
 refine⟨?_,?_,rfl⟩
 ·cases lo with
  | none=>simp[sliceBounds,HT.sIx]
  | some i =>
   simp only[sliceBounds,HT.sIx,Option.getD_none,show(1:Int) > 0 by decide,if_true]
   by_cases h:i<0
   ·simp only[h,if_true]<;>omega
   ·simp only[h,if_false]<;>omega
 ·cases hi with
  | none=>simp[sliceBounds,HT.sIx]
  | some i =>
   simp only[sliceBounds,HT.sIx,Option.getD_none,show(1:Int) > 0 by decide,if_true]
   by_cases h:i<0
   ·simp only[h,if_true]<;>omega
   ·simp only[h,if_false]<;>omega
theorem mz(its:List Value)(lo hi:Option Int):slicePick its.toArray lo hi none=((its.drop (HT.sIx its.length 0 lo)).take (HT.sIx its.length its.length hi-HT.sIx its.length 0 lo)).toArray:=by obtain⟨h1,h2,h3⟩:=nX lo hi its.toArray.size;unfold slicePick;rw[h1,h2,h3];simp only[sliceRange_one,pick_run,List.size_toArray]<;>rfl
def aiA(K:FG):V->Option Int->Option Int->Hp->VK->Prop:=λ x lo hi H Q=>∃ a xs,x=.ref a/\SqL K H a xs/\∀ p,H p=none->Q (.ref p) (upd H p (.lst (ab0 xs lo hi)))
theorem adB:SlR X (aiA X.K):=by intro pins s σ H x v vl vu lo hi sl Q I rx hs pl pu h;obtain⟨a,xs,rfl,hx,q⟩:=h;cases rx;obtain⟨its,r,ht,hz⟩:=I.list hx;have hlen:=r.length;refine⟨"list",_,slot_list_getitem.lookup,ht.isList.typeIs,?_⟩;refine wpAny_getItem_list_slice ht.isList hs pl pu .none (by simp) ?_ (by rw[List.size_toArray]<;>omega);rw[mz,<- hlen];refine⟨.ref s.heap.objs.size,_,I.laid (t':=s.toks) (o:=.lst (ab0 xs lo hi)) (λ b ob q=>Heap.get?_push_of_some _ q) (Nat.le_refl _) ?_,rfl,q _ (I.hok.fresh (Nat.le_refl _))⟩;exact⟨Nat.le_trans (jN xs lo hi) hz,_,0,(r.drop (HT.sIx xs.length 0 lo)).take (HT.sIx xs.length xs.length hi-HT.sIx xs.length 0 lo),Heap.get?_push_size _ rfl⟩
def lA:V->Bool
 | .non=>true
 | .bl _=>true
 | .int _=>true
 | .str _=>true
 | _=>false
def eqV:V->V->Bool
 | .non,.non=>true
 | .bl a,.bl b=>a==b
 | .bl a,.int b=>(if a then 1 else 0)==b
 | .int a,.bl b=>a==(if b then 1 else 0)
 | .int a,.int b=>a==b
 | .str a,.str b=>a==b
 | _,_=>false
theorem agE{A:Around}{s:Shared}{y x:V}{u v:Value}(ry:RelV y u)(rx:RelV x v)(fy:lA y=true)(fx:lA x=true):SeqAt.EqAt A s u v (eqV y x):=by
 cases y with
 | non =>
  cases ry;cases x with
  | non=>cases rx;exact SeqAt.EqAt.same _
  | bl b=>cases rx;exact SeqAt.EqAt.none_bool b
  | int b=>obtain⟨t,rfl⟩:=rx;exact SeqAt.EqAt.none_int b t
  | str b=>obtain⟨t,rfl⟩:=rx;exact SeqAt.EqAt.none_str b t
  | _=>exact absurd (show false=true from fx) Bool.false_ne_true
 | bl a =>
  cases ry;cases x with
  | non=>cases rx;exact SeqAt.EqAt.bool_none a
  | bl b=>cases rx;exact SeqAt.EqAt.bool_bool a b
  | int b=>obtain⟨t,rfl⟩:=rx;exact SeqAt.EqAt.bool_int a b t
  | str b=>obtain⟨t,rfl⟩:=rx;exact SeqAt.EqAt.bool_str a b t
  | _=>exact absurd (show false=true from fx) Bool.false_ne_true
 | int a =>
  obtain⟨t',rfl⟩:=ry;cases x with
  | non=>cases rx;exact SeqAt.EqAt.int_none a t'
  | bl b=>cases rx;exact SeqAt.EqAt.int_bool a t' b
  | int b=>obtain⟨t,rfl⟩:=rx;exact SeqAt.EqAt.int_int a t' b t
  | str b=>obtain⟨t,rfl⟩:=rx;exact SeqAt.EqAt.int_str a t' b t
  | _=>exact absurd (show false=true from fx) Bool.false_ne_true
 | str a =>
  obtain⟨t',rfl⟩:=ry;cases x with
  | non=>cases rx;exact SeqAt.EqAt.str_none a t'
  | bl b=>cases rx;exact SeqAt.EqAt.str_bool a t' b
  | int b=>obtain⟨t,rfl⟩:=rx;exact SeqAt.EqAt.str_int a t' b t
  | str b=>obtain⟨t,rfl⟩:=rx;exact SeqAt.EqAt.str_str a t' b t
  | _=>exact absurd (show false=true from fx) Bool.false_ne_true
 | _=>exact absurd (show false=true from fy) Bool.false_ne_true
def eqU(x:V)(u:Value):Bool:=match u with
 | .none=>eqV .non x
 | .bool b=>eqV (.bl b) x
 | .int i _=>eqV (.int i) x
 | .str z _=>eqV (.str z) x
 | _=>false
theorem abS{x y:V}{u:Value}(r:RelV y u)(f:lA y=true):eqU x u=eqV y x:=by
 cases y with
 | non=>cases r;rfl
 | bl b=>cases r;rfl
 | int i=>obtain⟨t,rfl⟩:=r;rfl
 | str z=>obtain⟨t,rfl⟩:=r;rfl
 | _=>exact absurd (show false=true from f) Bool.false_ne_true
theorem rP{x:V}:∀ {xs:List V} {us:List Value},Vals xs us->xs.all lA=true->us.any (eqU x)=xs.any λ y=>eqV y x
 | _,_,.nil,_=>rfl
 | y::xs,u::us,.cons r t,f=>by rw[List.all_cons,Bool.and_eq_true] at f;rw[List.any_cons,List.any_cons,abS r f.1,rP t f.2]
theorem mT{A:Around}{s:Shared}{x:V}{v:Value}(rx:RelV x v)(fx:lA x=true):∀ {xs:List V} {us:List Value},Vals xs us->xs.all lA=true->∀ u∈us,SeqAt.EqAt A s u v (eqU x u)
 | _,_,.nil,_=>λ u hu=>by cases hu
 | y::xs,u::us,.cons r t,f=>λ u' hu=>by
  rw[List.all_cons,Bool.and_eq_true] at f;rcases List.mem_cons.mp hu with rfl | hu
  ·rw[abS r f.1];exact agE r rx f.1 fx
  ·exact mT rx fx t f.2 u' hu
def inV(x:V)(xs:List V):Bool:=xs.any λ y=>eqV y x
def rIn(K:FG)(neg:Bool):R2:=λ x y H Q=>∃ p xs,y=.ref p/\(SqL K H p xs\/SqT K H p xs)/\lA x=true/\xs.all lA=true/\Q (.bl (if neg then !inV x xs else inV x xs)) H
theorem xj:OpR X (compareOp .In) (rIn X.K false):=by
 intro pins s σ H x y v u Q I rx ry h;obtain⟨p,xs,rfl,hq,fx,fs,q⟩:=h;cases ry;rcases hq with hq | hq
 ·obtain⟨its,r,pl,hz⟩:=I.list hq;refine SeqAt.in_listAt (eqU x) pl.isList (λ w hw=>mT rx fx r fs w (by simpa using hw)) ⟨.bl _,H,I,rfl,?_⟩;rw[show its.toArray.any (eqU x)=its.any (eqU x) by simp,rP r fs];exact q
 ·obtain⟨its,r,pl,hz⟩:=I.tuple hq;refine SeqAt.in_tupleAt (eqU x) pl (λ w hw=>mT rx fx r fs w (by simpa using hw)) ⟨.bl _,H,I,rfl,?_⟩;rw[show its.toArray.any (eqU x)=its.any (eqU x) by simp,rP r fs];exact q
theorem dX:dk X (.type "list") (λ xs H Q=>∃ p ys,xs=[.ref p]/\(SqL X.K H p ys\/SqT X.K H p ys)/\∀ l,H l=none->Q (.ref l) (upd H l (.lst ys))):=by
 intro pins s σ H xs us Q I r h;obtain⟨p,ys,rfl,hq,q⟩:=h;obtain⟨u,rfl,rx⟩:=vals1 r;cases rx;have fin:∀ (its:List Value),Vals ys its->ys.length<=sizeLine->∀ (h':Heap) (c':Nat),(∀ b o',s.heap.get? b=some o'->h'.get? b=some o') ->
   h'.get? s.heap.objs.size=some {cls:=.type "list",dict:=none,data:=.seq its.toArray c',slots:=#[]}->EP X pins σ Q (.ref s.heap.objs.size) {s with heap:=h'}:=λ its r' hz h' c' kp e =>
  ⟨.ref s.heap.objs.size,_,I.laid (t':=s.toks) kp (Nat.le_refl _) (show bY X.prog X.w _ h' _ (.lst ys) from⟨hz,its,c',r',e⟩),rfl,q _ (I.hok.fresh (Nat.le_refl _))⟩
 rcases hq with hq | hq
 ·obtain⟨its,r',pl,hz⟩:=I.list hq;have hlen:=r'.length;obtain⟨o,ho,hc,n,hd⟩:=pl.isList;exact call_list_seq p (.inl rfl) ho hc hd (λ h' c' kp e=>fin its r' hz h' c' kp e) (by simp only[List.size_toArray]<;>omega)
 ·obtain⟨its,r',pl,hz⟩:=I.tuple hq;have hlen:=r'.length;obtain⟨o,ho,hc,n,hd⟩:=pl;exact call_list_seq p (.inr rfl) ho hc hd (λ h' c' kp e=>fin its r' hz h' c' kp e) (by simp only[List.size_toArray]<;>omega)
def tyV(K:FG)(T:String)(x:V)(H:Hp):Prop:=match x with
 | .str _=>T = "str"
 | .int _=>T = "int"
 | .ref p=>(T = "list" /\ ∃ xs,SqL K H p xs)\/(T = "tuple" /\ ∃ xs,SqT K H p xs) \/
   (T = "dict" /\ ((∃ kvs,H p=some (.dK kvs))\/∃ kvs,H p=some (.dT kvs)))\/(T = "set" /\ ∃ S n,H p=some (.set S n))
 | _=>False
theorem abF{pins:PN}{σ:St}{H:Hp}{s:Shared}{T:String}{x:V}{v:Value}(I:Inv X pins σ H s)(r:RelV x v)(ty:tyV X.K T x H) :
  s.TypeIs v T/\∀ a,v=.ref a->∃ ob,s.heap.get? a=some ob/\ob.dict=none:=by
 cases x with
 | str z =>
  obtain⟨t,rfl⟩:=r;cases (show T = "str" from ty);exact⟨typeIs_str s z t,λ _ e=>nomatch e⟩
 | int i =>
  obtain⟨t,rfl⟩:=r;cases (show T = "int" from ty);exact⟨typeIs_int s i t,λ _ e=>nomatch e⟩
 | ref p =>
  cases r;rcases ty with ⟨rfl,xs,hq⟩ | ⟨rfl,xs,hq⟩ | ⟨rfl,hk⟩ | ⟨rfl,S,n,hk⟩
  ·obtain⟨its,_,pl,_⟩:=I.list hq;refine⟨pl.isList.typeIs,λ a e=>?_⟩;cases e;obtain⟨o,n,e,c,hd,_⟩:=pl;exact⟨o,e,hd⟩
  ·obtain⟨its,_,⟨o,h1,h2,h3,_⟩,_⟩:=I.aiK hq;refine⟨⟨o,h1,h2⟩,λ a e=>?_⟩;cases e;exact⟨o,h1,h3⟩
  ·have z:∃ o,s.heap.get? p=some o/\o.ExactDict:=by
    rcases hk with ⟨kvs,hk⟩ | ⟨kvs,hk⟩
    ·obtain⟨_,_,_,_,o,_,_,e,ex,_⟩:=I.hok p _ hk;exact⟨o,e,ex⟩
    ·obtain⟨_,_,_,_,o,_,_,e,ex,_⟩:=I.hok p _ hk;exact⟨o,e,ex⟩
   obtain⟨o,e,ex⟩:=z;refine⟨⟨o,e,ex.1⟩,λ a e2=>?_⟩;cases e2;exact⟨o,e,ex.2.1⟩
  ·obtain⟨o,_,_,_,e,ex,_⟩:=I.hok p _ hk;refine⟨⟨o,e,ex.1⟩,λ a e2=>?_⟩;cases e2;exact⟨o,e,ex.2.1⟩
 | _=>exact False.elim ty
def aja(K:FG)(T:String)(r:V->List V->Hp->VK->Prop)(to:TE):TE:=λ σ H Q=>to σ H λ x H1=>tyV K T x H1/\r x [] H1 Q
def tBM(K:FG)(T:String)(r:V->List V->Hp->VK->Prop)(to:TE)(t:TA):TE:=λ σ H Q=>to σ H λ x H1=>tyV K T x H1/\t σ H1 λ xs H2=>r x xs H2 Q
variable {o e:Expr}{es:List Expr}{to:TE}{t:TA}{name:Str}{apos cpos:Pos}{T id:String}{r:V->List V->Hp->VK->Prop}
theorem afl(pa:PlainAttrs T)(slot:Slot T name id)(hty:typeOf (.builtin id)=pure (.type "method_descriptor"))(hm:MtR X id r)(ho:PE X o to)
  (hbase:attributeBase o name X.env (eval o X.env)=eval o X.env:=by rfl)(hline:(apos.endLine==cpos.line)=true:=by rfl):PE X (.Call (.Attribute o name apos) [] [] cpos) (aja X.K T r to):=by
 intro pins s σ H Q I h;refine wpAny_Call_method0_late hbase hline (thn (ho pins s σ H _ I h) λ v s1 hq26=>?_);obtain⟨x,H1,I1,r1,ty,q1⟩:=hq26;obtain⟨h1,h2⟩:=abF I1 r1 ty;exact⟨T,id,pa,slot,hty,h1,h2,Calls.callWith_builtin rfl (PySem.evalArgs_none (hm pins s1 σ H1 x [] v [] Q I1 r1 .nil q1))⟩
theorem agM(pa:PlainAttrs T)(slot:Slot T name id)(hty:typeOf (.builtin id)=pure (.type "method_descriptor"))(hm:MtR X id r)(ho:PE X o to)(ha:PA X (e::es) t)
  (hbase:attributeBase o name X.env (eval o X.env)=eval o X.env:=by rfl)
  (hfew:((backTo cpos (starEach (e::es) X.env)).all (λ x=>!x.1)&&(backToKw cpos (keywordEach [] X.env)).all (λ x=>x.1.isSome)
   && decide ((e::es).length+([]:List Keyword).length+(if ([]:List Keyword).isEmpty then 0 else 1)<30))=true:=by rfl)
  (hline:(apos.endLine==cpos.line)=true:=by rfl)(hs:starEach (e::es) X.env=(false,eval e X.env)::starEach es X.env:=by rfl)(hplain:(backTo cpos (starEach es X.env)).any (·.1)=false:=by rfl) :
  PE X (.Call (.Attribute o name apos) (e::es) [] cpos) (tBM X.K T r to t):=by
 intro pins s σ H Q I h;refine wpAny_Call_method_late hbase hfew hline rfl (thn (ho pins s σ H _ I h) λ v s1 hq27=>?_);obtain⟨x,H1,I1,r1,ty,q1⟩:=hq27;obtain⟨h1,h2⟩:=abF I1 r1 ty;refine⟨T,id,pa,slot,hty,h1,h2,?_⟩;have hA:=ha cpos pins s1 σ H1 _ I1 q1;rw[hs] at hA ⊢;refine Calls.callWith_builtin (by show(false || (backTo cpos (starEach es X.env)).any (·.1))=false;rw[hplain]<;>rfl) (Calls.evalArgs_plain ?_);exact thn hA λ us s2 ⟨vs,H2,I2,r2,q2⟩=>hm pins s2 σ H2 x vs v us Q I2 r1 r2 q2
end
def MtM(X:Cx)(id:String)(r:V->List V->Hp->VK->Prop):Prop:=
 ∀ (pins:PN) (s:Shared) (σ:St) (H:Hp) (x:V) (xs:List V) (v:Value) (us:List Value) (Q:VK),Inv X pins σ H s->RelV x v->Vals xs us->r x xs H Q ->
  wpAny (model X.prog X.w) X.A (call (.builtin id) (v::us)) (EP X pins σ Q) X.xe s
theorem Vals.one:∀ {x:V} {us:List Value},Vals [x] us->∃ u,us=[u]/\RelV x u
 | _,_,.cons r .nil=>⟨_,rfl,r⟩
theorem Vals.zero:∀ {us:List Value},Vals [] us->us=[]
 | _,.nil=>rfl
section
variable {X:Cx}{pins:PN}{σ:St}{H:Hp}{s:Shared}{l b:Addr}{xs ys zs:List V}
theorem Inv.ajd{its its':List Value}{n:Nat}{f:Array Value->Array Value}{t':Nat}(I:Inv X pins σ H s)(hH:H l=some (.lst xs))
  (e:s.heap.get? l=some {cls:=.type "list",data:=.seq its.toArray n})(hf:f its.toArray=its'.toArray)(hv:Vals ys its')(hz:ys.length<=sizeLine) :
  Inv X pins σ (upd H l (.lst ys)) {s with heap:=s.heap.update l (Obj.mapSeq f),toks:=t'}:=by
 have q:=PySem.IsL.update e f;rw[hf] at q;refine I.write (x:=l) (e:=l) (by rw[hH];exact trivial) (.inl rfl) (λ b' u hb hu=>(Heap.get?_update_other s.heap (Obj.mapSeq f) (Ne.symm hb)).trans hu) ⟨_,q⟩ ?_;exact⟨hz,its',_,hv,q⟩
theorem Inv.aiW{its:List Value}{t':Nat}(I:Inv X pins σ H s)(hv:Vals ys its)(hz:ys.length<=sizeLine) :
  Inv X pins σ (upd H s.heap.objs.size (.lst ys)) {s with heap:=s.heap.push {cls:=.type "list",data:=.seq its.toArray},toks:=t'}:=
 I.laid (λ _ _ q=>Heap.get?_push_of_some _ q) (Nat.le_refl _) ⟨hz,its,0,hv,Heap.get?_push_size _ rfl⟩
theorem Inv.fresh(I:Inv X pins σ H s):H s.heap.objs.size=none:=I.hok.fresh (Nat.le_refl _)
theorem Inv.ajh(I:Inv X pins σ H s)(hH:H l=some (.lst xs)):xs.length<=sizeLine/\∃ (its:List Value) (n:Nat),Vals xs its/\xs.length=its.length/\s.heap.get? l=some {cls:=.type "list",data:=.seq its.toArray n}:=by obtain⟨z,its,n,r,e⟩:=I.hok l _ hH;exact⟨z,its,n,r,r.length,e⟩
end
section
variable {X:Cx}
def acG:V->List V->Hp->VK->Prop:=λ x vs H Q=>∃ l xs y,x=.ref l/\vs=[y]/\H l=some (.lst xs)/\xs.length<sizeLine/\Q .non (upd H l (.lst (xs++[y])))
theorem xP:MtM X "list.append" acG:=by intro pins s σ H x vs v us Q I rx rv h;obtain⟨l,xs,y,rfl,rfl,hH,hz,q⟩:=h;cases rx;obtain⟨u,rfl,ru⟩:=rv.one;obtain⟨z,its,n,r,hl,e⟩:=I.ajh hH;refine call_meets F.slot_list_append ⟨_,e,rfl⟩ F.entry_list_append (F.args_list_append_2 _ _) (PySem.list_append l its.toArray n u (by rw[List.size_toArray];omega)) ⟨e,?_⟩;refine⟨.non,_,I.ajd (its':=its++[u]) hH e (by simp) (r.append (.cons ru .nil)) ?_,rfl,q⟩;rw[List.length_append,List.length_singleton];omega
end
section
variable {prog:Program}{w:World}{A:Around}{E:VP}{s:Shared}
end
section
variable {X:Cx}
end
end L2
namespace Att
open PySem PySem.W PySem.Calls PyProof.Rows
theorem ko{P:Params}{h:Heap}:∀ (ns:List Int) (vs:List Value),WellAll P h vs (ns.map WData.int)->IntsAre vs ns:=by
 intro ns
 induction ns with
 | nil =>
  intro vs w;rw[List.map_nil] at w;cases w;exact .nil
 | cons n ns ih =>
  intro vs w;rw[List.map_cons] at w;cases w with
  | cons a b =>
   cases a;exact .cons _ _ (ih _ b)
theorem xH{l:OpenLaw}{n:Nat}(hn:l.most=some n){P:Params}{h:Heap}{args:List WData}{vals:List Value}
  (hpre:l.row.toRowW.claim.pre args=true)(hwl:WellAll P h vals args) :
  ∃ a vs ns,vals=[Value.ref a]/\args=[WData.list (ns.map WData.int)]/\h.get? a=some {cls:=.type "list",data:=.seq vs.toArray}/\IntsAre vs ns/\ns.length<=n:=by
 have hsh:WShape.hasAll [] args [.list .int]=true:=(pre_splitW hpre).1;have hc:l.pre.holds [] {args:=args}=true:=(pre_splitW hpre).2;obtain⟨d,r,rfl,h1,h2⟩:=hasAllW_cons hsh;obtain rfl:=hasAllW_nil h2;obtain⟨xs,rfl,h3⟩:=hasW_list h1;obtain⟨ns,rfl⟩:=items_int h3;have hlen:ns.length<=n:=by
  unfold OpenLaw.pre at hc;have h4:(WTm.not (.lt (.lit (.int (n:Int))) (.len (.arg 0)))).holds [] {args:=[.list (ns.map .int)]}=true:=by have h4:=(holds_andW hc).1;rw[hn] at h4;exact h4
  have h5:=condW_of h4 (w_not (w_lt w_lit (w_len_list (w_arg rfl))));rw[List.length_map] at h5;refine Nat.le_of_not_lt λ q=>?_;have q':(n:Int)<((ns.length:Nat):Int):=by omega
  first
   | (rw[decide_eq_true q'] at h5;exact absurd h5 (by decide))
   | (simp at h5;omega)
 cases hwl with
 | cons w1 w2 =>
  cases w2;cases w1 with
  | list ho hall=>exact⟨_,_,ns,rfl,rfl,ho,ko ns _ hall,hlen⟩
theorem wN(l:OpenLaw)(args:List WData):l.row.toRowW.claim.post args (.bool true) args=true:=
 postW_of (r:=l.row.toRowW) (X:=(true==true))
  (show WShape.has [] (.bool true) .bool=true by first | rfl | decide | simp[WShape.has,WShape.arms,WShape.armsAll])
  (show(WTm.eq .res (.lit (.bool true))).value [] {args:=args,res:=some (.bool true),after:=args}=some (.bool (true==true)) from w_eq_bool (w_res rfl) w_lit) rfl
theorem qw{l:OpenLaw}{n:Nat}{q:Program}{loose:List Str}{XP:(Str->Option Value)->Heap->Prop}{YP:World->Heap->Prop}{d:DefRec}
  (hn:l.most=some n)(hdf:d.params.defaults=[])
  (call:∀ (w:World) (s₀ s₁:Shared) (mg mb:Str->Option Value) (fa:Addr) (o:Obj) (pm cd doc:Value) (a:Addr) (vs:List Value) (ns:List Int),
   Ground q loose [] XP w s₀ mg mb s₁.heap->YP w s₁.heap ->
   s₁.heap.get? fa=some o->o.data=.func (docDef d.name d.params d.body d.scope pm cd doc)->s₁.heap.CodeRec cd d.name->mg d.name=some (.ref fa) ->
   s₁.heap.get? a=some {cls:=.type "list",data:=.seq vs.toArray}->IntsAre vs ns->ns.length<=n->s₁.gens = #[] ->
   codeAny (model l.prog w) callerA (.call (.ref fa) ⟨[.ref a],[]⟩) (λ r s'=>r=.ok (.ret (.bool true))/\OldK s₁.heap s'.heap/\s'.os=s₁.os/\AllBare s'.gens) s₁) :
  WalkO q loose XP YP l.row.toRowW d [] (λ f vs=>PySem.call f vs):=by
 intro w s₀ s₁ mg mb G Y fa o pm cd doc dV kV ho hd hcd hD hmg hg args vals as hpre hlay hrd hwl hlo;obtain rfl:dV=.none:=Dflts.none hD hdf;obtain rfl:kV=.none:=Dflts.noKw hD;obtain⟨a,vs,ns,rfl,rfl,hobj,hints,hlen⟩:=xH hn hpre hwl;refine enter_call (codeAny_mono (call w s₀ s₁ mg mb fa o pm cd doc a vs ns G Y ho (fd_plain hd) hcd hmg hobj hints hlen hg) λ r s' hq=>?_);obtain⟨rfl,h2,h3,h4⟩:=hq;exact⟨.inl ⟨.bool true,.bool true,[],rfl,λ _=>rfl,.bool true,wN l _,λ _=>⟨List.Pairwise.nil,λ _ hm=>(nomatch hm)⟩⟩,h2,h3,h4⟩
section
variable {prog:Program}{w:World}{A:Around}{E:VP}{s:Shared}{K:Frag}
end
end Att
namespace L2
theorem d6:∀ {vs:List Value} {ns:List Int},IntsAre vs ns->Vals (ns.map V.int) vs
 | _,_,.nil=>.nil
 | _,_,.cons n t h=>.cons ⟨t,rfl⟩ (d6 h)
def inClass(s:Stmt)(j:Nat):Stmt:=match s with
 | .ClassDef _ _ _ body _ _ _ _ _ _ _=>body.getD j (.Pass ⟨0,0,0,0⟩)
 | _=>.Pass ⟨0,0,0,0⟩
def bh(s:Stmt):Arguments:=match s with
 | .FunctionDef _ a _ _ _ _ _ _ _ _=>a
 | _=>{posonlyargs:=[],args:=[],vararg:=none,kwonlyargs:=[],kw_defaults:=[],kwarg:=none,defaults:=[]}
def aM(s:Stmt):List Stmt:=match s with
 | .FunctionDef _ _ b _ _ _ _ _ _ _=>b
 | _=>[]
def ao(s:Stmt):Scope:=match s with
 | .FunctionDef _ _ _ _ _ _ sc _ _ _=>sc
 | _=>{kind:=.function,names:=[],isGenerator:=false,isCoroutine:=false}
abbrev CX0:CXT:=λ _ _ _ _ _ _=>False
abbrev E0:XK:=λ _ _ _=>False
theorem aeW{X:Cx}:Passes CX0 X E0:=λ _ _ _ _ _ _ _ h=>h.elim
structure Fun(K:FG)(x qual:Str)(st:Stmt)(f:Addr)(fd:FuncData):Prop where
 ex:∃ (oc:Value) (od:Option Addr) (kV doc pm:Value) (an:Option Addr) (cdv ct:Value) (osl:Array (Option Value)),
  fd=W.fnOf x qual (bh st) (aM st) (ao st) .none kV doc pm an cdv ct/\K.lookup f=some ⟨oc,od,.func fd,osl⟩/\W.codeIn K cdv qual=true
 kp:W.keepIn K (.ref f)=true
section
variable {P:Program}{w:World}{K:FG}{mg:Str->Option Value}{base:Heap}
theorem Fun.ok{x qual:Str}{st:Stmt}{f:Addr}{fd:FuncData}{N ps:List Str}{k:Nat}{sp:Sp}(F:Fun K x qual st f fd)(S:aH N ps (ao st))(len:∀ vs H Q E,sp vs H Q E->vs.length=ps.length)
  (hbody:∀ (cdv:Value) (A:Around) (outer:List Env) (s:Shared) (H:Hp) (vs:List V) (Q:VK) (E:XK),cY k (A.deeper (envOfC qual (ao st) s.heap.objs.size f cdv))->sp vs H Q E ->
   ∃ t,PSs (uV CX0 P w K mg base N qual (ao st) f cdv A outer s H E).nox (aM st) t/\t {nx:=λ _ H'=>Q .non H',rt:=Q} (start N vs) H):cy P w K mg base CX0 (k+1) f fd ps sp:=by
 obtain⟨oc,od,kV,doc,pm,an,cdv,ct,osl,rfl,lk,hcd⟩:=F.ex;refine aap lk hcd S len λ A outer s H vs Q E hr hsp=>?_;obtain⟨t,h,q⟩:=hbody cdv A outer s H vs Q E hr hsp;exact⟨t,h.nox,q⟩
theorem Fun.binds{x qual:Str}{st:Stmt}{f:Addr}{fd:FuncData}{ps:List Str}(F:Fun K x qual st f fd)
  (h:∀ (kV doc pm:Value) (an:Option Addr) (cdv ct:Value) (us:List Value),us.length=ps.length->bindArgs (W.fnOf x qual (bh st) (aM st) (ao st) .none kV doc pm an cdv ct) ⟨us,[]⟩=pure (ps.zip us)):Binds K fd ps []:=by
 obtain⟨oc,od,kV,doc,pm,an,cdv,ct,osl,rfl,lk,hcd⟩:=F.ex;exact .all (h kV doc pm an cdv ct)
theorem abA{x qual:Str}{st:Stmt}{f:Addr}{oc:Value}{od an:Option Addr}{osl:Array (Option Value)}{kV doc pm cdv ct:Value}(l:K.lookup f=some ⟨oc,od,.func (W.fnOf x qual (bh st) (aM st) (ao st) .none kV doc pm an cdv ct),osl⟩)
  (c:W.codeIn K cdv qual=true)(k:W.keepIn K (.ref f)=true):Fun K x qual st f (W.fnOf x qual (bh st) (aM st) (ao st) .none kV doc pm an cdv ct):=⟨⟨oc,od,kV,doc,pm,an,cdv,ct,osl,rfl,l,c⟩,k⟩
end
theorem dE{A:Around}{k:Nat}(hr:cY k A):A.units+1<cLine:=Nat.lt_of_le_of_lt (Nat.add_le_add_left (by decide:1<=64) _) hr.units
section
variable {X:Cx}
end
theorem jx{A B:Prop}(h:B):if false=true then A else B:=by rw[if_neg Bool.false_ne_true];exact h
theorem nV{A B:Prop}(h:A):if true=true then A else B:=by rw[if_pos rfl];exact h
section
variable {κ:Type}[DecidableEq κ]
def tI(kvs:List (κ×V))(k:κ):Option V:=(kvs.find? λ kv=>decide (kv.1=k)).map (·.2)
def putK(kvs:List (κ×V))(k:κ)(v:V):List (κ×V):=
 if (kvs.any λ kv=>decide (kv.1=k))=true then kvs.map (λ kv=>if kv.1=k then (kv.1,v) else kv) else kvs++[(k,v)]
theorem jv{p:κ×V}{r:List (κ×V)}{k:κ}(e:p.1=k):tI (p::r) k=some p.2:=by simp[tI,List.find?_cons,e]
theorem ju{p:κ×V}{r:List (κ×V)}{k:κ}(e:¬ p.1=k):tI (p::r) k=tI r k:=by simp[tI,List.find?_cons,e]
theorem sF(k:κ):∀ kvs:List (κ×V),(kvs.any λ kv=>decide (kv.1=k))=(tI kvs k).isSome
 | []=>rfl
 | p::r=>by
  rw[List.any_cons]
  by_cases e:p.1=k
  ·simp only[jv e,decide_eq_true e,Bool.true_or,Option.isSome_some]
  ·rw[ju e,decide_eq_false e,Bool.false_or];exact sF k r
theorem gK(kvs:List (κ×V))(k:κ)(v:V):(putK kvs k v).length<=kvs.length+1:=by
 unfold putK
 split
 ·rw[List.length_map];omega
 ·rw[List.length_append,List.length_cons,List.length_nil];omega
theorem vt.yL{o:Option V}{u:Option Value}(r:vt o u):o.isSome=u.isSome:=by
 cases o with
 | none=>cases u with
  | none=>rfl
  | some _=>exact(show False from r).elim
 | some _=>cases u with
  | none=>exact(show False from r).elim
  | some _=>rfl
theorem vt.getD{o:Option V}{u:Option Value}{d:V}{d':Value}(r:vt o u)(rd:RelV d d'):RelV (o.getD d) (u.getD d'):=by
 cases o with
 | none=>cases u with
  | none=>exact rd
  | some _=>exact(show False from r).elim
 | some _=>cases u with
  | none=>exact(show False from r).elim
  | some _=>exact r
theorem KV.val{kvs:List (κ×V)}{vs:List (κ×Value)}(r:KV kvs vs)(k:κ):vt (tI kvs k) (valueAt vs k):=by
 unfold KV at r
 induction r with
 | nil=>exact True.intro
 | @cons p q ps qs h t ih =>
  obtain⟨h1,h2⟩:=h
  by_cases e:p.1=k
  ·have e':q.1=k:=h1.symm.trans e;have b:valueAt (q::qs) k=some q.2:=by simp[valueAt,List.find?_cons,e']
   rw[jv e,b];exact h2
  ·have e':¬ q.1=k:=λ z=>e (h1.trans z);have b:valueAt (q::qs) k=valueAt qs k:=by simp[valueAt,List.find?_cons,e']
   rw[ju e,b];exact ih
theorem KV.any{kvs:List (κ×V)}{vs:List (κ×Value)}(r:KV kvs vs)(k:κ):(kvs.any λ kv=>decide (kv.1=k))=vs.any λ kv=>decide (kv.1=k):=by
 unfold KV at r
 induction r with
 | nil=>rfl
 | cons h t ih=>rw[List.any_cons,List.any_cons,ih,h.1]
theorem KV.ahj{kvs:List (κ×V)}{vs:List (κ×Value)}(r:KV kvs vs)(k:κ){y:V}{u:Value}(ry:RelV y u) :
  KV (kvs.map λ kv=>if kv.1=k then (kv.1,y) else kv) (vs.map λ kv=>if kv.1=k then (kv.1,u) else kv):=by
 unfold KV at r ⊢
 induction r with
 | nil=>exact .nil
 | @cons p q ps qs h t ih =>
  rw[List.map_cons,List.map_cons];refine .cons ?_ ih;obtain⟨h1,h2⟩:=h
  by_cases e:p.1=k
  ·rw[if_pos e,if_pos (h1.symm.trans e)];exact⟨h1,ry⟩
  ·rw[if_neg e,if_neg (λ z=>e (h1.trans z))];exact⟨h1,h2⟩
theorem KV.put{kvs:List (κ×V)}{vs:List (κ×Value)}(r:KV kvs vs)(k:κ){y:V}{u:Value}(ry:RelV y u):KV (putK kvs k y) (stored vs k u):=by
 unfold putK stored;rw[r.any k]
 by_cases e:(vs.any λ kv=>decide (kv.1=k))=true
 ·rw[if_pos e,if_pos e];exact r.ahj k ry
 ·rw[if_neg e,if_neg e];exact Paired.snoc r ⟨rfl,ry⟩
theorem KV.length{kvs:List (κ×V)}{vs:List (κ×Value)}(r:KV kvs vs):kvs.length=vs.length:=Paired.length r
end
theorem uG{P:Program}{w:World}{k:Key}{u:Value}(r:RelV (kV k) u):(aN P w).is k u=true:=by
 cases k with
 | inl i=>obtain⟨t,e⟩:=(show ∃ t,u=Value.int i t from r);subst e;exact qD P w i t
 | inr x=>obtain⟨t,e⟩:=(show ∃ t,u=Value.str x t from r);subst e;exact rl P w x t
theorem jK{P:Program}{w:World}:∀ {ks:List Key} {us:List Value},Vals (ks.map kV) us->ItemsAre (aN P w) ks us
 | [],_,r=>by rw[List.map_nil] at r;cases r;exact .nil
 | k::ks,_,r=>by
  rw[List.map_cons] at r;cases r with
  | cons h t=>exact .cons (uG h) (jK t)
abbrev KT(H:Hp):List (List Key×V)->List (List Key×Addr×Value)->Prop:=Paired λ p q=>p.1=q.1/\H q.2.1=some (.tup (p.1.map kV))/\RelV p.2 q.2.2
theorem KT.val{H:Hp}{kvs:List (List Key×V)}{xs:List (List Key×Addr×Value)}(r:KT H kvs xs)(k:List Key):vt (tI kvs k) ((atKey xs k).map (·.2)):=by
 induction r with
 | nil=>exact True.intro
 | @cons p q ps qs h t ih =>
  obtain⟨h1,_,h2⟩:=h
  by_cases e:p.1=k
  ·have e':q.1=k:=h1.symm.trans e;have b:atKey (q::qs) k=some q.2:=by simp[atKey,List.find?_cons,e']
   rw[jv e,b];exact h2
  ·have e':¬ q.1=k:=λ z=>e (h1.trans z);have b:atKey (q::qs) k=atKey qs k:=by simp[atKey,List.find?_cons,e']
   rw[ju e,b];exact ih
theorem KT.ahj{H:Hp}{kvs:List (List Key×V)}{xs:List (List Key×Addr×Value)}(r:KT H kvs xs)(k:List Key){y:V}{u:Value}(ry:RelV y u) :
  KT H (kvs.map λ kv=>if kv.1=k then (kv.1,y) else kv) (xs.map (putAt k u)):=by
 induction r with
 | nil=>exact .nil
 | @cons p q ps qs h t ih =>
  rw[List.map_cons,List.map_cons];refine .cons ?_ ih;obtain⟨h1,h2,h3⟩:=h;unfold putAt
  by_cases e:p.1=k
  ·rw[if_pos e,if_pos (h1.symm.trans e)];exact⟨h1,h2,ry⟩
  ·rw[if_neg e,if_neg (λ z=>e (h1.trans z))];exact⟨h1,h2,h3⟩
theorem KT.put{H:Hp}{kvs:List (List Key×V)}{xs:List (List Key×Addr×Value)}(r:KT H kvs xs)(k:List Key){b:Addr}{y:V}{u:Value}(hb:H b=some (.tup (k.map kV)))(ry:RelV y u) :
  KT H (putK kvs k y) (storedH xs k b u):=by
 have e:(kvs.any λ kv=>decide (kv.1=k))=(atKey xs k).isSome:=by rw[sF,(r.val k).yL,Option.isSome_map]
 unfold putK storedH;rw[e]
 by_cases q:(atKey xs k).isSome=true
 ·rw[if_pos q,if_pos q];exact r.ahj k ry
 ·rw[if_neg q,if_neg q];exact Paired.snoc r ⟨rfl,hb,ry⟩
theorem KT.keeps{H H':Hp}{kvs:List (List Key×V)}{xs:List (List Key×Addr×Value)}(r:KT H kvs xs)(ht:∀ b ys,H b=some (.tup ys)->H' b=some (.tup ys)):KT H' kvs xs:=
 Paired.iu r λ _ _ z=>⟨z.1,ht _ _ z.2.1,z.2.2⟩
section
variable {P:Program}{w:World}{H:Hp}{h:Heap}{a:Addr}
theorem aeF{u:HO}(ok:HOk P w H h)(e:Rd H a u):bY P w H h a u:=e.ok ok
theorem uS{kvs:List (Key×V)}(ok:HOk P w H h)(e:Rd H a (.dK kvs)):kvs.length<=sizeLine/\(a==sysModules)=false/\∃ vs,KV kvs vs/\h.DictOf (aN P w) a vs:=
 show bY P w H h a (.dK kvs) from aeF ok e
theorem vO{kvs:List (Key×V)}(ok:HOk P w H h)(e:H a=some (.dK kvs)):kvs.length<=sizeLine/\(a==sysModules)=false/\∃ vs,KV kvs vs/\h.DictOf (aN P w) a vs:=uS ok (.inl e)
theorem abZ{ks:List Key}(ok:HOk P w H h)(e:H a=some (.tup (ks.map kV))):(tupleKind (aN P w)).is h ks a:=by obtain⟨_,its,r,o,h1,h2,_,n,h3⟩:=(show bY P w H h a (.tup (ks.map kV)) from ok a _ e);exact⟨o,its.toArray,n,h1,h2,h3,by simpa using jK r⟩
theorem acn{kvs:List (List Key×V)}(ok:HOk P w H h)(e:Rd H a (.dT kvs)):kvs.length<=sizeLine/\(a==sysModules)=false /\
  ∃ xs,KT H kvs xs/\h.DictOfH (tupleKind (aN P w)) a xs:=by
 obtain⟨z,y,xs,r,o,es,ep,h1,h2,h3,h4,h5⟩:=(show bY P w H h a (.dT kvs) from aeF ok e);refine⟨z,y,xs,r,o,es,ep,h1,h2,h3,h4,λ x hx=>?_,h5⟩;have all:∀ {l:List (List Key×V)} {m:List (List Key×Addr×Value)},KT H l m->∀ x∈m,(tupleKind (aN P w)).is h x.1 x.2.1:=by
  intro l m q
  induction q with
  | nil=>intro x hx;exact nomatch hx
  | @cons p q ps qs hq t ih =>
   intro x hx;rcases List.mem_cons.mp hx with e | hx
   ·subst e;exact abZ ok (by rw[<- hq.1];exact hq.2.1)
   ·exact ih x hx
 exact all r x hx
theorem ahq{kvs:List (List Key×V)}(ok:HOk P w H h)(e:H a=some (.dT kvs)):kvs.length<=sizeLine/\(a==sysModules)=false /\
  ∃ xs,KT H kvs xs/\h.DictOfH (tupleKind (aN P w)) a xs:=acn ok (.inl e)
end
def ahm(H:Hp)(a:Addr)(y v:V)(H':Hp):Prop:=
 (∃ kvs k,H a=some (.dK kvs)/\y=kV k/\kvs.length<sizeLine/\H'=upd H a (.dK (putK kvs k v))) \/
 ∃ kvs k b,H a=some (.dT kvs)/\y=.ref b/\H b=some (.tup (k.map kV))/\kvs.length<sizeLine/\H'=upd H a (.dT (putK kvs k v))
section
variable {X:Cx}{pins:PN}{σ:St}{H:Hp}{s:Shared}{a:Addr}{y v:V}{u r:Value}{o:Option V}{A:Around}{E:VP}
theorem Inv.big(I:Inv X pins σ H s):sysModules<s.heap.objs.size:=by have h:mainGlobals<s.heap.objs.size:=(I.mod.glob.keeps I.bk).lt;exact Nat.lt_trans (by decide) h
theorem ni{h':Heap}{t':Nat}{ob:HO}(I:Inv X pins σ H s)(mu:Mut (H a))(hs:Heap.SameBut a s.heap h')(he:∃ q,h'.get? a=some q)(new:bY X.prog X.w (upd H a ob) h' a ob) :
  Inv X pins σ (upd H a ob) {s with heap:=h',toks:=t'}:=
 I.write (x:=a) (e:=a) mu (.inl rfl) (λ b q hb z=>(hs.2 b hb).trans z) he new
theorem qb{P:Program}{w:World}{H':Hp}{h':Heap}{kvs:List (Key×V)}{vs:List (Key×Value)}(z:kvs.length<=sizeLine)(hd:(a==sysModules)=false)(rel:KV kvs vs)(dd:h'.DictOf (aN P w) a vs) :
  bY P w H' h' a (.dK kvs):=⟨z,hd,vs,rel,dd⟩
theorem oE{H':Hp}{Q:Unit->Shared->Prop}(hu:A.units+1<cLine)(I:Inv X pins σ H s)(g:ahm H a y v H')(ry:RelV y u)(rv:RelV v r)(h:∀ s',Inv X pins σ H' s'->Q () s') :
  wpAny (model X.prog X.w) A (setItem (.ref a) u r) Q E s:=by
 rcases g with ⟨kvs,k,e,ey,l,eH⟩ | ⟨kvs,k,b,e,ey,eb,l,eH⟩
 ·subst ey eH;obtain⟨z,hd,vs,rel,dd⟩:=vO I.hok e;have hz:vs.length<=sizeLine:=by rw[<- rel.length];exact z
  have hl:(putK kvs k v).length<=sizeLine:=by have:=gK kvs k v;omega
  refine wpAny_setItem_pairs (hsz:=hz) (uG ry) dd λ h' dd' hs=>h _ ?_;have he:∃ q,h'.get? a=some q:=let ⟨q,_,_,hq,_⟩:=dd'; ⟨q,hq⟩;exact ni I (by rw[e];exact True.intro) hs he (qb hl hd (rel.put k rv) dd')
 ·subst ey eH;cases (show u=Value.ref b from ry);obtain⟨z,hd,xs,rel,dd⟩:=ahq I.hok e;have hz:xs.length<=sizeLine:=by rw[<- Paired.length rel];exact z
  have hl:(putK kvs k v).length<=sizeLine:=by have:=gK kvs k v;omega
  refine wpAny_setItem_heap (hsz:=hz) (tupleKind_room_in1 hu) (abZ I.hok eb) dd λ h' dd' hs=>h _ ?_;obtain⟨q,es,ep,hq,h2,h3,h4,_,h5⟩:=dd';refine ni I (by rw[e];exact True.intro) hs ⟨q,hq⟩ ⟨hl,hd,_,(rel.put k eb rv).keeps λ c ys ec=>?_,q,es,ep,hq,h2,h3,h4,h5⟩;rw[aj (ur ec e (λ z=>nomatch z))];exact ec
end
section
variable {X:Cx}{pins:PN}{σ:St}{H:Hp}{s:Shared}{a:Addr}{kvs:List (Key×V)}{k:Key}{u:Value}{A:Around}{E:VP}
theorem adw{Q:VP}(I:Inv X pins σ H s)(e:H a=some (.dK kvs))(h:∀ s',Inv X pins σ (upd H a (.dK [])) s'->Q .none s'):wpAny (model X.prog X.w) A (call (.builtin "dict.clear") [.ref a]) Q E s:=by obtain⟨z,hd,vs,rel,dd⟩:=vO I.hok e;refine call_meetsIn PySem.F.slot_dict_clear dd.typeIs PySem.F.entry_dict_clear (PySem.F.args_dict_clear_1 _) (meets_dict_clear (aN X.prog X.w) a) ⟨vs,dd,by rw[<- rel.length];exact z,λ h' dd' hs=>h _ ?_⟩;have he:∃ q,h'.get? a=some q:=let ⟨q,_,_,hq,_⟩:=dd'; ⟨q,hq⟩;exact ni (t':=s.toks) I (by rw[e];exact True.intro) hs he (qb (Nat.zero_le _) hd .nil dd')
end
def ag9(i:Expr):Prop:=∀ ov iv,subscripted i false ov iv=operate [ov,iv] (getItem ov iv)
theorem acA{prog:Program}{w:World}{A:Around}{E:VP}{s:Shared}{env:Env}{value slice:Expr}{pos:Pos}{T id:String}{Q:VP}
  (hl:typeLookup (.type T) "__getitem__" = pure (some (.builtin id)))(hs:ag9 slice)
  (h:wpAny (model prog w) A (eval value env) (λ o s₁=>wpAny (model prog w) A (eval slice env) (λ i s₂=>s₂.TypeIs o T/\wpAny (model prog w) A (getItem o i) Q E s₂) E s₁) E s) :
  wpAny (model prog w) A (eval (.Subscript value slice pos) env) Q E s:=by
 refine Subscript_ (wpAny_mono h (λ o s₁ h₁=>wpAny_mono h₁ (λ i s₂ h₂=>?_) λ _ _ x=>x) λ _ _ x=>x);obtain⟨hT,h₂⟩:=h₂;unfold subscriptTail;refine wpAny_bind ?_;rw[getitemInPython_of_ne hT.not_modules];refine wpAny_bind (wpAny_specialOf hT hl ?_);have fin:wpAny (model prog w) A (subscripted slice false o i) (λ r s₃=>wpAny (model prog w) A (letTemporaryGo value o r >>= λ _=>pure r) Q E s₃) E s₂:=by rw[hs o i];exact wpAny_operating (wpAny_mono h₂ (λ r s₃ h₃=>wpAny_bind (wpAny_letTemporaryGo (wpAny_pure h₃))) λ _ _ x=>x)
 first
  | exact wpAny_pure (wpAny_bind fin)
  | exact wpAny_bind (wpAny_pure (wpAny_bind fin))
  | exact wpAny_bind fin
def aiq(td ty tv:TE):TS:=λ D σ H=>tv σ H λ v H1=>td σ H1 λ x H2=>ty σ H2 λ y H3=>∃ a H4,x=.ref a/\ahm H3 a y v H4/\D.nx σ H4
section
variable {X:Cx}{o i e value:Expr}{pos pos' tpos:Pos}{td ty tv:TE}
theorem ab6(hu:X.A.units+1<cLine)(ho:PE X o td)(hi:PE X i ty)(hv:PE X value tv)(hs:swapsWith value (some (.Subscript o i pos')) pos.line X.env=pure false) :
  PS X (.Assign [.Subscript o i pos'] value pos) (aiq td ty tv):=by
 intro pins s σ H D I h;refine wpAny_Assign_Subscript (thn (hv pins s σ H _ I h) λ r s1 ⟨v,H1,I1,rv,q1⟩=>thn (ho pins s1 σ H1 _ I1 q1) λ u s2 ⟨x,H2,I2,rx,q2⟩=>thn (hi pins s2 σ H2 _ I2 q2) λ iv s3 ⟨y,H3,I3,ry,a,H4,ex,g,q3⟩=>?_) hs;subst ex;obtain rfl:u=Value.ref a:=rx;exact oE hu I3 g ry rv λ s4 I4=>⟨σ,H4,I4,q3⟩
end
theorem nc{P:Program}{w:World}{H:Hp}(h:Heap)(hb:sysModules<h.objs.size):bY P w H (h.push {cls:=.type "dict",data:=.dict #[]}) h.objs.size (.dK []):=
 ⟨Nat.zero_le _,beq_eq_false_iff_ne.mpr (Ne.symm (Nat.ne_of_lt hb)),[],.nil,Heap.DictOf.new h⟩
def af9:TE:=λ _ H Q=>∀ p,H p=none->Q (.ref p) (upd H p (.dK []))
section
variable {X:Cx}{pos:Pos}
theorem aa6:PE X (.Dict [] [] pos) af9:=λ pins s σ H Q I h =>
 wpAny_Dict_empty ⟨.ref s.heap.objs.size,_,I.laid (a:=s.heap.objs.size) (o:=.dK []) (t':=s.toks) (λ _ _ q=>Heap.get?_push_of_some _ q) (Nat.le_refl _) (nc s.heap I.big),rfl,h _ (I.hok.fresh (Nat.le_refl _))⟩
end
structure M2(X:Cx)(o:Expr)(m:Str)(apos:Pos)(e f:Expr)(cpos:Pos):Prop where
 base:attributeBase o m X.env (eval o X.env)=eval o X.env
 few:((backTo cpos (starEach [e,f] X.env)).all (λ x=>!x.1)&&(backToKw cpos (keywordEach [] X.env)).all (λ x=>x.1.isSome)
  && decide (([e,f]:List Expr).length+([]:List Keyword).length+(if ([]:List Keyword).isEmpty then 0 else 1)<30))=true
 line:(apos.endLine==cpos.line)=true
 trees:backTo cpos (starEach [e,f] X.env)=[(false,eval e X.env),(false,eval f X.env)]
def IsD(H:Hp)(a:Addr):Prop:=(∃ kvs,Rd H a (.dK kvs))\/∃ kvs,Rd H a (.dT kvs)
theorem afh{X:Cx}{pins:PN}{σ:St}{H:Hp}{s:Shared}{a:Addr}(I:Inv X pins σ H s)(d:IsD H a) :
  s.TypeIs (.ref a) "dict" /\ (∀ b,Value.ref a=.ref b->∃ ob,s.heap.get? b=some ob/\ob.dict=none)/\(a==sysModules)=false:=by
 rcases d with ⟨kvs,e⟩ | ⟨kvs,e⟩
 ·obtain⟨_,hd,vs,_,dd⟩:=uS I.hok e;refine⟨dd.typeIs,λ b q=>?_,hd⟩;cases q;obtain⟨ob,_,_,h1,h2,_⟩:=dd;exact⟨ob,h1,h2.2.1⟩
 ·obtain⟨_,hd,xs,_,dd⟩:=acn I.hok e;refine⟨dd.typeIs,λ b q=>?_,hd⟩;cases q;obtain⟨ob,_,_,h1,h2,_⟩:=dd;exact⟨ob,h1,h2.2.1⟩
section
variable {X:Cx}{pins:PN}{σ:St}{H:Hp}{s:Shared}{a:Addr}{y d:V}{u r:Value}{o:Option V}{A:Around}{E:VP}
end
section
variable {X:Cx}{o e f:Expr}{apos cpos:Pos}{td ty tx:TE}
end
section
variable {X:Cx}{pins:PN}{σ:St}{H:Hp}{s:Shared}{a:Addr}{kvs:List (Key×V)}{A:Around}{E:VP}
theorem aab{Q:VP}(I:Inv X pins σ H s)(e:Rd H a (.dK kvs))(h:∀ p s',H p=none->Inv X pins σ (upd H p (.dK kvs)) s'->Q (.ref p) s'):wpAny (model X.prog X.w) A (call (.type "dict") [.ref a]) Q E s:=by obtain⟨z,hd,vs,rel,dd⟩:=uS I.hok e;refine kt_call_dict hd dd (by rw[<- rel.length];exact z) λ h' dd' hs=>?_;refine h _ _ (I.hok.fresh (Nat.le_refl _)) (I.laid (a:=s.heap.objs.size) (o:=.dK kvs) (t':=s.toks) (λ b q hq=>?_) (Nat.le_refl _) (qb z (beq_eq_false_iff_ne.mpr (Ne.symm (Nat.ne_of_lt I.big))) rel dd'));exact(hs.2 b (Nat.ne_of_lt (Heap.lt_size hq))).trans (Heap.get?_push_of_some _ hq)
end
section
variable {X:Cx}{pins:PN}{σ:St}{H:Hp}{s:Shared}{a:Addr}{y:V}{u:Value}{A:Around}{E:VP}
end
end L2
set_option maxHeartbeats 0
namespace L2
def Fz:HO->Prop
 | .lst _=>True
 | .dK _=>True
 | _=>False
theorem aff(e:H p=some u)(f:Fz u):Un fs ex H (upd H p (.frz o u)) h h where
 keep:=λ b ob q _ _ _=>q
 slot:=λ b ob q _ _ _=>⟨ob.slots,q⟩
 free:=λ b ob _ n _=>by rw[aj (Ne.symm (aF e n))];exact n
 there:=λ b ob q _=>⟨ob,q⟩
 lg:=λ b xs q=>by
  have:b≠p:=λ z=>by subst z;rw[e] at q;cases q;exact f
  rw[aj this];exact q
 frzs:=λ b ob v q=>by
  have:b≠p:=λ z=>by subst z;rw[e] at q;cases q;exact f
  rw[aj this];exact q
 tbls:=λ b ps q=>by
  have:b≠p:=λ z=>by subst z;rw[e] at q;cases q;exact f
  exact⟨#[],by rw[aj this,q];simp⟩
theorem bY.ahI(f:Fz u)(x:bY P w H h a u):bY P w H' h a u:=by
 cases u with
 | lst xs=>exact x
 | dK kvs=>exact x
 | _=>exact f.elim
theorem bY.obj(f:Fz u)(x:bY P w H h a u):∃ o,h.get? a=some o:=by
 cases u with
 | lst xs=>obtain⟨_,_,_,_,e⟩:=x;exact⟨_,e⟩
 | dK kvs=>obtain⟨_,_,_,_,o,_,_,e,_⟩:=x;exact⟨o,e⟩
 | _=>exact f.elim
theorem Inv.freeze(I:Inv X pins σ H s)(e:H p=some u)(f:Fz u):∃ o,Inv X pins σ (upd H p (.frz o u)) s:=by
 obtain⟨o,ho⟩:=(I.hok p u e).obj f;refine⟨o,I.un (h':=s.heap) (t':=s.toks) (aff e f) λ b v q=>?_⟩
 by_cases hb:b=p
 ·subst hb;rw[aq] at q;cases q;exact⟨ho,(I.hok b u e).ahI f⟩
 ·rw[aj hb] at q;refine(I.hok b v q).qh (λ _ _ _ q=>q) (λ c r=>?_) λ c xs r=>?_
  ·have:c≠p:=λ z=>by subst z;rw[e] at r;cases r;exact f
   rw[aj this];exact r
  ·have:c≠p:=λ z=>by subst z;rw[e] at r;cases r;exact f
   rw[aj this];exact r
def aiF(t:TE):TE:=λ σ H Q=>t σ H λ v H1=>∃ p u,v=.ref p/\H1 p=some u/\Fz u/\∀ o,Q v (upd H1 p (.frz o u))
theorem sP(h:PE X e t):PE X e (aiF t):=by intro pins s σ H Q I hq;refine thn (h pins s σ H _ I hq) λ v s1 hq28=>?_;obtain⟨x,H1,I1,r1,p,u,e1,e2,f,q⟩:=hq28;obtain⟨o,I2⟩:=I1.freeze e2 f;exact⟨x,_,I2,r1,q o⟩
theorem Inv.zZ(I:Inv X pins σ H s)(e:s.heap.get? D=some {cls:=.type "list",data:=.seq us.toArray n})(hn:H D=none)(hv:Vals ys us)(hz:ys.length<=sizeLine)
  (h0:X.s₀.heap.objs.size<=D)(hL:D≠X.env.locals)(hc:∀ x c,X.env.cells.lookup x=some c->c≠D)(hp:∀ p∈X.pn++pins,p.1≠D):Inv X pins σ (upd H D (.lst ys)) s:=by
 have ne:∀ b u,H b=some u->b≠D:=λ b u q=>aF q hn;refine I.step (h':=s.heap) (g':=s.gens) (d':=s.drawn) (t':=s.toks) (ch:=[D]) (λ b hb=>?_) (λ b o _ _ _ q _=>q) (λ b o _ _ _ q _=>⟨o.slots,q⟩) (λ b o hb q n=>?_) (λ b o _ q=>⟨o,q⟩)
  (λ b xs q=>by rw[aj (ne b _ q)];exact q) (λ b o u q=>by rw[aj (ne b _ q)];exact q) (λ b ps q=>⟨#[],by rw[aj (ne b _ q),q];simp⟩) (λ m hm=>hm) (λ b u q=>?_) I.bare
 ·have e:b=D:=by simpa using hb
  subst e;exact⟨.inr h0,hL,hc,hp⟩
 ·rw[aj (λ z=>hb (by simp[z]))];exact n
 ·by_cases hb:b=D
  ·subst hb;rw[aq] at q;cases q;exact⟨hz,us,n,hv,e⟩
  ·rw[aj hb] at q;exact(I.hok b u q).qh (λ _ _ _ q=>q) (λ c r=>by rw[aj (ne c _ r)];exact r) λ c xs r=>by rw[aj (ne c _ r)];exact r
abbrev q0(ifs:List Expr)(env:Env):Sem Bool:=forIn ifs true λ c r=>if r=true then do let ok <- isTrue c env (eval c env);pure (ForInStep.yield ok) else pure (ForInStep.yield r)
theorem pY(I:Nat->Shared->Prop)
  (turn:∀ n s,I n s->wpAny (model prog w) A (pyNext it) (λ r s₁=>match r with
   | none=>R (.ok .next) s₁
   | some v=>wpAny (model prog w) A (letOwnedTupleGo target it v) (λ _ s₁'=>wpAny (model prog w) A (assign target env v) (λ _ s₂ =>
     wpAny (model prog w) A (q0 ifs env) (λ ok s₃ =>
      if ok=true then wpAny (model prog w) A (eval elt env) (λ x s₄ =>
       wpAny (model prog w) A (call (.builtin "list.append") [acc,x]) (λ _ s₅=>∃ m,m<n/\I m s₅) (λ _ _=>False) s₄) (λ _ _=>False) s₃
      else ∃ m,m<n/\I m s₃) (λ _ _=>False) s₂) (λ _ _=>False) s₁') (λ _ _=>False) s₁) (λ _ _=>False) s)
  (n:Nat)(h:I n s) :
  codeAny (model prog w) A (.compLoop (.ListComp elt [⟨target,iter,ifs,0⟩] scope pos) 0 it acc env) R s:=by
 refine codeAny_loop rfl I (λ n s hI=>?_) n h;show wpAny _ A ((compTurn (.ListComp elt [⟨target,iter,ifs,0⟩] scope pos) 0 it acc env).onRaise (λ x=>do noteFrame x env;theTreesLotGoes x)) _ _ s;refine wpAny_noted ?_;rw[compTurn_list];refine wpAny_bind (wpAny_standAt (wpAny_bind (wpAny_mono (turn n s hI) (λ r s₁ h₁=>?_) λ _ _ h'=>h'.elim)));cases r with
 | none=>exact wpAny_pure h₁
 | some v =>
  refine wpAny_bind (wpAny_mono h₁ (λ _ s₁' h₁'=>?_) λ _ _ h'=>h'.elim);refine wpAny_bind (wpAny_mono h₁' (λ _ s₂ h₂=>wpAny_bind (wpAny_mono h₂ (λ ok s₃ h₃=>?_) λ _ _ h'=>h'.elim)) λ _ _ h'=>h'.elim);cases ok with
  | false=>exact wpAny_pure ⟨rfl,h₃⟩
  | true =>
   exact wpAny_bind (wpAny_bind (wpAny_mono h₃ (λ x s₄ h₄=>wpAny_bind (wpAny_mono h₄ (λ _ s₅ h₅=>wpAny_pure (wpAny_pure ⟨rfl,h₅⟩)) λ _ _ h'=>h'.elim)) λ _ _ h'=>h'.elim))
theorem i8(h:∀ x∈scope.names,x.2=.free->∃ c,env.cells.lookup x.1=some c) :
  ∃ cl,closureFor scope env=pure cl/\(∀ n c,cl.lookup n=some c->env.cells.lookup n=some c)/\(∀ n,(n,NameKind.free)∈scope.names->∃ c,cl.lookup n=some c):=by
 have key:∀ (l:List (Str×NameKind)) (cs:List (Str×Addr)),(∀ x∈l,x.2=.free->∃ c,env.cells.lookup x.1=some c)->(∀ n c,cs.lookup n=some c->env.cells.lookup n=some c) ->
   ∃ cl:List (Str×Addr),(forIn l cs λ x r=>match x with
    | (name,kind)=>if (kind==NameKind.free)=true then do let a <- cellOf env name;pure (ForInStep.yield ((name,a)::r)) else pure (ForInStep.yield r):Sem (List (Str×Addr)))=pure cl /\
    (∀ n c,cl.lookup n=some c->env.cells.lookup n=some c)/\(∀ n c,cs.lookup n=some c->∃ c,cl.lookup n=some c)/\(∀ n,(n,NameKind.free)∈l->∃ c,cl.lookup n=some c):=by
  intro l
  induction l with
  | nil=>intro cs _ hc;exact⟨cs,rfl,hc,λ n c e=>⟨c,e⟩,λ n hn=>nomatch hn⟩
  | cons x l ih =>
   intro cs hl hc;obtain⟨name,kind⟩:=x
   by_cases hk:kind=.free
   ·subst hk;obtain⟨c,e⟩:=hl (name,.free) List.mem_cons_self rfl;obtain⟨cl,h1,h2,h3,h4⟩:=ih ((name,c)::cs) (λ y hy=>hl y (List.mem_cons_of_mem _ hy)) (λ n d q=>by
     rw[List.lookup_cons] at q;cases hb:n==name with
     | true =>
      rw[hb] at q;cases q;rw[eq_of_beq hb];exact e
     | false =>
      rw[hb] at q;exact hc n d q)
    refine⟨cl,?_,h2,λ n d q=>?_,λ n hn=>?_⟩
    ·rw[List.forIn_cons];simp only[beq_self_eq_true,if_true,cellOf,e,pure_bind];exact h1
    ·cases hb:n==name with
     | true=>exact h3 n c (by rw[List.lookup_cons,hb])
     | false=>exact h3 n d (by rw[List.lookup_cons,hb];exact q)
    ·rcases List.mem_cons.mp hn with z | z
     ·cases z;exact h3 name c (by rw[List.lookup_cons];simp)
     ·exact h4 n z
   ·obtain⟨cl,h1,h2,h3,h4⟩:=ih cs (λ y hy=>hl y (List.mem_cons_of_mem _ hy)) hc;refine⟨cl,?_,h2,h3,λ n hn=>?_⟩
    ·rw[List.forIn_cons];have:(kind==NameKind.free)=false:=by simpa using hk
     simp only[this,Bool.false_eq_true,if_false,pure_bind];exact h1
    ·rcases List.mem_cons.mp hn with z | z
     ·cases z;exact absurd rfl hk
     ·exact h4 n z
 obtain⟨cl,h1,h2,_,h4⟩:=key scope.names [] h (λ n c e=>by simp at e);refine⟨cl,?_,h2,h4⟩;unfold closureFor;simp only[bind_pure];exact h1
theorem i5{sc:Scope}{env:Env}{x:Str}:∀ {names:List (Str×NameKind)},(names.map λ(n,k)=>if (k==NameKind.free&&env.scope.kind==.function&&env.kindOf n==some .cell) then (n,NameKind.cell) else (n,k)).lookup x=some .cell \/
  (names.map λ(n,k)=>if (k==NameKind.free&&env.scope.kind==.function&&env.kindOf n==some .cell) then (n,NameKind.cell) else (n,k)).lookup x=some .free->(∀ y∈names,y.2 ≠ .cell)->(x,NameKind.free)∈names
 | [],h,_=>by simp at h
 | (n,k)::r,h,hc=>by
  have ih:=@i5 sc env x r
  by_cases hk:(k==NameKind.free&&env.scope.kind==.function&&env.kindOf n==some .cell)=true
  ·simp only[List.map_cons,if_pos hk,List.lookup_cons] at h;cases hx:x==n with
   | true =>
    have e:=eq_of_beq hx;subst e;simp only[Bool.and_eq_true] at hk;have:=eq_of_beq hk.1.1;subst this;exact List.mem_cons_self
   | false =>
    rw[hx] at h;exact List.mem_cons_of_mem _ (ih h λ y hy=>hc y (List.mem_cons_of_mem _ hy))
  ·simp only[List.map_cons,if_neg hk,List.lookup_cons] at h;cases hx:x==n with
   | true =>
    rw[hx] at h;have e:=eq_of_beq hx;subst e;rcases h with h | h
    ·cases h;exact absurd rfl (hc (x,.cell) List.mem_cons_self)
    ·cases h;exact List.mem_cons_self
   | false =>
    rw[hx] at h;exact List.mem_cons_of_mem _ (ih h λ y hy=>hc y (List.mem_cons_of_mem _ hy))
theorem dG{env:Env}{x:Str}:∀ {names:List (Str×NameKind)},names.lookup x=some .free ->
  (names.map λ(n,k)=>if (k==NameKind.free&&env.scope.kind==.function&&env.kindOf n==some .cell) then (n,NameKind.cell) else (n,k)).lookup x=some .cell \/
  (names.map λ(n,k)=>if (k==NameKind.free&&env.scope.kind==.function&&env.kindOf n==some .cell) then (n,NameKind.cell) else (n,k)).lookup x=some .free
 | [],h=>by simp at h
 | (n,k)::r,h=>by
  have ih:=@dG env x r
  by_cases hk:(k==NameKind.free&&env.scope.kind==.function&&env.kindOf n==some .cell)=true
  ·simp only[List.map_cons,if_pos hk,List.lookup_cons];cases hx:x==n with
   | true=>exact .inl rfl
   | false=>rw[List.lookup_cons,hx] at h;exact ih h
  ·simp only[List.map_cons,if_neg hk,List.lookup_cons];cases hx:x==n with
   | true=>rw[List.lookup_cons,hx] at h;exact .inr h
   | false=>rw[List.lookup_cons,hx] at h;exact ih h
def blk(X:Cx)(sc:Scope)(N':List Str)(cl:List (Str×Addr))(C:Addr)(s:Shared)(H:Hp)(ex:List Addr)(pins:PN):Cx:=
 {X with N:=N',s₀:=s,H₀:=H,env:=compEnvC sc cl C X.env,outer:=X.stack,ex:=ex,fn:=λ _=>false,pn:=X.pn++pins,xe:=λ _ _=>False}
def lcN(X:Cx)(own:List Str)(fr:List Nat):List Str:=own++fr.map λ j=>X.N.getD j Str.empty
def lcS(k:Nat)(fr:List Nat)(σ:St):St:=List.replicate k none++fr.map λ j=>(σ[j]?).getD none
def ae0(N:List Str)(sc:Scope)(fr:List Nat):Bool:=fr.all λ j=>match N[j]? with
 | some x=>sc.names.lookup x==some .free
 | none=>false
structure mq(X:Cx)(sc:Scope)(own:List Str)(fr:List Nat):Prop where
 kind:sc.kind=.function
 cell:∀ y∈sc.names,y.2 ≠ .cell
 free:∀ y∈sc.names,y.2=.free->(X.env.kindOf y.1=some .cell\/X.env.kindOf y.1=some .free)
 names:∀ y∈sc.names,y.2=.local->sc.names.lookup y.1=some .local
 fr:ae0 X.N sc fr=true
def PTs(X:Cx)(ifs:List Expr)(t:TT):Prop:=
 ∀ (pins:PN) (s:Shared) (σ:St) (H:Hp) (Q:Bool->Hp->Prop),Inv X pins σ H s->t σ H Q->wpAny (model X.prog X.w) X.A (q0 ifs X.env) (TP X pins σ Q) X.xe s
def ajo:TT:=λ _ H Q=>Q true H
theorem aeh:PTs X [] ajo:=λ _ _ _ H _ I h=>wpAny_tests_nil ⟨H,I,h⟩
theorem sm(h:ae0 N sc fr=true)(hj:j∈fr):∃ x,N[j]? =some x/\sc.names.lookup x=some .free:=by
 have q:=List.all_eq_true.mp h j hj;cases e:N[j]? with
 | none=>simp[e] at q
 | some x =>
  simp only[e] at q;exact⟨x,rfl,eq_of_beq q⟩
theorem afB(L:mq X sc own fr)(I:Inv X pins σ H s)(hf:∀ b∈fp,iE X pins H b)(hb:∀ b∈fp,b<s.heap.objs.size)(hC:s.heap.objs.size<=C)
  (c1:∀ n c,cl.lookup n=some c->X.env.cells.lookup n=some c)(c2:∀ n,(n,NameKind.free)∈sc.names->∃ c,cl.lookup n=some c):(blk X sc (lcN X own fr) cl C s H fp pins).Ok where
 mod:=I.ok.mod
 kind:=L.kind
 glob:=I.ok.glob
 blt:=I.ok.blt
 above:=hC
 inj:=λ x y c a b=>I.ok.inj x y c (c1 _ _ a) (c1 _ _ b)
 has:=λ x hx=>c2 x (i5 (sc:=sc) (env:=X.env) hx L.cell)
 cab:=λ x c z=>absurd (show false=true from z) Bool.false_ne_true
 hd:=I.ok.hd
 frames:=I.ok.frames
 stk:=.inl rfl
 exf:=λ b z=>⟨Nat.ne_of_lt (Nat.lt_of_lt_of_le (hb b z) hC),λ x c e=>(hf b z).2.2.2.2.1 x c (c1 _ _ e)⟩
 bs:=I.bs
 bsz:=Nat.le_trans I.ok.bsz I.sz
 noex:=λ b o e z=>by
  rcases(hf b z).2.2.2.1 with q | q
  ·exact I.ok.noex b o e q
  ·exact absurd (Nat.lt_of_lt_of_le (Heap.lt_size e) (Nat.le_trans I.ok.bsz q)) (Nat.lt_irrefl _)
 exfs:=λ b z q=>by
  rcases List.mem_cons.mp (I.iW b q) with e | e
  ·exact(hf b z).2.1 e
  ·exact(hf b z).2.2.1 e
 nI:=I.stack
 frf:=I.mw
theorem xZ(L:mq X sc own fr)(I:Inv X pins σ H s)(hf:∀ b∈fp,iE X pins H b)(hb:∀ b∈fp,b<s.heap.objs.size)(hC:s.heap.objs.size<=C)
  (c1:∀ n c,cl.lookup n=some c->X.env.cells.lookup n=some c)(c2:∀ n,(n,NameKind.free)∈sc.names->∃ c,cl.lookup n=some c)
(hn:h1.Ns C m) (k:∀ b o,s.heap.get? b=some o->h1.get? b=some o) :
  Inv (blk X sc (lcN X own fr) cl C s H fp pins) [] (lcS own.length fr σ) H {s with heap:=h1,toks:=tk}:=by
 have ok:=afB L I hf hb hC c1 c2;refine⟨ok,rfl,I.bare,Un.kept k,⟨m,hn,λ i x v e1 e2 e3=>?_⟩,λ x c e=>?_,I.hok.fresh hC,λ x c e=>I.freeC x c (c1 _ _ e),λ p hp=>?_,I.hok.kept k,?_⟩
 ·-- one of the names around
  have hi:¬ i<own.length:=λ hi=>by
   unfold lcS at e2;rw[List.getElem?_append_left (by simpa using hi),List.getElem?_replicate] at e2
   split at e2<;>cases e2
  have e1':(lcN X own fr)[i]? =some x:=e1;unfold lcN at e1';unfold lcS at e2;rw[List.getElem?_append_right (by omega),List.getElem?_map] at e1';rw[List.getElem?_append_right (by simpa using hi),List.getElem?_map,List.length_replicate] at e2;cases q:fr[i-own.length]? with
  | none=>rw[q] at e1';cases e1'
  | some j =>
   rw[q] at e1' e2;obtain⟨y,hy,hyf⟩:=sm L.fr (List.mem_of_getElem? q);have ex:y=x:=by have:=Option.some.inj e1';rw[<- this];simp[List.getD,hy]
   subst ex;have ev:σ[j]? =some (some v):=by
    have z:(σ[j]?).getD none=some v:=Option.some.inj e2;cases w:σ[j]? with
    | none=>rw[w] at z;cases z
    | some o=>rw[w] at z;exact congrArg some z
   have hm:(y,NameKind.free)∈sc.names:=PySem.mem_of_lookup hyf;have hk:=L.free _ hm rfl;have vis:Vis X.env.scope y:=by
    rcases hk with z | z
    ·exact .inr (.inl z)
    ·exact .inr (.inr z)
   obtain⟨m0,hn0,hl⟩:=I.loc;obtain⟨u,r,l⟩:=hl j y v hy ev vis;refine⟨u,r,.inr ⟨?_,?_⟩⟩
   ·exact dG (env:=X.env) hyf
   ·obtain⟨c,hc⟩:=c2 y hm;rcases l with ⟨z,_⟩ | ⟨_,c',hc',hcell⟩
    ·rcases hk with q | q
     ·exact absurd (show X.env.kindOf y=some .local from z) (by rw[q];decide)
     ·exact absurd (show X.env.kindOf y=some .local from z) (by rw[q];decide)
    ·have:c=c':=Option.some.inj ((c1 _ _ hc).symm.trans hc');subst this;obtain⟨o,ho,hd⟩:=hcell;exact⟨c,hc,o,k _ _ ho,hd⟩
 ·obtain⟨v,o,ho,hd⟩:=I.cell x c (c1 _ _ e);exact⟨v,o,k _ _ ho,hd⟩
 ·have hp':p∈X.pn++pins:=by simpa [blk] using hp
  obtain⟨a1,a2,a3,a4,a5⟩:=I.pin p hp';refine⟨k _ _ a1,a2,Nat.ne_of_lt (Nat.lt_of_lt_of_le (Heap.lt_size a1) hC),λ q=>?_,a5⟩;rcases List.mem_cons.mp (I.iW _ q) with e | e
  ·exact a3 e
  ·exact a4 e
 ·show(lcS own.length fr σ).length=(lcN X own fr).length;simp[lcS,lcN]
abbrev LcW:=Nat->Nat->List V->St->Hp->Prop
def abN(J:It)(g:TG)(tt:TT)(te:TE)(W:LcW)(Fin:List V->Hp->Prop):Prop:=∀ i m ys τ H,W i m ys τ H ->
 (J.stop i H/\Fin ys H)\/(J.go i H/\ys.length<sizeLine/\∀ x H',J.yld i H x H'->g x τ H' λ τ2 H2=>tt τ2 H2 λ b H3 =>
  if b=true then te τ2 H3 λ y H4=>∃ m',m'<m/\W (i+1) m' (ys++[y]) τ2 H4 else ∃ m',m'<m/\W (i+1) m' ys τ2 H3)
section
variable {X:Cx}{pins:PN}{σ:St}{H:Hp}{s:Shared}{sc:Scope}{own:List Str}{fr:List Nat}{cl:List (Str×Addr)}{fp:List Addr}{it:Addr}{J:It}{tn:Nat->Heap->Prop}{g:TG}{tt:TT}{te:TE}{W:LcW}{Fin:List V->Hp->Prop}
 {elt tg iter:Expr}{ifs:List Expr}{pos:Pos}{E:VP}
theorem wj{RR:Value->Addr->Result->Shared->Prop}(hc:X.calm=true)(L:mq X sc own fr)(hcl1:∀ n c,cl.lookup n=some c->X.env.cells.lookup n=some c)(hcl2:∀ n,(n,NameKind.free)∈sc.names->∃ c,cl.lookup n=some c)
  (hg:∀ C s H ex pl,PG (blk X sc (lcN X own fr) cl C s H ex pl) tg g)(ht:∀ C s H ex pl,PTs (blk X sc (lcN X own fr) cl C s H ex pl) ifs tt)(he:∀ C s H ex pl,PE (blk X sc (lcN X own fr) cl C s H ex pl) elt te)
  (I:Inv X pins σ H s)(T:Turn X.prog X.w X.K tg J fp it tn)(st:tn 0 s.heap)(hf:∀ b∈fp,iE X pins H b)(w0:∃ m,W 0 m [] (lcS own.length fr σ) H)(turn:abN J g tt te W Fin)
  (hRR:∀ (D C:Addr) (s':Shared) (H':Hp) (ys:List V) (us:List Value) (n:Nat) (m:Str->Option Value),Inv X pins σ H' s'->s'.heap.get? D=some {cls:=.type "list",data:=.seq us.toArray n}->Vals ys us->ys.length<=sizeLine->H' D=none->H' C=none ->
   s.heap.objs.size<=D->s.heap.objs.size<=C->D≠C->s'.heap.Ns C m->Fin ys H'->RR (.ref D) C (.ok .next) s') :
  wpAny (model X.prog X.w) X.A (newList []) (λ acc s₃=>wpAny (model X.prog X.w) X.A (newFunctionEnv sc X.env.globals cl [] X.env.qual none .none (some X.env)) (λ cenv s₄ =>
   codeAny (model X.prog X.w) X.A (.compStart (.ListComp elt [⟨tg,iter,ifs,0⟩] sc pos) 0 (.ref it) acc {cenv with scope:=relabel sc X.env}) (RR acc cenv.locals) s₄) E s₃) E s:=by
 refine wpAny_newObj_type (wpAny_newFunctionEnv L.cell (by intro y hy;simp at hy) (λ h₁ hns₁ hsb₁=>?_) L.kind);dsimp only at hns₁ hsb₁ ⊢;generalize hH2:s.heap.push {cls:=.type "list",dict:=none,data:=.seq ([]:List Value).toArray}=H2 at hns₁ hsb₁ ⊢;have hCs:H2.objs.size=s.heap.objs.size+1:=by rw[<- hH2,Heap.size_push]
 have hD0:s.heap.objs.size≠H2.objs.size:=by rw[hCs];exact Nat.ne_of_lt (Nat.lt_succ_self _)
 have hCle:s.heap.objs.size<=H2.objs.size:=by rw[hCs];exact Nat.le_succ _
 have below:∀ b,b<s.heap.objs.size->b≠H2.objs.size/\b≠s.heap.objs.size:=λ b hb=>⟨by rw[hCs];exact Nat.ne_of_lt (Nat.lt_succ_of_lt hb),Nat.ne_of_lt hb⟩;have old:∀ b o,s.heap.get? b=some o->h₁.get? b=some o:=λ b o e=>hsb₁.extBut b o (below b (Heap.lt_size e)).1 (Heap.get?_push_of_some _ (hH2 ▸ Heap.get?_push_of_some _ e));have hacc:h₁.get? s.heap.objs.size=some {cls:=.type "list",data:=.seq ([]:List Value).toArray 0}:=hsb₁.extBut _ _ hD0 (Heap.get?_push_of_some _ (hH2 ▸ Heap.get?_push_size _ rfl));have hfb:∀ b∈fp,b<s.heap.objs.size:=λ b hb=>by obtain⟨o,e,_⟩:=T.obj 0 _ st b hb;exact Heap.lt_size e
 have I1:Inv (blk X sc (lcN X own fr) cl H2.objs.size s H fp pins) [] (lcS own.length fr σ) H {s with heap:=h₁,toks:=s.toks+([]:List (Str×Value)).length}:=xZ L I hf hfb hCle hcl1 hcl2 hns₁ old;have st1:tn 0 h₁:=T.keep 0 _ _ st λ b _ o e=>old b o e;generalize hY:blk X sc (lcN X own fr) cl H2.objs.size s H fp pins=Y at I1;have hYp:Y.prog=X.prog:=by rw[<- hY];rfl
 have hYw:Y.w=X.w:=by rw[<- hY];rfl
 have hYK:Y.K=X.K:=by rw[<- hY];rfl
 have hYA:Y.A=X.A:=by rw[<- hY];rfl
 have hYc:Y.calm=true:=by rw[<- hY];exact hc
 have hYe:Y.env=compEnvC sc cl H2.objs.size X.env:=by rw[<- hY];rfl
 have hYx:Y.xe=λ _ _=>False:=by rw[<- hY];rfl
 have hYpn:Y.pn=X.pn++pins:=by rw[<- hY];rfl
 have hYs:Y.s₀=s:=by rw[<- hY];rfl
 have hYH:Y.H₀=H:=by rw[<- hY];rfl
 have hYex:Y.ex=fp:=by rw[<- hY];rfl
 have hYfs:Y.fs=frs X.stack:=by rw[<- hY];rfl
 have gY:=hg H2.objs.size s H fp pins;have tY:=ht H2.objs.size s H fp pins;have eY:=he H2.objs.size s H fp pins;rw[hY] at gY tY eY;have D_pin:∀ p∈Y.pn++([]:PN),p.1≠s.heap.objs.size:=λ p hp=>by rw[hYpn,List.append_nil] at hp;exact(below _ (Heap.lt_size (I.pin p hp).1)).2
 have D_cell:∀ x c,Y.env.cells.lookup x=some c->c≠s.heap.objs.size:=λ x c e=>by rw[hYe] at e;obtain⟨v,z⟩:=I.cell x c (hcl1 _ _ e);exact(below _ z.lt).2
 have D_loc:s.heap.objs.size≠Y.env.locals:=by rw[hYe];exact hD0
 have D_fs:s.heap.objs.size ∉ Y.fs:=by
  rw[hYfs];intro z;rcases List.mem_cons.mp (I.iW _ z) with e | e
  ·exact absurd I.lt (by rw[<- e];exact Nat.lt_irrefl _)
  ·exact I.aiO (Nat.le_refl _) e
 have fpY:∀ {H':Hp} (pl:PN),(∀ b∈fp,H' b=none)->(∀ p∈pl,p.1=s.heap.objs.size)->∀ b∈fp,iE Y pl H' b:=λ {H'} pl hn hp b hb=>by
  obtain⟨_,f1,f2,f3,f4,f5⟩:=hf b hb;refine⟨hn b hb,by rw[hYe];exact(below b (hfb b hb)).1,?_,.inl (by rw[hYex];exact hb),λ x c e=>?_,λ p q=>?_⟩
  ·rw[hYfs];intro z;rcases List.mem_cons.mp (I.iW _ z) with e | e
   ·exact f1 e
   ·exact f2 e
  ·rw[hYe] at e;exact f4 x c (hcl1 _ _ e)
  ·rcases List.mem_append.mp q with z | z
   ·rw[hYpn] at z;exact f5 p z
   ·rw[hp p z];exact Ne.symm (below b (hfb b hb)).2
 have loop:∀ s₃:Shared,s₃={s with heap:=h₁,toks:=s.toks+([]:List (Str×Value)).length} ->
   codeAny (model X.prog X.w) X.A (.compLoop (.ListComp elt [⟨tg,iter,ifs,0⟩] sc pos) 0 (.ref it) (.ref s.heap.objs.size) (compEnvC sc cl H2.objs.size X.env)) (RR (.ref s.heap.objs.size) H2.objs.size) s₃:=by
  rintro s₃ rfl;obtain⟨m0,w0⟩:=w0;refine pY (λ n s'=>∃ i ys τ H' us k,Inv Y [] τ H' s'/\tn i s'.heap/\(∀ b∈fp,H' b=none)/\H' s.heap.objs.size=none/\s'.heap.get? s.heap.objs.size=some {cls:=.type "list",data:=.seq us.toArray k}/\Vals ys us/\ys.length<=sizeLine/\W i n ys τ H') ?_ m0
   ⟨0,[],_,H,[],0,I1,st1,λ b hb=>(hf b hb).1,I.hok.fresh (Nat.le_refl _),hacc,.nil,Nat.zero_le _,w0⟩
  rintro n s' ⟨i,ys,τ,H',us,k,I',st',hn',hD',ha',hv',hz',w'⟩;have Ip:Inv Y [(s.heap.objs.size,{cls:=.type "list",data:=.seq us.toArray k})] τ H' s':=I'.dN λ p hp=>by
   have e:p=(s.heap.objs.size,{cls:=.type "list",data:=.seq us.toArray k}):=by simpa using hp
   subst e;exact⟨ha',hD',D_loc,D_fs,λ v z=>nomatch (show Data.seq _ _=Data.cell v from z)⟩
  have onlyD:∀ p∈[((s.heap.objs.size,{cls:=.type "list",data:=.seq us.toArray k}):Addr×Obj)],p.1=s.heap.objs.size:=λ p hp=>by
   have e:p=(s.heap.objs.size,{cls:=.type "list",data:=.seq us.toArray k}):=by simpa using hp
   subst e;rfl
  rcases turn i n ys τ H' w' with ⟨stop,fin⟩ | ⟨go,hlen,step⟩
  ·have q:=T.done Y hYp hYw hYK hYc i _ s' τ H' (λ _ _=>False) Ip (fpY _ hn' onlyD) st' stop;rw[hYA] at q;refine thn q λ r s4 hq29=>?_;obtain⟨hr,I4⟩:=hq29;subst hr;have un:Un (frs X.stack) fp H H' s.heap s4.heap:=by have z:=I4.base;rw[hYfs,hYex,hYH,hYs] at z;exact z
   have os4:s4.os=s.os:=by have z:=I4.os;rw[hYs] at z;exact z
   have hok4:HOk X.prog X.w H' s4.heap:=by have z:=I4.hok;rw[hYp,hYw] at z;exact z
   have hch:∀ b∈fp,(b∈X.ex\/X.s₀.heap.objs.size<=b)/\b≠X.env.locals/\(∀ x c,X.env.cells.lookup x=some c->c≠b)/\∀ p∈X.pn++pins,p.1≠b:=λ b hb=>by obtain⟨_,f1,f2,f3,f4,f5⟩:=hf b hb;exact⟨f3,f1,f4,f5⟩
   have IX:Inv X pins σ H' s4:=I.adq os4 un hok4 I4.bare hch;obtain⟨mC,hmC,_⟩:=I4.loc;have hCf:=I4.free;rw[hYe] at hmC hCf;have pD:=I4.pin (s.heap.objs.size,{cls:=.type "list",data:=.seq us.toArray k}) (List.mem_append_right _ (List.mem_singleton.mpr rfl));exact hRR _ _ s4 H' ys us k mC IX pD.1 hv' hz' pD.2.1 hCf (Nat.le_refl _) hCle hD0 hmC fin
  ·have q:=T.item Y hYp hYw hYK hYc i _ s' τ H' (λ _ _=>False) Ip (fpY _ hn' onlyD) st' go;rw[hYA] at q;refine thn q λ r s4 hq30=>?_;obtain⟨u,hr,h4⟩:=hq30;subst hr;refine thn h4 λ _ s5 hq31=>?_;obtain⟨x,H5,I5,r5,y5,st5,fr5⟩:=hq31;have I5':=I5.pinned (fpY _ fr5 onlyD) (T.obj _ _ st5);have g5:=gY _ s5 τ H5 x u _ I5' r5 (step x H5 y5);rw[hYp,hYw,hYA,hYe,hYx] at g5;refine thn g5 λ _ s6 hq32=>?_;obtain⟨σ6,H6,I6,q6⟩:=hq32;have t6:=tY _ s6 σ6 H6 _ I6 q6;rw[hYp,hYw,hYA,hYe,hYx] at t6;refine thn t6 λ ok s7 hq33=>?_;obtain⟨H7,I7,q7⟩:=hq33;have keepD:∀ {σ8:St} {H8:Hp} {s8:Shared},Inv Y ([(s.heap.objs.size,{cls:=.type "list",data:=.seq us.toArray k})]++kI fp s5.heap) σ8 H8 s8->s8.heap.get? s.heap.objs.size=some {cls:=.type "list",data:=.seq us.toArray k}/\H8 s.heap.objs.size=none:=
    λ {σ8 H8 s8} I8=>by have pD:=I8.pin (s.heap.objs.size,{cls:=.type "list",data:=.seq us.toArray k}) (List.mem_append_right _ (List.mem_append_left _ (List.mem_singleton.mpr rfl)));exact⟨pD.1,pD.2.1⟩
   have keepI:∀ {σ8:St} {H8:Hp} {s8:Shared},Inv Y ([(s.heap.objs.size,{cls:=.type "list",data:=.seq us.toArray k})]++kI fp s5.heap) σ8 H8 s8->tn (i+1) s8.heap/\∀ b∈fp,H8 b=none:=
    λ {σ8 H8 s8} I8=>by refine⟨T.keep _ _ _ st5 λ b hb o e=>(I8.pin (b,o) (List.mem_append_right _ (List.mem_append_right _ (dq hb e)))).1,λ b hb=>?_⟩;obtain⟨o,e,d⟩:=T.obj _ _ st5 b hb;exact(I8.pin (b,o) (List.mem_append_right _ (List.mem_append_right _ (dq hb e)))).2.1
   cases ok with
   | false =>
    rw[if_neg Bool.false_ne_true] at q7 ⊢;obtain⟨m',hm',w7⟩:=q7;obtain⟨a7,b7⟩:=keepD I7;obtain⟨c7,d7⟩:=keepI I7;exact⟨m',hm',i+1,ys,σ6,H7,us,k,I7.dN (λ p hp=>(nomatch hp)),c7,d7,b7,a7,hv',hz',w7⟩
   | true =>
    rw[if_pos rfl] at q7 ⊢;have e7:=eY _ s7 σ6 H7 _ I7 q7;rw[hYp,hYw,hYA,hYe,hYx] at e7;refine thn e7 λ v s8 hq34=>?_;obtain⟨y,H8,I8,r8,m',hm',w8⟩:=hq34;obtain⟨a8,b8⟩:=keepD I8;obtain⟨c8,d8⟩:=keepI I8;have hl:=hv'.length;refine call_meets F.slot_list_append ⟨_,a8,rfl⟩ F.entry_list_append (F.args_list_append_2 _ _) (PySem.list_append s.heap.objs.size us.toArray k v (by rw[List.size_toArray];omega)) ⟨a8,?_⟩;have qu:=PySem.IsL.update a8 (λ xs=>xs.push v);have I9:=(I8.dN (pins':=[]) λ p hp=>nomatch hp).turned (it:=s.heap.objs.size) (t':=s8.toks) (h':=s8.heap.update s.heap.objs.size (Obj.mapSeq λ xs=>xs.push v)) (λ b o hb e=>(Heap.get?_update_other s8.heap _ (Ne.symm hb)).trans e) b8 D_loc (.inr (by rw[hYs];exact Nat.le_refl _)) D_cell D_pin;have ep:us.toArray.push v=(us++[v]).toArray:=by simp
    rw[ep] at qu;refine⟨m',hm',i+1,ys++[y],σ6,H8,us++[v],(if (us++[v]).toArray.size==us.toArray.size then k else k+1),I9,T.keep _ _ _ c8 λ b hb o e=>(Heap.get?_update_other s8.heap _ (Ne.symm (below b (hfb b hb)).2)).trans e,d8,b8,?_,hv'.append (.cons r8 .nil),?_,w8⟩
    ·exact qu
    ·rw[List.length_append,List.length_singleton];omega
 exact codeAny_compStart_list (loop _ rfl) (T.self _ 0 _ _ _ st1 (loop _ rfl))
def tLC(wi:TI)(g:TG)(tt:TT)(te:TE)(k:Nat)(fr:List Nat):TE:=λ σ H Q=>wi σ H λ J H1=>∃ W:LcW,(∃ m,W 0 m [] (lcS k fr σ) H1)/\abN J g tt te W λ ys H2=>∀ p,H2 p=none->Q (.ref p) (upd H2 p (.lst ys))
theorem fO(L:mq X sc own fr)(ok:X.Ok):∃ cl,closureFor sc X.env=pure cl/\(∀ n c,cl.lookup n=some c->X.env.cells.lookup n=some c)/\(∀ n,(n,NameKind.free)∈sc.names->∃ c,cl.lookup n=some c):=
 i8 λ x hx hf=>ok.has x.1 (L.free x hx hf)
theorem afi(hc:X.calm=true)(L:mq X sc own fr)(hi:PI X tg iter wi)
  (hg:∀ cl C s H ex pl,PG (blk X sc (lcN X own fr) cl C s H ex pl) tg g)(ht:∀ cl C s H ex pl,PTs (blk X sc (lcN X own fr) cl C s H ex pl) ifs tt)(he:∀ cl C s H ex pl,PE (blk X sc (lcN X own fr) cl C s H ex pl) elt te)
  (hs:∀ x,foldedSetIterable iter X.env x=pure x:=by intro _;rfl):PE X (.ListComp elt [⟨tg,iter,ifs,0⟩] sc pos) (tLC wi g tt te own.length fr):=by
 intro pins s σ H Q I h;obtain⟨cl,hcl,c1,c2⟩:=fO L I.ok;rw[eval_ListComp];refine wpAny_comprehension_free (use:=none) (g:=⟨tg,iter,ifs,0⟩) (gs:=[]) rfl hs hcl L.kind L.names ?_;refine thn (hi pins s σ H _ I h) λ v s1 h1=>thn h1 λ itv s2 h2=>?_;obtain⟨it,fp,tn,J,H2,e,I2,T,st2,f2,W,w0,turn⟩:=h2;subst e;refine wj (cl:=cl) hc L c1 c2 (hg cl) (ht cl) (he cl) I2 T st2 f2 w0 turn λ D C s' H' ys us n m I' a' hv hz hD hC dD dC hDC hns fin=>?_;refine⟨m,hns,λ h' sb=>?_⟩;have far:∀ b,s2.heap.objs.size<=b->(X.s₀.heap.objs.size<=b)/\b≠X.env.locals/\(∀ x c,X.env.cells.lookup x=some c->c≠b)/\∀ p∈X.pn++pins,p.1≠b:=λ b hb=>by obtain⟨_,f1,_,f3,f4,f5⟩:=I2.nU (H':=λ _=>none) hb rfl;refine⟨Nat.le_trans I2.sz hb,f1,f4,f5⟩
 obtain⟨z1,z2,z3,z4⟩:=far C dC;obtain⟨y1,y2,y3,y4⟩:=far D dD;have I3:Inv X pins σ H' {s' with heap:=h'}:=I'.turned (t':=s'.toks) (λ b o hb e=>sb.extBut b o hb e) hC z2 (.inr z1) z3 z4;exact⟨.ref D,_,I3.zZ (sb.extBut _ _ hDC a') hD hv hz y1 y2 y3 y4,rfl,fin D hD⟩
theorem aaY(hN:X.N.Nodup)(hi':X.N[i]? =some x)(hx:Loc X.env.scope x)(hc:X.calm=true)(L:mq X sc own fr)(hi:PI X tg iter wi)
  (hg:∀ cl C s H ex pl,PG (blk X sc (lcN X own fr) cl C s H ex pl) tg g)(ht:∀ cl C s H ex pl,PTs (blk X sc (lcN X own fr) cl C s H ex pl) ifs tt)(he:∀ cl C s H ex pl,PE (blk X sc (lcN X own fr) cl C s H ex pl) elt te)
  (hsw:swapsWith (.ListComp elt [⟨tg,iter,ifs,0⟩] sc pos) (some (.Name x pos')) spos.line X.env=pure true:=by rfl)
  (hs:∀ x,foldedSetIterable iter X.env x=pure x:=by intro _;rfl)(hf:X.fn x=true\/X.env.scope.names.lookup x=some .local:=by first | exact .inl rfl | exact .inr rfl | assumption) :
  PS X (.Assign [.Name x pos'] (.ListComp elt [⟨tg,iter,ifs,0⟩] sc pos) spos) (agw (tLC wi g tt te own.length fr) (aaT i)):=by
 intro pins s σ H D' I h;obtain⟨cl,hcl,c1,c2⟩:=fO L I.ok;rw[exec_Assign_Name_used _ _ _ _ hsw];refine wpAny_bind (wpAny_standAt (wpAny_bind ?_));show wpAny _ _ (evalThenUse (.ListComp elt [⟨tg,iter,ifs,0⟩] sc pos) X.env (assign (.Name x pos') X.env)) _ _ _;unfold evalThenUse;refine wpAny_bind ?_;refine wpAny_comprehension_free (use:=some (assign (.Name x pos') X.env)) (g:=⟨tg,iter,ifs,0⟩) (gs:=[]) rfl hs hcl L.kind L.names ?_;refine thn (hi pins s σ H _ I h) λ v s1 h1=>thn h1 λ itv s2 h2=>?_;obtain⟨it,fp,tn,J,H2,e,I2,T,st2,f2,W,w0,turn⟩:=h2;subst e;refine wj (cl:=cl) hc L c1 c2 (hg cl) (ht cl) (he cl) I2 T st2 f2 w0 turn λ D C s' H' ys us n m I' a' hv hz hD hC dD dC hDC hns fin=>?_;have far:∀ b,s2.heap.objs.size<=b->(X.s₀.heap.objs.size<=b)/\b≠X.env.locals/\(∀ x c,X.env.cells.lookup x=some c->c≠b)/\(b ∉ X.fs)/\∀ p∈X.pn++pins,p.1≠b:=λ b hb=>by obtain⟨_,f1,f2,f3,f4,f5⟩:=I2.nU (H':=λ _=>none) hb rfl;refine⟨Nat.le_trans I2.sz hb,f1,f4,f2,f5⟩
 obtain⟨z1,z2,z3,z0,z4⟩:=far C dC;obtain⟨y1,y2,y3,_,y4⟩:=far D dD;have I3:=I'.zZ a' hD hv hz y1 y2 y3 y4;obtain⟨oC,hoC,nsC⟩:∃ o,s'.heap.get? C=some o/\∃ es ep,o.data=.dict es ep:=by obtain⟨o,es,ep,e1,e2,_⟩:=hns;exact⟨o,e1,es,ep,e2⟩
 have hCt:(upd H' D (.lst ys)) C=none:=by rw[aj (Ne.symm hDC)];exact hC
 have I4:Inv X (pins++[(C,oC)]) σ (upd H' D (.lst ys)) s':=I3.dN λ p hp=>by
  rcases List.mem_append.mp hp with z | z
  ·exact I3.pin p (List.mem_append_right _ z)
  ·have e:p=(C,oC):=by simpa using z
   subst e;obtain⟨es,ep,hd⟩:=nsC;exact⟨hoC,hCt,z2,z0,λ v z=>by have z':oC.data=.cell v:=z;rw[hd] at z';cases z'⟩
 refine thn (qM (pos:=pos') hN hi' hx hf _ s' σ _ (.ref D) (.ref D) _ I4 rfl (fin D hD)) λ _ s5 hq35=>?_;obtain⟨σ5,H5,I5,q5⟩:=hq35;have pC:=I5.pin (C,oC) (List.mem_append_right _ (List.mem_append_right _ (List.mem_singleton.mpr rfl)));obtain⟨o,es,ep,e1,e2,e3⟩:=hns;rw[hoC] at e1;cases e1;refine⟨m,⟨oC,es,ep,pC.1,e2,e3⟩,λ h' sb=>?_⟩;have I6:Inv X pins σ5 H5 {s5 with heap:=h'}:=(I5.hJ).turned (t':=s5.toks) (λ b o hb e=>sb.extBut b o hb e) pC.2.1 z2 (.inr z1) z3 z4;exact wpAny_pure (wpAny_pure ⟨σ5,H5,I6,q5⟩)
end
end L2
namespace D
open L2
abbrev St:=L2.St
structure Kp(H H':Hp):Prop where
 tup:∀ b xs,H b=some (.tup xs)->H' b=some (.tup xs)
 frz:∀ b o u,H b=some (.frz o u)->H' b=some (.frz o u)
theorem Kp.refl(H:Hp):Kp H H:=⟨λ _ _ e=>e,λ _ _ _ e=>e⟩
theorem Kp.trans(a:Kp H H1)(b:Kp H1 H2):Kp H H2:=⟨λ c xs e=>b.tup c xs (a.tup c xs e),λ c o u e=>b.frz c o u (a.frz c o u e)⟩
theorem Kp.new(h:H p=none):Kp H (upd H p o):=⟨λ b xs e=>by rw[aj (aF e h)];exact e,λ b ob u e=>by rw[aj (aF e h)];exact e⟩
theorem Kp.set(h:H p=some u)(ht:∀ xs,u ≠ .tup xs)(hf:∀ ob v,u ≠ .frz ob v):Kp H (upd H p o):=
 ⟨λ b xs e=>by rw[aj (ur e h λ z=>ht _ z.symm)];exact e,λ b ob v e=>by rw[aj (ur e h λ z=>hf _ _ z.symm)];exact e⟩
theorem Kp.un(u:Un fs ex H H' h h'):Kp H H':=⟨u.lg,u.frzs⟩
def SqF(K:FG)(H:Hp)(a:Addr)(xs:List V):Prop:=
 (∃ o,H a=some (.frz o (.lst xs)))\/∃ (o:Obj) (its:Array Value) (n:Nat),K.lookup a=some o/\o.cls=.type "list" /\ o.dict=none/\o.data=.seq its n/\its.size<=sizeLine/\Vals xs its.toList
theorem SqF.sq{K:FG}{H:Hp}{a:Addr}{xs:List V}(h:SqF K H a xs):SqL K H a xs:=by
 rcases h with h | h
 ·exact .inl (.inr h)
 ·exact .inr h
theorem SqF.keep{K:FG}{H H':Hp}{a:Addr}{xs:List V}(k:Kp H H')(h:SqF K H a xs):SqF K H' a xs:=by
 rcases h with ⟨o,h⟩ | h
 ·exact .inl ⟨o,k.frz _ _ _ h⟩
 ·exact .inr h
theorem SqT.keep{K:FG}{H H':Hp}{a:Addr}{xs:List V}(k:Kp H H')(h:SqT K H a xs):SqT K H' a xs:=by
 rcases h with (h | ⟨o,h⟩) | h
 ·exact .inl (.inl (k.tup _ _ h))
 ·exact .inl (.inr ⟨o,k.frz _ _ _ h⟩)
 ·exact .inr h
def qd:Key->PyData
 | .inl i=>.int i
 | .inr x=>.str x
mutual
def ay(K:FG)(H:Hp):PyData->V->Prop
 | .none,v=>v=.non
 | .bool b,v=>v=.bl b
 | .int i,v=>v=.int i
 | .str x,v=>v=.str x
 | .list ds,v=>∃ a vs,v=.ref a/\SqF K H a vs/\aT K H ds vs
 | .tuple ds,v=>∃ a vs,v=.ref a/\SqT K H a vs/\aT K H ds vs
 | .dict kvs,v=>∃ a o l,v=.ref a/\H a=some (.frz o (.dK l))/\k9 K H kvs l
def aT(K:FG)(H:Hp):List PyData->List V->Prop
 | [],vs=>vs=[]
 | d::ds,vs=>∃ v r,vs=v::r/\ay K H d v/\aT K H ds r
def k9(K:FG)(H:Hp):List (PyData×PyData)->List (Key×V)->Prop
 | [],l=>l=[]
 | (k,d)::ds,l=>∃ key v r,l=(key,v)::r/\k=qd key/\ay K H d v/\k9 K H ds r
end
mutual
theorem ay.keep{K:FG}{H H':Hp}(k:Kp H H'):∀ {d:PyData} {v:V},ay K H d v->ay K H' d v
 | .none,v,h=>by simp only[ay] at h ⊢;exact h
 | .bool b,v,h=>by simp only[ay] at h ⊢;exact h
 | .int i,v,h=>by simp only[ay] at h ⊢;exact h
 | .str x,v,h=>by simp only[ay] at h ⊢;exact h
 | .list ds,v,h=>by simp only[ay] at h ⊢;obtain⟨a,vs,e,s,r⟩:=h;exact⟨a,vs,e,s.keep k,aT.keep k r⟩
 | .tuple ds,v,h=>by simp only[ay] at h ⊢;obtain⟨a,vs,e,s,r⟩:=h;exact⟨a,vs,e,SqT.keep k s,aT.keep k r⟩
 | .dict kvs,v,h=>by simp only[ay] at h ⊢;obtain⟨a,o,l,e,s,r⟩:=h;exact⟨a,o,l,e,k.frz _ _ _ s,k9.keep k r⟩
theorem aT.keep{K:FG}{H H':Hp}(k:Kp H H'):∀ {ds:List PyData} {vs:List V},aT K H ds vs->aT K H' ds vs
 | [],vs,h=>by simp only[aT] at h ⊢;exact h
 | d::ds,vs,h=>by simp only[aT] at h ⊢;obtain⟨v,r,e,h1,h2⟩:=h;exact⟨v,r,e,ay.keep k h1,aT.keep k h2⟩
theorem k9.keep{K:FG}{H H':Hp}(k:Kp H H'):∀ {ds:List (PyData×PyData)} {l:List (Key×V)},k9 K H ds l->k9 K H' ds l
 | [],l,h=>by simp only[k9] at h ⊢;exact h
 | (key,d)::ds,l,h=>by simp only[k9] at h ⊢;obtain⟨k',v,r,e,ek,h1,h2⟩:=h;exact⟨k',v,r,e,ek,ay.keep k h1,k9.keep k h2⟩
end
theorem aT.length{K:FG}{H:Hp}:∀ {ds:List PyData} {vs:List V},aT K H ds vs->vs.length=ds.length
 | [],vs,h=>by simp only[aT] at h;rw[h];rfl
 | d::ds,vs,h=>by simp only[aT] at h;obtain⟨v,r,e,_,h2⟩:=h;rw[e,List.length_cons,List.length_cons,aT.length h2]
theorem aT.get{K:FG}{H:Hp}:∀ {ds:List PyData} {vs:List V} {i:Nat} {d:PyData},aT K H ds vs->ds[i]? =some d->∃ v,vs[i]? =some v/\ay K H d v
 | [],_,_,_,_,e=>by simp at e
 | d::ds,vs,0,d',h,e=>by simp only[aT] at h;obtain⟨v,r,ev,h1,_⟩:=h;simp at e;subst e;exact⟨v,by rw[ev];rfl,h1⟩
 | d::ds,vs,i+1,d',h,e=>by simp only[aT] at h;obtain⟨v,r,ev,_,h2⟩:=h;obtain⟨v',e1,e2⟩:=aT.get (i:=i) h2 (by simpa using e);exact⟨v',by rw[ev];simpa using e1,e2⟩
theorem aT.get'{K:FG}{H:Hp}{ds:List PyData}{vs:List V}{i:Nat}{v:V}(h:aT K H ds vs)(e:vs[i]? =some v):∃ d,ds[i]? =some d/\ay K H d v:=by
 have hi:i<ds.length:=by have:=(List.getElem?_eq_some_iff.mp e).1;rw[h.length] at this;exact this
 obtain⟨v',e1,r⟩:=h.get (i:=i) (d:=ds[i]) (by simp[hi]);rw[e] at e1;cases e1;exact⟨ds[i],by simp[hi],r⟩
theorem aT.ints{K:FG}{H:Hp}:∀ (ns:List Int),aT K H (ns.map PyData.int) (ns.map V.int)
 | []=>by simp[aT]
 | n::ns=>by simp only[List.map_cons,aT];exact⟨_,_,rfl,by simp[ay],aT.ints ns⟩
theorem aT.append{K:FG}{H:Hp}:∀ {ds es:List PyData} {vs us:List V},aT K H ds vs->aT K H es us->aT K H (ds++es) (vs++us)
 | [],es,vs,us,h,q=>by simp only[aT] at h;subst h;exact q
 | d::ds,es,vs,us,h,q=>by simp only[aT] at h;obtain⟨v,r,e,h1,h2⟩:=h;subst e;simp only[List.cons_append,aT];exact⟨v,r++us,rfl,h1,aT.append h2 q⟩
theorem aT.drop{K:FG}{H:Hp}:∀ {ds:List PyData} {vs:List V} (n:Nat),aT K H ds vs->aT K H (ds.drop n) (vs.drop n)
 | ds,vs,0,h=>by simpa using h
 | [],vs,n+1,h=>by simp only[aT] at h;subst h;simp[aT]
 | d::ds,vs,n+1,h=>by
  simp only[aT] at h;obtain⟨v,r,e,_,h2⟩:=h;subst e
  simpa using aT.drop n h2
theorem aT.take{K:FG}{H:Hp}:∀ {ds:List PyData} {vs:List V} (n:Nat),aT K H ds vs->aT K H (ds.take n) (vs.take n)
 | ds,vs,0,h=>by simp[aT]
 | [],vs,n+1,h=>by simp only[aT] at h;subst h;simp[aT]
 | d::ds,vs,n+1,h=>by simp only[aT] at h;obtain⟨v,r,e,h1,h2⟩:=h;subst e;simp only[List.take_succ_cons,aT];exact⟨v,_,rfl,h1,aT.take n h2⟩
inductive W where
 | d (x:PyData)
 | m (a:Addr)
 | t (n:String)
inductive MO where
 | lst (ws:List W)
 | dic (kvs:List (Key×W))
 | dct (kvs:List (List Key×W))
 | fdic (kvs:List (Key×W))
 | ins (C:Addr) (fs:List (Str×W))
 | tup (ws:List W)
 | flst (ws:List W)
 | exc (C:Addr) (fs:List (Str×W))
 | code (q:Str) (pos:Pos)
abbrev MH:=Addr->Option MO
def bN(M:MH)(a:Addr)(o:MO):MH:=λ b=>if b=a then some o else M b
theorem ah:bN M a o a=some o:=if_pos rfl
theorem aw(h:b≠a):bN M a o b=M b:=if_neg h
theorem g7:bN (bN M a o) a u=bN M a u:=by funext b;unfold bN;split<;>rfl
abbrev DS:=List (Option W)
def aB(K:FG)(H:Hp):W->V->Prop
 | .d x,v=>ay K H x v
 | .m a,v=>v=.ref a
 | .t n,v=>v=.ty n
theorem aB.keep{K:FG}{H H':Hp}(k:Kp H H'):∀ {w:W} {v:V},aB K H w v->aB K H' w v
 | .d _,_,h=>ay.keep k h
 | .m _,_,h=>h
 | .t _,_,h=>h
def bF(K:FG)(H:Hp):List W->List V->Prop:=Paired (aB K H)
theorem bF.keep{K:FG}{H H':Hp}(k:Kp H H'){ws:List W}{vs:List V}(h:bF K H ws vs):bF K H' ws vs:=Paired.iu h λ _ _ r=>r.keep k
theorem bF.length{K:FG}{H:Hp}{ws:List W}{vs:List V}(h:bF K H ws vs):ws.length=vs.length:=Paired.length h
theorem bF.get{K:FG}{H:Hp}:∀ {ws:List W} {vs:List V} {i:Nat} {w:W},bF K H ws vs->ws[i]? =some w->∃ v,vs[i]? =some v/\aB K H w v
 | _,_,_,_,.nil,e=>by simp at e
 | _,_,0,_,.cons r _,e=>by simp at e;subst e;exact⟨_,rfl,r⟩
 | _,_,i+1,_,.cons _ t,e=>by obtain⟨u,h1,h2⟩:=bF.get (i:=i) t (by simpa using e);exact⟨u,by simpa using h1,h2⟩
theorem bF.set{K:FG}{H:Hp}{w:W}{v:V}(r:aB K H w v):∀ {ws:List W} {vs:List V} (i:Nat),bF K H ws vs->bF K H (ws.set i w) (vs.set i v)
 | _,_,_,.nil=>.nil
 | _,_,0,.cons _ t=>.cons r t
 | _,_,i+1,.cons q t=>.cons q (bF.set r i t)
theorem bF.append{K:FG}{H:Hp}:∀ {ws ws':List W} {vs vs':List V},bF K H ws vs->bF K H ws' vs'->bF K H (ws++ws') (vs++vs')
 | _,_,_,_,.nil,s=>s
 | _,_,_,_,.cons r t,s=>.cons r (bF.append t s)
theorem bF.data{K:FG}{H:Hp}:∀ {ds:List PyData} {vs:List V},bF K H (ds.map W.d) vs->aT K H ds vs
 | [],_,h=>by cases h;simp[aT]
 | d::ds,_,h=>by
  cases h with
  | cons r t=>simp only[aT];exact⟨_,_,rfl,r,bF.data t⟩
theorem aT.ws{K:FG}{H:Hp}:∀ {ds:List PyData} {vs:List V},aT K H ds vs->bF K H (ds.map W.d) vs
 | [],vs,h=>by simp only[aT] at h;subst h;exact .nil
 | d::ds,vs,h=>by simp only[aT] at h;obtain⟨v,r,e,h1,h2⟩:=h;subst e;exact .cons h1 (aT.ws h2)
def adP(K:FG)(H:Hp)(a:Addr):MO->Prop
 | .lst ws=>∃ vs,H a=some (.lst vs)/\bF K H ws vs
 | .dic kvs=>∃ l,H a=some (.dK l)/\Paired (λ(p:Key×W) (q:Key×V)=>p.1=q.1/\aB K H p.2 q.2) kvs l
 | .fdic kvs=>∃ o l,H a=some (.frz o (.frz o (.dK l)))/\Paired (λ(p:Key×W) (q:Key×V)=>p.1=q.1/\aB K H p.2 q.2) kvs l
 | .dct kvs=>∃ l,H a=some (.dT l)/\Paired (λ(p:List Key×W) (q:List Key×V)=>p.1=q.1/\aB K H p.2 q.2) kvs l
 | .ins C fs=>∃ dx l,H a=some (.ins C dx l)/\Paired (λ(p:Str×W) (q:Str×V)=>p.1=q.1/\aB K H p.2 q.2) fs l
 | .tup ws=>∃ vs,H a=some (.tup vs)/\bF K H ws vs
 | .flst ws=>∃ o vs,H a=some (.frz o (.frz o (.lst vs)))/\bF K H ws vs
 | .exc C fs=>∃ φ dct,H a=some (.ext φ)/\(∀ h,φ h->∃ vs,h.get? a=some {cls:=.ref C,dict:=dct,data:=.fields vs}/\(fs=[]->vs[2]? =some .none)) /\
   ((dct=none/\fs=[])\/∃ dx o l,dct=some dx/\H dx=some (.frz o (.xd l))/\Paired (λ(p:Str×W) (q:Str×V)=>p.1=q.1/\aB K H p.2 q.2) fs l)
 | .code q pos=>∃ ps,H a=some (.tbl ps)/\TriplesOk ps.toList/\(codeAmong pos ps.toList=none\/∃ c o vs t,codeAmong pos ps.toList=some (.ref c)/\H c=some (.frz o (.own 0))/\o.data=.fields vs/\vs[1]? =some (.str q t))
def cf(K:FG)(H:Hp)(M:MH):Prop:=∀ a o,M a=some o->adP K H a o
theorem adP.is{K:FG}{H:Hp}{a:Addr}{o:MO}(h:adP K H a o):∃ u,H a=some u:=by
 cases o with
 | lst ws=>obtain⟨vs,e,_⟩:=h;exact⟨_,e⟩
 | dic kvs=>obtain⟨l,e,_⟩:=h;exact⟨_,e⟩
 | dct kvs=>obtain⟨l,e,_⟩:=h;exact⟨_,e⟩
 | fdic kvs=>obtain⟨o,l,e,_⟩:=h;exact⟨_,e⟩
 | ins C fs=>obtain⟨dx,l,e,_⟩:=h;exact⟨_,e⟩
 | tup ws=>obtain⟨vs,e,_⟩:=h;exact⟨_,e⟩
 | flst ws=>obtain⟨o,vs,e,_⟩:=h;exact⟨_,e⟩
 | exc C fs=>obtain⟨φ,dct,e,_⟩:=h;exact⟨_,e⟩
 | code q pos=>obtain⟨ps,e,_⟩:=h;exact⟨_,e⟩
theorem cf.free{K:FG}{H:Hp}{M:MH}(h:cf K H M){p:Addr}(e:H p=none):M p=none:=by
 cases q:M p with
 | none=>rfl
 | some o =>
  obtain⟨u,z⟩:=(h p o q).is;rw[e] at z;cases z
theorem adP.keep{K:FG}{H H':Hp}{a:Addr}{o:MO}(k:Kp H H')(s:∀ u,H a=some u->H' a=some u)(h:adP K H a o):adP K H' a o:=by
 cases o with
 | lst ws=>obtain⟨vs,e,r⟩:=h;exact⟨vs,s _ e,r.keep k⟩
 | dic kvs=>obtain⟨l,e,r⟩:=h;exact⟨l,s _ e,Paired.iu r λ p q z=>⟨z.1,z.2.keep k⟩⟩
 | dct kvs=>obtain⟨l,e,r⟩:=h;exact⟨l,s _ e,Paired.iu r λ p q z=>⟨z.1,z.2.keep k⟩⟩
 | fdic kvs=>obtain⟨o,l,e,r⟩:=h;exact⟨o,l,s _ e,Paired.iu r λ p q z=>⟨z.1,z.2.keep k⟩⟩
 | ins C fs=>obtain⟨dx,l,e,r⟩:=h;exact⟨dx,l,s _ e,Paired.iu r λ p q z=>⟨z.1,z.2.keep k⟩⟩
 | tup ws=>obtain⟨vs,e,r⟩:=h;exact⟨vs,s _ e,r.keep k⟩
 | flst ws=>obtain⟨o,vs,e,r⟩:=h;exact⟨o,vs,s _ e,r.keep k⟩
 | exc C fs =>
  obtain⟨φ,dct,e,p,r⟩:=h;refine⟨φ,dct,s _ e,p,?_⟩;rcases r with r | ⟨dx,o,l,e1,e2,r⟩
  ·exact .inl r
  ·exact .inr ⟨dx,o,l,e1,k.frz _ _ _ e2,Paired.iu r λ p q z=>⟨z.1,z.2.keep k⟩⟩
 | code q pos =>
  obtain⟨ps,e,ht,hc⟩:=h;refine⟨ps,s _ e,ht,?_⟩;rcases hc with hc | ⟨c,o,vs,t,e1,e2,e3⟩
  ·exact .inl hc
  ·exact .inr ⟨c,o,vs,t,e1,k.frz _ _ _ e2,e3⟩
theorem cf.new{K:FG}{H:Hp}{M:MH}{p:Addr}{o:HO}(h:cf K H M)(e:H p=none):cf K (upd H p o) M:=λ a mo q =>
 (h a mo q).keep (Kp.new e) λ u z=>by rw[aj (aF z e)];exact z
theorem cf.put{K:FG}{H:Hp}{M:MH}{p:Addr}{o:HO}{mo:MO}(h:cf K H M)(k:Kp H (upd H p o))(r:adP K (upd H p o) p mo):cf K (upd H p o) (bN M p mo):=λ a mo' q=>by
 by_cases e:a=p
 ·subst e;rw[ah] at q;cases q;exact r
 ·rw[aw e] at q;exact(h a mo' q).keep k λ u z=>by rw[aj e];exact z
structure Abs(K:FG)(H:Hp)(σ:St)(τ:DS)(M:MH):Prop where
 len:σ.length=τ.length
 val:∀ (i:Nat) w,τ[i]? =some (some w)->∃ v,σ[i]? =some (some v)/\aB K H w v
 mem:cf K H M
theorem Abs.go{K:FG}{H H':Hp}{σ:St}{τ:DS}{M M':MH}(h:Abs K H σ τ M)(k:Kp H H')(m:cf K H' M'):Abs K H' σ τ M':=
 ⟨h.len,λ i w e=>let ⟨v,q,r⟩:=h.val i w e; ⟨v,q,r.keep k⟩,m⟩
theorem Abs.set{K:FG}{H:Hp}{σ:St}{τ:DS}{M:MH}{w:W}{v:V}(h:Abs K H σ τ M)(i:Nat)(r:aB K H w v):Abs K H (σ.set i (some v)) (τ.set i (some w)) M:=by
 refine⟨by rw[List.length_set,List.length_set];exact h.len,λ j w' e=>?_,h.mem⟩
 by_cases hj:i=j
 ·subst hj;have hl:i<τ.length:=by
   have:=(List.getElem?_eq_some_iff.mp e).1
   rwa[List.length_set] at this
  rw[List.getElem?_set_self hl] at e;cases e;exact⟨v,List.getElem?_set_self (by rw[h.len];exact hl),r⟩
 ·rw[List.getElem?_set_ne hj] at e;obtain⟨v',q,r'⟩:=h.val j w' e;exact⟨v',by rw[List.getElem?_set_ne hj];exact q,r'⟩
abbrev QD:=W->MH->Prop
abbrev TD:=DS->MH->QD->Prop
abbrev TTd:=DS->MH->(Bool->MH->Prop)->Prop
abbrev TAd:=DS->MH->(List W->MH->Prop)->Prop
structure Ed where
 nx:DS->MH->Prop
 rt:QD
 bk:DS->MH->Prop:=λ _ _=>False
 ct:DS->MH->Prop:=λ _ _=>False
abbrev TSd:=Ed->DS->MH->Prop
def up(K:FG)(t:TD):TE:=λ σ H Q=>∃ τ M Qd,Abs K H σ τ M/\t τ M Qd/\∀ v H' w M',Kp H H'->aB K H' w v->cf K H' M'->Qd w M'->Q v H'
def upT(K:FG)(t:TTd):TT:=λ σ H Q=>∃ τ M Qd,Abs K H σ τ M/\t τ M Qd/\∀ b H' M',Kp H H'->cf K H' M'->Qd b M'->Q b H'
def upA(K:FG)(t:TAd):TA:=λ σ H Q=>∃ τ M Qd,Abs K H σ τ M/\t τ M Qd/\∀ vs H' ws M',Kp H H'->bF K H' ws vs->cf K H' M'->Qd ws M'->Q vs H'
def upS(K:FG)(t:TSd):TS:=λ D σ H=>∃ τ M Dd,Abs K H σ τ M/\t Dd τ M /\
 (∀ σ' H' τ' M',Kp H H'->Abs K H' σ' τ' M'->Dd.nx τ' M'->D.nx σ' H')/\(∀ v H' w M',Kp H H'->aB K H' w v->cf K H' M'->Dd.rt w M'->D.rt v H') /\
 (∀ σ' H' τ' M',Kp H H'->Abs K H' σ' τ' M'->Dd.bk τ' M'->D.bk σ' H')/\(∀ σ' H' τ' M',Kp H H'->Abs K H' σ' τ' M'->Dd.ct τ' M'->D.ct σ' H')
abbrev PD(X:Cx)(e:Expr)(t:TD):Prop:=PE X e (up X.K t)
abbrev PTd(X:Cx)(e:Expr)(t:TTd):Prop:=PT X e (upT X.K t)
abbrev PAd(X:Cx)(es:List Expr)(t:TAd):Prop:=PA X es (upA X.K t)
abbrev PSd(X:Cx)(st:Stmt)(t:TSd):Prop:=PS X st (upS X.K t)
abbrev lb(X:Cx)(st:List Stmt)(t:TSd):Prop:=PSs X st (upS X.K t)
theorem fN(h:PE X e t)(k:∀ σ H Q,t' σ H Q->t σ H Q):PE X e t':=λ pins s σ H Q I q=>h pins s σ H Q I (k σ H Q q)
theorem ag1(h:PT X e t)(k:∀ σ H Q,t' σ H Q->t σ H Q):PT X e t':=λ pins s σ H Q I q=>h pins s σ H Q I (k σ H Q q)
theorem aiE(h:PA X es t)(k:∀ σ H Q,t' σ H Q->t σ H Q):PA X es t':=λ pos pins s σ H Q I q=>h pos pins s σ H Q I (k σ H Q q)
theorem tH{st:Stmt}{t t':TS}(h:PS X st t)(k:∀ D σ H,t' D σ H->t D σ H):PS X st t':=λ pins s σ H D I q=>h pins s σ H D I (k D σ H q)
theorem af0{st:List Stmt}{t t':TS}(h:PSs X st t)(k:∀ D σ H,t' D σ H->t D σ H):PSs X st t':=λ pins s σ H D I q=>h pins s σ H D I (k D σ H q)
end D
namespace D
open L2
section
variable {X:Cx}{pos:Pos}{a b c e:Expr}{ta tb tc te:TD}{K:FG}
abbrev Kont(K:FG)(H:Hp)(Qd:QD)(Q:VK):Prop:=∀ v H' w M',Kp H H'->aB K H' w v->cf K H' M'->Qd w M'->Q v H'
theorem kgo(k:Kont K H Qd Q)(kp:Kp H H1):Kont K H1 Qd Q:=λ v H' w M' k2 r m q=>k v H' w M' (kp.trans k2) r m q
inductive aiJ(i:Nat) (τ:DS) (M:MH) (Q:QD):Prop
 | mk (w:W) (z:τ[i]? =some (some w)) (q:Q w M):aiJ i τ M Q
def au(i:Nat)(τ:DS)(M:MH)(Q:QD):Prop:=aiJ i τ M Q
theorem ae4(h:PE X e (aiv i)):PD X e (au i):=fN h λ σ H Q hq36=>by obtain⟨τ,M,Qd,A,⟨w,e,q⟩,k⟩:=hq36;obtain⟨v,e',r⟩:=A.val i w e;exact⟨v,e',k v H w M (Kp.refl H) r A.mem q⟩
def dC(w:W)(_:DS)(M:MH)(Q:QD):Prop:=Q w M
theorem aes(h:PE X e (tC v))(r:∀ H,aB X.K H w v):PD X e (dC w):=fN h λ σ H Q ⟨τ,M,Qd,A,q,k⟩=>k v H w M (Kp.refl H) (r H) A.mem q
def OpD(K:FG)(r:R2)(rd:W->W->MH->QD->Prop):Prop:=∀ x y H w w' M Qd Q,aB K H w x->aB K H w' y->cf K H M->rd w w' M Qd->Kont K H Qd Q->r x y H Q
def dOp(rd:W->W->MH->QD->Prop)(ta tb:TD)(τ:DS)(M:MH)(Q:QD):Prop:=ta τ M λ w M1=>tb τ M1 λ w' M2=>rd w w' M2 Q
theorem sW(hd:OpD K r rd)(h:up K (dOp rd ta tb) σ H Q):tOp r (up K ta) (up K tb) σ H Q:=by obtain⟨τ,M,Qd,A,h,k⟩:=h;refine⟨τ,M,_,A,h,λ x H1 w M1 kp r1 m1 q1=>⟨τ,M1,_,A.go kp m1,q1,λ y H2 w' M2 kp2 r2 m2 q2=>?_⟩⟩;exact hd x y H2 w w' M2 Qd Q (r1.keep kp2) r2 m2 q2 (kgo k (kp.trans kp2))
theorem ahL(ho:OpR X (binaryOp op) r)(hd:OpD X.K r rd)(ha:PD X a ta)(hb:PD X b tb):PD X (.BinOp a op b pos) (dOp rd ta tb):=fN (agx ho ha hb) λ σ H Q h=>sW hd h
theorem aeY(ho:OpR X (compareOp op) r)(hd:OpD X.K r rd)(ha:PD X a ta)(hb:PD X b tb)(hm:behindInMarks op b=false:=by first | exact jw _ (by decide) (by decide) | rfl) :
  PD X (.Compare a [op] [b] pos) (dOp rd ta tb):=fN (adZ ho ha hb hm) λ σ H Q h=>sW hd h
theorem ahk(hr:IxR X r)(hd:OpD X.K r rd)(ha:PD X a ta)(hb:PD X b tb)(hs:qK b:=by intro _ _;rfl):PD X (.Subscript a b pos) (dOp rd ta tb):=fN (ahS hr ha hb hs) λ σ H Q h=>sW hd h
def bH(t:TD)(τ:DS)(M:MH)(Q:Bool->MH->Prop):Prop:=t τ M λ w M1=>∃ k,w=.d (.bool k)/\Q k M1
theorem nr(hi:∀ σ H Q,up K ta σ H Q->t' σ H Q)(h:upT K (bH ta) σ H Q):acX t' σ H Q:=by obtain⟨τ,M,Qd,A,h,k⟩:=h;refine hi σ H _ ⟨τ,M,_,A,h,λ v H' w M' kp r m hq37=>?_⟩;obtain⟨b,e,q⟩:=hq37;subst e;simp only[aB,ay] at r;exact⟨b,r,k b H' M' kp m q⟩
theorem adK(ho:OpR X (compareOp op) r)(hd:OpD X.K r rd)(ha:PD X a ta)(hb:PD X b tb)(hm:behindInMarks op b=false:=by first | exact jw _ (by decide) (by decide) | rfl) :
  PTd X (.Compare a [op] [b] pos) (bH (dOp rd ta tb)):=ag1 (adC ho ha hb hm) λ σ H Q h=>nr (λ _ _ _ q=>sW hd q) h
theorem acy(h:PD X e te)(he:∀ whole,isTrue e X.env whole=(do let v <- whole;standAt e.pos;holding [v] (truthy v)):=by intro _;rfl):PTd X e (bH te):=ag1 (afs h he) λ σ H Q q=>nr (λ _ _ _ z=>z) q
def i7(r r':W->W->MH->QD->Prop)(ta tb tc:TD)(τ:DS)(M:MH)(Q:QD):Prop:=ta τ M λ x M1=>tb τ M1 λ y M2=>r x y M2 λ z M3=>∃ k,z=.d (.bool k)/\(if k=true then tc τ M3 λ w' M4=>r' y w' M4 Q else Q (.d (.bool false)) M3)
theorem pz(hd:OpD K r rd)(hd':OpD K r' rd')(h:up K (i7 rd rd' ta tb tc) σ H Q):yS r r' (up K ta) (up K tb) (up K tc) σ H Q:=by
 obtain⟨τ,M,Qd,A,h,k⟩:=h;refine⟨τ,M,_,A,h,λ x H1 w M1 kp r1 m1 q1=>⟨τ,M1,_,A.go kp m1,q1,λ y H2 w' M2 kp2 r2 m2 q2=>?_⟩⟩;have kq:=kp.trans kp2;refine hd x y H2 w w' M2 _ _ (r1.keep kp2) r2 m2 q2 λ v H3 w'' M3 kp3 r3 m3 hq38=>?_;obtain⟨b,e,q3⟩:=hq38;subst e;simp only[aB,ay] at r3;refine⟨b,r3,?_⟩;have kr:=kq.trans kp3;cases b with
 | false =>
  rw[if_neg Bool.false_ne_true] at q3 ⊢;exact k _ H3 _ M3 kr (by simp[aB,ay]) m3 q3
 | true =>
  rw[if_pos rfl] at q3 ⊢;exact⟨τ,M3,_,A.go kr m3,q3,λ u H4 w4 M4 kp4 r4 m4 q4=>hd' y u H4 w' w4 M4 Qd Q (r2.keep (kp3.trans kp4)) r4 m4 q4 (kgo k (kr.trans kp4))⟩
theorem zw(ho:OpR X (compareOp op) r)(hd:OpD X.K r rd)(ho':OpR X (compareOp op') r')(hd':OpD X.K r' rd')(ha:PD X a ta)(hb:PD X b tb)(hc:PD X c tc)
  (hm:lastMarks [op,op'] [b,c]=false:=by with_unfolding_all rfl):PD X (.Compare a [op,op'] [b,c] pos) (i7 rd rd' ta tb tc):=fN (zT ho ho' ha hb hc hm) λ σ H Q h=>pz hd hd' h
theorem yf(ho:OpR X (compareOp op) r)(hd:OpD X.K r rd)(ho':OpR X (compareOp op') r')(hd':OpD X.K r' rd')(ha:PD X a ta)(hb:PD X b tb)(hc:PD X c tc)
  (hm:lastMarks [op,op'] [b,c]=false:=by with_unfolding_all rfl):PTd X (.Compare a [op,op'] [b,c] pos) (bH (i7 rd rd' ta tb tc)):=ag1 (aaj ho ho' ha hb hc hm) λ σ H Q h=>nr (λ _ _ _ q=>pz hd hd' q) h
def UnD(K:FG)(r:V->Hp->VK->Prop)(rd:W->MH->QD->Prop):Prop:=∀ x H w M Qd Q,aB K H w x->cf K H M->rd w M Qd->Kont K H Qd Q->r x H Q
def dUn(rd:W->MH->QD->Prop)(ta:TD)(τ:DS)(M:MH)(Q:QD):Prop:=ta τ M λ w M1=>rd w M1 Q
theorem ahg(ho:UnR X (unaryOp op) r)(hd:UnD X.K r rd)(ha:PD X a ta):PD X (.UnaryOp op a pos) (dUn rd ta):=fN (ahf ho ha) λ σ H Q h=>by obtain⟨τ,M,Qd,A,h,k⟩:=h;exact⟨τ,M,_,A,h,λ x H1 w M1 kp r1 m1 q1=>hd x H1 w M1 Qd Q r1 m1 q1 (kgo k kp)⟩
variable {tA tB:TTd}{rest:List Expr}
def aev(t u:TTd)(τ:DS)(M:MH)(Q:Bool->MH->Prop):Prop:=t τ M λ k M1=>if k=true then u τ M1 Q else Q false M1
def dOr(t u:TTd)(τ:DS)(M:MH)(Q:Bool->MH->Prop):Prop:=t τ M λ k M1=>if k=true then Q true M1 else u τ M1 Q
def vw(t:TTd)(τ:DS)(M:MH)(Q:Bool->MH->Prop):Prop:=t τ M λ k M1=>Q (!k) M1
abbrev PWd(X:Cx)(e:Expr)(t:TTd):Prop:=PW X e (upT X.K t)
theorem pw_w(h:PW X e t)(k:∀ σ H Q,t' σ H Q->t σ H Q):PW X e t':=λ w pins s σ H Q I q=>h w pins s σ H Q I (k σ H Q q)
theorem aaB(ha:PTd X a tA):PWd X (.BoolOp .And [a] pos) tA:=pw_and1 ha
theorem acC(ha:PTd X a tA):PWd X (.BoolOp .Or [a] pos) tA:=pw_or1 ha
theorem ab5(ha:PTd X a tA)(hb:PWd X (.BoolOp .And (b::rest) pos) tB):PWd X (.BoolOp .And (a::b::rest) pos) (aev tA tB):=pw_w (pw_and ha hb) λ σ H Q h=>by
 obtain⟨τ,M,Qd,A,h,k⟩:=h;refine⟨τ,M,_,A,h,λ b H1 M1 kp m1 q1=>?_⟩;cases b with
 | true=>rw[if_pos rfl] at q1 ⊢;exact⟨τ,M1,Qd,A.go kp m1,q1,λ b H2 M2 kp2 m2 q2=>k b H2 M2 (kp.trans kp2) m2 q2⟩
 | false=>rw[if_neg Bool.false_ne_true] at q1 ⊢;exact k _ H1 M1 kp m1 q1
theorem agm(ha:PTd X a tA)(hb:PWd X (.BoolOp .Or (b::rest) pos) tB):PWd X (.BoolOp .Or (a::b::rest) pos) (dOr tA tB):=pw_w (pw_or ha hb) λ σ H Q h=>by
 obtain⟨τ,M,Qd,A,h,k⟩:=h;refine⟨τ,M,_,A,h,λ b H1 M1 kp m1 q1=>?_⟩;cases b with
 | false=>rw[if_neg Bool.false_ne_true] at q1 ⊢;exact⟨τ,M1,Qd,A.go kp m1,q1,λ b H2 M2 kp2 m2 q2=>k b H2 M2 (kp.trans kp2) m2 q2⟩
 | true=>rw[if_pos rfl] at q1 ⊢;exact k _ H1 M1 kp m1 q1
theorem ah0(h:PWd X e tA):PTd X e tA:=h.pt
theorem adh(ha:PTd X a tA):PTd X (.UnaryOp .Not a pos) (vw tA):=ag1 (agg ha) λ σ H Q h=>by obtain⟨τ,M,Qd,A,h,k⟩:=h;exact⟨τ,M,_,A,h,λ b H1 M1 kp m1 q1=>k (!b) H1 M1 kp m1 q1⟩
def jC(ta tb:TD)(τ:DS)(M:MH)(Q:QD):Prop:=ta τ M λ x M1=>∃ k,x=.d (.bool k)/\if k=true then tb τ M1 Q else Q (.d (.bool false)) M1
def aaw(ta:TD)(τ:DS)(M:MH)(Q:QD):Prop:=ta τ M λ x M1=>∃ k,x=.d (.bool k)/\Q (.d (.bool (!k))) M1
theorem ae3{op}(h:PD X a ta):PD X (.BoolOp op [a] pos) ta:=afZ h
theorem afk(ha:PD X a ta)(hb:PD X (.BoolOp .And (b::rest) pos) tb):PD X (.BoolOp .And (a::b::rest) pos) (jC ta tb):=fN (afT ha hb) λ σ H Q h=>by
 obtain⟨τ,M,Qd,A,h,k⟩:=h;refine⟨τ,M,_,A,h,λ x H1 w M1 kp r1 m1 hq39=>?_⟩;obtain⟨b,e,q1⟩:=hq39;subst e;simp only[aB,ay] at r1;refine⟨b,r1,?_⟩;cases b with
 | true=>rw[if_pos rfl] at q1 ⊢;exact⟨τ,M1,Qd,A.go kp m1,q1,kgo k kp⟩
 | false=>rw[if_neg Bool.false_ne_true] at q1 ⊢;exact k _ H1 _ M1 kp (by simp[aB,ay]) m1 q1
theorem afO(ha:PD X a ta):PD X (.UnaryOp .Not a pos) (aaw ta):=fN (agu ha) λ σ H Q h=>by obtain⟨τ,M,Qd,A,h,k⟩:=h;refine⟨τ,M,_,A,h,λ x H1 w M1 kp r1 m1 hq40=>?_⟩;obtain⟨b,e,q1⟩:=hq40;subst e;simp only[aB,ay] at r1;exact⟨b,r1,k _ H1 _ M1 kp (by simp[aB,ay]) m1 q1⟩
variable {es:List Expr}{t:TAd}
def aO(_:DS)(M:MH)(Q:List W->MH->Prop):Prop:=Q [] M
def ag(ta:TD)(tr:TAd)(τ:DS)(M:MH)(Q:List W->MH->Prop):Prop:=ta τ M λ w M1=>tr τ M1 λ ws M2=>Q (w::ws) M2
theorem rj:PAd X [] aO:=aiE km λ σ H Q ⟨τ,M,Qd,A,h,k⟩=>k [] H [] M (Kp.refl H) .nil A.mem h
theorem zO(ha:PD X e te)(hr:PAd X es t)(hs:starEach (e::es) X.env=(false,eval e X.env)::starEach es X.env:=by rfl):PAd X (e::es) (ag te t):=aiE (fL ha hr hs) λ σ H Q h=>by obtain⟨τ,M,Qd,A,h,k⟩:=h;exact⟨τ,M,_,A,h,λ x H1 w M1 kp r1 m1 q1=>⟨τ,M1,_,A.go kp m1,q1,λ xs H2 ws M2 kp2 r2 m2 q2=>k _ H2 _ M2 (kp.trans kp2) (.cons (r1.keep kp2) r2) m2 q2⟩⟩
def mO:List W->Option (List PyData)
 | []=>some []
 | .d x::r=>(mO r).map (x::·)
 | _::_=>none
theorem mH:∀ {ws:List W} {ds:List PyData},mO ws=some ds->ws=ds.map W.d
 | [],ds,h=>by simp only[mO] at h;cases h;rfl
 | .d x::r,ds,h=>by
  simp only[mO] at h;cases q:mO r with
  | none=>rw[q] at h;cases h
  | some l=>rw[q] at h;cases h;rw[mH q];rfl
 | .m _::_,ds,h=>by simp[mO] at h
 | .t _::_,ds,h=>by simp[mO] at h
def aa3(t:TAd)(τ:DS)(M:MH)(Q:QD):Prop:=t τ M λ ws M1=>∃ ds,mO ws=some ds/\ds.length<=sizeLine/\Q (.d (.list ds)) M1
theorem acj(hp:H p=none)(r:aT K H ds vs):ay K (upd H p (.frz o (.lst vs))) (.list ds) (.ref p):=by simp only[ay];exact⟨p,vs,rfl,.inl ⟨o,aq⟩,r.keep (Kp.new hp)⟩
theorem mE(hp:H p=none)(r:aT K H ds vs)(m:cf K H M)(q:Qd (.d (.list ds)) M)(k:Kont K H Qd Q) :
  ∃ p' u,V.ref p=.ref p'/\(upd H p (.lst vs)) p'=some u/\Fz u/\∀ o,Q (.ref p) (upd (upd H p (.lst vs)) p' (.frz o u)):=by
 refine⟨p,_,rfl,aq,trivial,λ o=>?_⟩;rw[ace];exact k _ _ (.d (.list ds)) M (Kp.new hp) (acj hp r) (m.new hp) q
theorem agy(h:PAd X es t):PD X (.List es pos) (aa3 t):=fN (sP (abe h)) λ σ H Q h=>by obtain⟨τ,M,Qd,A,h,k⟩:=h;refine⟨τ,M,_,A,h,λ vs H1 ws M1 kp r1 m1 hq41=>?_⟩;obtain⟨ds,e,hz,q1⟩:=hq41;have e':=mH e;subst e';have rA:=r1.data;exact⟨by rw[rA.length];exact hz,λ p hp=>mE hp rA m1 q1 (kgo k kp)⟩
def uA(t:TAd)(τ:DS)(M:MH)(Q:QD):Prop:=t τ M λ ws M1=>ws.length<=sizeLine/\∀ p,M1 p=none->Q (.m p) (bN M1 p (.lst ws))
theorem ad2(h:PAd X es t):PD X (.List es pos) (uA t):=fN (abe h) λ σ H Q h=>by obtain⟨τ,M,Qd,A,h,k⟩:=h;refine⟨τ,M,_,A,h,λ vs H1 ws M1 kp r1 m1 ⟨hz,q1⟩=>⟨by rw[<- r1.length];exact hz,λ p hp=>?_⟩⟩;exact k _ _ (.m p) (bN M1 p (.lst ws)) (kp.trans (Kp.new hp)) rfl (m1.put (mo:=.lst ws) (Kp.new hp) ⟨vs,aq,r1.keep (Kp.new hp)⟩) (q1 p (m1.free hp))
def mL(t:TAd)(τ:DS)(M:MH)(Q:QD):Prop:=t τ M λ ws M1=>∃ ds,mO ws=some ds/\ds.length<=sizeLine/\Q (.d (.tuple ds)) M1
theorem aez{x1}(h:PAd X es t):PD X (.Tuple es x1 pos) (mL t):=fN (yr h) λ σ H Q h=>by obtain⟨τ,M,Qd,A,h,k⟩:=h;refine⟨τ,M,_,A,h,λ vs H1 ws M1 kp r1 m1 hq42=>?_⟩;obtain⟨ds,e,hz,q1⟩:=hq42;have e':=mH e;subst e';have rA:=r1.data;refine⟨by rw[rA.length];exact hz,λ p hp=>k _ _ (.d (.tuple ds)) M1 (kp.trans (Kp.new hp)) ?_ (m1.new hp) q1⟩;simp only[aB,ay];exact⟨p,vs,rfl,.inl (.inl aq),rA.keep (Kp.new hp)⟩
variable {x:Str}{p:Pos}{id T:String}{r:List V->Hp->VK->Prop}{rd:List W->MH->QD->Prop}
def eB(K:FG)(r:List V->Hp->VK->Prop)(rd:List W->MH->QD->Prop):Prop:=∀ vs H ws M Qd Q,bF K H ws vs->cf K H M->rd ws M Qd->Kont K H Qd Q->r vs H Q
def dCB(rd:List W->MH->QD->Prop)(t:TAd)(τ:DS)(M:MH)(Q:QD):Prop:=t τ M λ ws M1=>rd ws M1 Q
theorem aby(hd:eB K r rd)(h:up K (dCB rd t) σ H Q):tCB r (upA K t) σ H Q:=by obtain⟨τ,M,Qd,A,h,k⟩:=h;exact⟨τ,M,_,A,h,λ vs H1 ws M1 kp r1 m1 q1=>hd vs H1 ws M1 Qd Q r1 m1 q1 (kgo k kp)⟩
theorem aaH(hc:dk X (.builtin id) r)(hd:eB X.K r rd)(hg:Gl X x)(hm:X.mg x=none)(hv:bootBuiltins x=some (.builtin id))(ha:PAd X (e::es) t)(hn:x ≠ "__name__":= by decide)(hdb:ND x:=by decide)
  (he:starEach (e::es) X.env=(false,eval e X.env)::starEach es X.env:=by rfl)(hpl:(backTo pos (starEach es X.env)).any (·.1)=false:=by rfl):PD X (.Call (.Name x p) (e::es) [] pos) (dCB rd t):=
 fN (nD hc hg hm hv ha hn hdb he hpl) λ σ H Q h=>aby hd h
theorem yR(hc:dk X (.type T) r)(hd:eB X.K r rd)(hg:Gl X x)(hm:X.mg x=none)(hv:bootBuiltins x=some (.type T))(ha:PAd X (e::es) t)(hn:x ≠ "__name__":= by decide)(hdb:ND x:=by decide)
  (he:starEach (e::es) X.env=(false,eval e X.env)::starEach es X.env:=by rfl)(hpl:(backTo pos (starEach es X.env)).any (·.1)=false:=by rfl):PD X (.Call (.Name x p) (e::es) [] pos) (dCB rd t):=
 fN (wm hc hg hm hv ha hn hdb he hpl) λ σ H Q h=>aby hd h
end
section
variable {X:Cx}{pos:Pos}{st:Stmt}{sts:List Stmt}{t u:TSd}{e:Expr}{te:TD}{K:FG}
def cU(D:Ed)(τ:DS)(M:MH):Prop:=D.nx τ M
def bI(t u:TSd)(D:Ed)(τ:DS)(M:MH):Prop:=t {D with nx:=u D} τ M
theorem yi(h1:PSd X st t)(h2:lb X sts u):lb X (st::sts) (bI t u):=af0 (nK h1 h2) λ D σ H ⟨τ,M,Dd,A,h,k1,k2,k3,k4⟩ =>
 ⟨τ,M,{Dd with nx:=u Dd},A,h,λ σ' H' τ' M' kp A' q=>⟨τ',M',Dd,A',q,λ σ2 H2 τ2 M2 kp2=>k1 σ2 H2 τ2 M2 (kp.trans kp2),λ v H2 w M2 kp2=>k2 v H2 w M2 (kp.trans kp2),λ σ2 H2 τ2 M2 kp2=>k3 σ2 H2 τ2 M2 (kp.trans kp2),λ σ2 H2 τ2 M2 kp2=>k4 σ2 H2 τ2 M2 (kp.trans kp2)⟩,k2,k3,k4⟩
theorem aa2(h1:PSd X st t):lb X [st] t:=zh h1
def j9(te:TD)(D:Ed)(τ:DS)(M:MH):Prop:=te τ M λ _ M1=>D.nx τ M1
theorem zP(he:PD X e te)(hs:swapsWith e none pos.line X.env=pure false:=by rfl):PSd X (.Expr e pos) (j9 te):=tH (adk he hs) λ D σ H ⟨τ,M,Dd,A,h,k1,_⟩ =>
 ⟨τ,M,_,A,h,λ v H1 w M1 kp r m q=>k1 σ H1 τ M1 kp (A.go kp m) q⟩
def dR(te:TD)(D:Ed)(τ:DS)(M:MH):Prop:=te τ M D.rt
theorem adg(he:PD X e te):PSd X (.Return (some e) pos) (dR te):=tH (agG he) λ D σ H ⟨τ,M,Dd,A,h,k1,k2,_⟩=>⟨τ,M,_,A,h,λ v H1 w M1 kp r m q=>k2 v H1 w M1 kp r m q⟩
def dIf(c:TTd)(t u:TSd)(D:Ed)(τ:DS)(M:MH):Prop:=c τ M λ b M1=>if b=true then t D τ M1 else u D τ M1
theorem afo(hc:PTd X c tc)(ha:lb X a t)(hb:lb X b u):PSd X (.If c a b pos) (dIf tc t u):=tH (ah7 hc ha hb) λ D σ H hq43=>by
 obtain⟨τ,M,Dd,A,h,k1,k2,k3,k4⟩:=hq43;refine⟨τ,M,_,A,h,λ b H1 M1 kp m q=>?_⟩;have go:∀ {t':TSd},t' Dd τ M1->upS X.K t' D σ H1:=λ {t'} q=>⟨τ,M1,Dd,A.go kp m,q,λ σ2 H2 τ2 M2 kp2=>k1 σ2 H2 τ2 M2 (kp.trans kp2),λ v H2 w M2 kp2=>k2 v H2 w M2 (kp.trans kp2),λ σ2 H2 τ2 M2 kp2=>k3 σ2 H2 τ2 M2 (kp.trans kp2),λ σ2 H2 τ2 M2 kp2=>k4 σ2 H2 τ2 M2 (kp.trans kp2)⟩;cases b with
 | true=>rw[if_pos rfl] at q;show(if true=true then upS X.K t D σ H1 else upS X.K u D σ H1);rw[if_pos rfl];exact go q
 | false=>rw[if_neg Bool.false_ne_true] at q;show(if false=true then upS X.K t D σ H1 else upS X.K u D σ H1);rw[if_neg Bool.false_ne_true];exact go q
abbrev TGd:=W->DS->MH->(DS->MH->Prop)->Prop
def upG(K:FG)(g:TGd):TG:=λ v σ H Q=>∃ w τ M Qd,aB K H w v/\Abs K H σ τ M/\g w τ M Qd/\∀ σ' H' τ' M',Kp H H'->Abs K H' σ' τ' M'->Qd τ' M'->Q σ' H'
abbrev PGd(X:Cx)(e:Expr)(g:TGd):Prop:=PG X e (upG X.K g)
theorem ahb(h:PG X e g)(k:∀ v σ H Q,g' v σ H Q->g v σ H Q):PG X e g':=λ pins s σ H v u Q I r q=>h pins s σ H v u Q I r (k v σ H Q q)
def gN(i:Nat)(w:W)(τ:DS)(M:MH)(Q:DS->MH->Prop):Prop:=Q (τ.set i (some w)) M
def cq(te:TD)(g:TGd)(D:Ed)(τ:DS)(M:MH):Prop:=te τ M λ w M1=>g w τ M1 D.nx
theorem aci(h:upS K (cq te g) D σ H):agw (up K te) (upG K g) D σ H:=by obtain⟨τ,M,Dd,A,h,k1,_⟩:=h;exact⟨τ,M,_,A,h,λ v H1 w M1 kp r m q=>⟨w,τ,M1,_,r,A.go kp m,q,λ σ2 H2 τ2 M2 kp2 A2 q2=>k1 σ2 H2 τ2 M2 (kp.trans kp2) A2 q2⟩⟩
theorem aed(he:PD X e te)(hg:PGd X tg g)(hs:swapsWithSole [tg] e pos.line X.env=pure false:=by rfl)(hw:swappedStores [tg] e X.env=pure none:=by rfl)
  (h1:(assignEach [tg] X.env).map (·.2)=[assign tg X.env]:=by rfl):PSd X (.Assign [tg] e pos) (cq te g):=tH (aeV he hg hs hw h1) λ D σ H h=>aci h
theorem ad7(hN:X.N.Nodup)(hi:X.N[i]? =some x)(hx:Loc X.env.scope x)(he:PD X e te)(hs:swapsWith e (some (.Name x pos')) pos.line X.env=pure false:=by rfl)(hf:X.fn x=true\/X.env.scope.names.lookup x=some .local:=by first | exact .inl rfl | exact .inr rfl | assumption) :
  PSd X (.Assign [.Name x pos'] e pos) (cq te (gN i)):=tH (afC hN hi hx he hs hf) λ D σ H ⟨τ,M,Dd,A,h,k1,_⟩ =>
 ⟨τ,M,_,A,h,λ v H1 w M1 kp r m q=>k1 _ H1 _ M1 kp ((A.go kp m).set i r) q⟩
end
abbrev SpD:=List W->MH->QD->Prop
def dg(K:FG)(sp:SpD):Sp:=λ vs H Q _=>∃ ws M Qd,bF K H ws vs/\cf K H M/\sp ws M Qd/\Kont K H Qd Q
def bG(sp:SpD)(t:TAd)(τ:DS)(M:MH)(Q:QD):Prop:=t τ M λ ws M1=>sp ws M1 Q
theorem ac9(F:cy X.prog X.w X.K X.mg X.base CX0 k f fd ps (dg X.K sp))(hr:cY k X.A)(hg:Gl X x)(hm:X.mg x=some (.ref f))(hk:W.keepIn X.K (.ref f)=true)(hb:Binds X.K fd ps [])
  (ha:PAd X (e::es) t)(hdb:ND x:=by decide)(he:starEach (e::es) X.env=(false,eval e X.env)::starEach es X.env:=by rfl)(hpl:(backTo pos (starEach es X.env)).any (·.1)=false:=by rfl) :
  PD X (.Call (.Name x p) (e::es) [] pos) (bG sp t):=fN (xU (E:=E0) (dvs:=[]) F hr hg hm hk hb .nil aeW ha hdb he hpl) λ σ H Q h=>by
 obtain⟨τ,M,Qd,A,h,k⟩:=h;exact⟨τ,M,_,A,h,λ vs H1 ws M1 kp r1 m1 q1=>⟨ws,M1,Qd,by rw[List.append_nil];exact r1,m1,q1,kgo k kp⟩⟩
def bw(N:List Str)(ws:List W):DS:=ws.map some++List.replicate (N.length-ws.length) none
section
variable {P:Program}{w:World}{K:FG}{mg:Str->Option Value}{base:Heap}
theorem gO(r:bF K H ws vs)(m:cf K H M):Abs K H (start N vs) (bw N ws) M:=by
 have hl:=r.length;refine⟨?_,λ i w e=>?_,m⟩
 ·simp[L2.start,bw,hl]
 ·unfold bw at e
  by_cases hi:i<ws.length
  ·rw[List.getElem?_append_left (by simpa using hi),List.getElem?_map] at e;cases q:ws[i]? with
   | none=>rw[q] at e;cases e
   | some w' =>
    rw[q] at e;cases e;obtain⟨v,e1,r1⟩:=r.get q;refine⟨v,?_,r1⟩;unfold L2.start;rw[List.getElem?_append_left (by rw[List.length_map,<- hl];exact hi),List.getElem?_map,e1];rfl
  ·rw[List.getElem?_append_right (by simpa using hi),List.getElem?_replicate] at e
   split at e<;>cases e
theorem bR{x qual:Str}{st:Stmt}{N ps:List Str}{k:Nat}{sp:SpD}{t:TSd}(F:Fun K x qual st f fd)(S:aH N ps (ao st))(len:∀ ws M Q,sp ws M Q->ws.length=ps.length)
  (hbody:∀ (cdv:Value) (A:Around) (outer:List Env) (s:Shared) (H:Hp) (E:XK),cY k (A.deeper (envOfC qual (ao st) s.heap.objs.size f cdv)) ->
   lb (uV CX0 P w K mg base N qual (ao st) f cdv A outer s H E).nox (aM st) t)
  (read:∀ ws M Q,sp ws M Q->t {nx:=λ _ M'=>Q (.d .none) M',rt:=Q} (bw N ws) M):cy P w K mg base CX0 (k+1) f fd ps (dg K sp):=by
 refine F.ok S (λ vs H Q E h=>?_) (λ cdv A outer s H vs Q E hr h=>?_)
 ·obtain⟨ws,M,Qd,r,_,q,_⟩:=h;rw[<- r.length];exact len _ _ _ q
 ·obtain⟨ws,M,Qd,r,m,q,kk⟩:=h;refine⟨_,hbody cdv A outer s H E hr,bw N ws,M,_,gO r m,read ws M Qd q,λ σ' H' τ' M' kp A' q'=>?_,λ v H' w' M' kp r' m' q'=>?_,λ σ' H' τ' M' kp A' q'=>q'.elim,λ σ' H' τ' M' kp A' q'=>q'.elim⟩
  ·exact kk _ H' _ M' kp (by simp[aB,ay]) A'.mem q'
  ·exact kk v H' w' M' kp r' m' q'
end
end D
namespace L2
structure ll(k:Nat)(A:Around):Prop where
 gd:A.guards=some []
 dp:A.depth+3 * k+5<recursionLimit
 un:A.units+16 * k+200<cLine
theorem ll.units(r:ll k A):A.units+64<cLine:=by have:=r.un;omega
theorem cY.h(r:cY k A):ll k A:=⟨r.gd,r.dp,r.un⟩
end L2
namespace D
open L2
mutual
theorem eQ(I:Inv X pins σ H s):∀ (d:PyData) {x:V} {u:Value},ay X.K H d x->RelV x u->d.hasDict=false->∃ as,Reads s.heap u d as
 | .none,x,u,h,r,_=>by simp only[ay] at h;subst h;cases (show u=Value.none from r);exact⟨_,.none⟩
 | .bool b,x,u,h,r,_=>by simp only[ay] at h;subst h;cases (show u=Value.bool b from r);exact⟨_,.bool b⟩
 | .int i,x,u,h,r,_=>by simp only[ay] at h;subst h;obtain⟨t,e⟩:=(show ∃ t,u=Value.int i t from r);subst e;exact⟨_,.int i t⟩
 | .str z,x,u,h,r,_=>by simp only[ay] at h;subst h;obtain⟨t,e⟩:=(show ∃ t,u=Value.str z t from r);subst e;exact⟨_,.str z t⟩
 | .list ds,x,u,h,r,hd=>by simp only[ay] at h;obtain⟨a,vs,e,hs,ra⟩:=h;subst e;cases (show u=Value.ref a from r);obtain⟨its,rv,⟨o,n,e1,e2,e3,e4⟩,hz⟩:=I.list hs.sq;obtain⟨as,q⟩:=kA I ds ra rv (by simpa [PyData.hasDict] using hd);exact⟨_,.list e1 e2 e4 (by simpa using q)⟩
 | .tuple ds,x,u,h,r,hd=>by simp only[ay] at h;obtain⟨a,vs,e,hs,ra⟩:=h;subst e;cases (show u=Value.ref a from r);obtain⟨its,rv,⟨o,e1,e2,n,e4⟩,hz⟩:=I.tuple hs;obtain⟨as,q⟩:=kA I ds ra rv (by simpa [PyData.hasDict] using hd);exact⟨_,.tuple e1 e2 e4 (by simpa using q)⟩
 | .dict kvs,x,u,h,r,hd=>by simp[PyData.hasDict] at hd
theorem kA(I:Inv X pins σ H s):∀ (ds:List PyData) {xs:List V} {us:List Value},aT X.K H ds xs->Vals xs us->PyData.hasDictAll ds=false->∃ as,ReadsAll s.heap us ds as
 | [],xs,us,h,r,_=>by simp only[aT] at h;subst h;cases r;exact⟨_,.nil⟩
 | d::ds,xs,us,h,r,hd=>by
  simp only[aT] at h;obtain⟨v,vr,e,h1,h2⟩:=h;subst e;simp only[PyData.hasDictAll,Bool.or_eq_false_iff] at hd;cases r with
  | cons r1 r2 =>
   obtain⟨as,q1⟩:=eQ I d h1 r1 hd.1;obtain⟨bs,q2⟩:=kA I ds h2 r2 hd.2;exact⟨_,.cons q1 q2⟩
end
def adf:PyData->Bool
 | .none | .bool _ | .int _ | .str _=>true
 | _=>false
theorem u6:∀ {d:PyData} {x:V} {u:Value} {h:Heap} {K:FG} {H:Hp},adf d=true->ay K H d x->RelV x u->Reads h u d []
 | .none,x,u,h,K,H,_,e,r=>by simp only[ay] at e;subst e;cases (show u=Value.none from r);exact .none
 | .bool b,x,u,h,K,H,_,e,r=>by simp only[ay] at e;subst e;cases (show u=Value.bool b from r);exact .bool b
 | .int i,x,u,h,K,H,_,e,r=>by simp only[ay] at e;subst e;obtain⟨t,z⟩:=(show ∃ t,u=Value.int i t from r);subst z;exact .int i t
 | .str i,x,u,h,K,H,_,e,r=>by simp only[ay] at e;subst e;obtain⟨t,z⟩:=(show ∃ t,u=Value.str i t from r);subst z;exact .str i t
 | .list _,_,_,_,_,_,f,_,_=>nomatch f
 | .tuple _,_,_,_,_,_,f,_,_=>nomatch f
 | .dict _,_,_,_,_,_,f,_,_=>nomatch f
theorem kE{P:Program}{w:World}{h:Heap}{K:FG}{H:Hp}:∀ {kvs:List (PyData×PyData)} {l:List (Key×V)} {vs:List (Key×Value)} {es:List DictEntry},(kvs.all λ p=>adf p.2)=true->k9 K H kvs l->KV l vs->Pairs (aN P w) es vs ->
  ReadsAll h (es.map (·.key)) (kvs.map (·.1)) []/\ReadsAll h (es.map (·.val)) (kvs.map (·.2)) []
 | [],l,vs,es,_,r,kv,p=>by simp only[k9] at r;subst r;cases kv;cases p;exact⟨.nil,.nil⟩
 | (k,d)::kvs,l,vs,es,f,r,kv,p=>by
  simp only[k9] at r;obtain⟨key,v,lr,e,ek,r1,r2⟩:=r;subst e;rw[List.all_cons,Bool.and_eq_true] at f;cases kv with
  | cons q1 q2 =>
   rename_i kv0 vs0
   obtain⟨k0,u0⟩:=kv0;obtain⟨q1,q3⟩:=q1;cases p with
   | cons p1 p2 p3 =>
    rename_i en es0
    obtain⟨i1,i2⟩:=kE f.2 r2 q2 p3;have rk:Reads h en.key k []:=by
     have hk:o5 k0 en.key=true:=p1;have hk0:key=k0:=q1;subst hk0;rw[ek];rcases bE hk with ⟨i,t,z1,z2⟩ | ⟨i,t,z1,z2⟩
     ·subst z1;rw[z2];exact .int i t
     ·subst z1;rw[z2];exact .str i t
    have rv:Reads h en.val d []:=by rw[p2];exact u6 f.1 r1 q3
    exact⟨.cons rk i1,.cons rv i2⟩
def fG(d:PyData):Bool:=d.showable&&decide (d.shown.length<=sizeLine)&&decide (d.depth<=60)&&(!d.hasDict || match d with
 | .dict kvs=>kvs.all λ p=>adf p.2
 | _=>false)
theorem u4(I:Inv X pins σ H s){d:PyData}{x:V}{u:Value}(h:ay X.K H d x)(r:RelV x u)(ok:fG d=true):∃ as,Reads s.heap u d as/\(d.hasDict=true->sysModules ∉ as):=by
 simp only[fG,Bool.and_eq_true,Bool.or_eq_true] at ok;cases hd:d.hasDict with
 | false =>
  obtain⟨as,q⟩:=eQ I d h r hd;exact⟨as,q,λ z=>absurd z (by simp)⟩
 | true =>
  have f:=ok.2.resolve_left (by simp[hd]);cases d with
  | dict kvs =>
   simp only[ay] at h;obtain⟨a,o,l,e,ha,rk⟩:=h;subst e;cases (show u=Value.ref a from r);obtain⟨z,hs,vs,kv,o',es,ep,e1,e2,e3,e4,e5,e6⟩:=uS I.hok (.inr ⟨o,ha⟩);obtain⟨q1,q2⟩:=kE (h:=s.heap) f rk kv e5;refine⟨_,.dict e1 e2.1 e3 q1 q2,λ _ hm=>?_⟩;simp only[List.append_nil] at hm;have hm':sysModules=a:=by simpa using hm
   rw[<- hm'] at hs;simp at hs
  | _=>exact absurd f (by simp)
def k7(d:PyData):Bool:=SeqAt.shaped d&&!d.hasDict
def d9:PyData->PyData->Bool
 | .str _,.str _=>true
 | d,d'=>k7 d&&k7 d'
theorem eJ(h:d9 d d'=true):(∃ x y,d=.str x/\d'=.str y)\/(k7 d=true/\k7 d'=true):=by
 cases d with
 | str x =>
  cases d' with
  | str y=>exact .inl ⟨x,y,rfl,rfl⟩
  | _=>exact .inr (by simpa [d9] using h)
 | _=>exact .inr (by simpa [d9] using h)
theorem wH(x y:Str):decide (V.str x=V.str y)=PyData.eqv (.str x) (.str y):=by
 rw[PyData.eqv]
 by_cases e:x=y
 ·subst e;simp
 ·rw[decide_eq_false (λ z=>e (V.str.inj z))];exact(beq_eq_false_iff_ne.mpr e).symm
theorem abd(hr:ll k X.A):OpR X (compareOp .Eq) (λ x y H Q=>∃ d d',ay X.K H d x/\ay X.K H d' y/\d9 d d'=true/\Q (.bl (PyData.eqv d d')) H):=by
 intro pins s σ H x y v u Q I rx ry h;obtain⟨d,d',h1,h2,o,q⟩:=h;rcases eJ o with ⟨a,b,e1,e2⟩ | ⟨o1,o2⟩
 ·subst e1;subst e2;simp only[ay] at h1 h2;subst h1;subst h2;exact ail pins s σ H _ _ v u Q I rx ry ⟨rfl,by rw[wH];exact q⟩
 simp only[k7,Bool.and_eq_true,Bool.not_eq_true'] at o1 o2;obtain⟨as,r1⟩:=eQ I d h1 rx o1.2;obtain⟨bs,r2⟩:=eQ I d' h2 ry o2.2;exact eq_dataH r1 r2 o1.1 o2.1 hr.units ⟨.bl _,H,I,rfl,q⟩
theorem aeH(hr:ll k X.A):OpR X (compareOp .NotEq) (λ x y H Q=>∃ d d',ay X.K H d x/\ay X.K H d' y/\d9 d d'=true/\Q (.bl (!PyData.eqv d d')) H):=by
 intro pins s σ H x y v u Q I rx ry h;obtain⟨d,d',h1,h2,o,q⟩:=h;rcases eJ o with ⟨a,b,e1,e2⟩ | ⟨o1,o2⟩
 ·subst e1;subst e2;simp only[ay] at h1 h2;subst h1;subst h2;exact ahF pins s σ H _ _ v u Q I rx ry ⟨rfl,by rw[wH];exact q⟩
 simp only[k7,Bool.and_eq_true,Bool.not_eq_true'] at o1 o2;obtain⟨as,r1⟩:=eQ I d h1 rx o1.2;obtain⟨bs,r2⟩:=eQ I d' h2 ry o2.2;exact ne_dataH r1 r2 o1.1 o2.1 hr.units ⟨.bl _,H,I,rfl,q⟩
def tyD:PyData->String
 | .none => "NoneType"
 | .bool _ => "bool"
 | .int _ => "int"
 | .str _ => "str"
 | .list _ => "list"
 | .tuple _ => "tuple"
 | .dict _ => "dict"
inductive Ty6:String->Prop where
 | int:Ty6 "int" | bool:Ty6 "bool" | str:Ty6 "str" | list:Ty6 "list" | tuple:Ty6 "tuple" | dict:Ty6 "dict"
def jP(d:PyData)(T:String):Bool:=tyD d==T || (T == "int" && tyD d == "bool")
theorem vS{K:FG}(d:PyData){T:String}(h:Ty6 T):W.kitOne K (.type (tyD d)) (.type T)=some (jP d T):=by
 cases h<;>cases d<;>rfl
theorem yw:dk X (.builtin "isinstance") (λ xs H Q=>∃ x d T,xs=[x,.ty T]/\ay X.K H d x/\Ty6 T/\Q (.bl (jP d T)) H):=by
 intro pins s σ H xs us Q I r h;obtain⟨x,d,T,rfl,rd,h6,q⟩:=h;obtain⟨u,w',rfl,rx,ry⟩:=vals2 r;cases (show w'=Value.type T from ry);have e:=vS (K:=X.K) d h6;have fin:∀ tk,EP X pins σ Q (.bool (jP d T)) {s with toks:=tk}:=λ tk=>⟨.bl _,H,I.tok _,rfl,q⟩;generalize jP d T=b at e fin;cases d with
 | none=>simp only[ay] at rd;subst rd;cases (show u=Value.none from rx);exact W.kia_one W.kitx_none I.kIn True.intro e (λ z=>nomatch z) fin
 | bool y=>simp only[ay] at rd;subst rd;cases (show u=Value.bool y from rx);exact W.kia_one W.kitx_bool I.kIn True.intro e (λ z=>nomatch z) fin
 | int i=>simp only[ay] at rd;subst rd;obtain⟨t,z⟩:=(show ∃ t,u=Value.int i t from rx);subst z;exact W.kia_one W.kitx_int I.kIn True.intro e (λ z=>nomatch z) fin
 | str y=>simp only[ay] at rd;subst rd;obtain⟨t,z⟩:=(show ∃ t,u=Value.str y t from rx);subst z;exact W.kia_one W.kitx_str I.kIn True.intro e (λ z=>nomatch z) fin
 | list ds =>
  simp only[ay] at rd;obtain⟨a,vs,z,hs,_⟩:=rd;subst z;cases (show u=Value.ref a from rx);obtain⟨its,rv,⟨o,n,e1,e2,e3,e4⟩,hz⟩:=I.list hs.sq;exact W.kia_one W.kitx_list I.kIn ⟨_,e1,e2⟩ e (λ z=>nomatch z) fin
 | tuple ds =>
  simp only[ay] at rd;obtain⟨a,vs,z,hs,_⟩:=rd;subst z;cases (show u=Value.ref a from rx);obtain⟨its,rv,⟨o,e1,e2,e3⟩,hz⟩:=I.tuple hs;exact W.kia_one W.kitx_tuple I.kIn ⟨_,e1,e2⟩ e (λ z=>nomatch z) fin
 | dict kvs =>
  simp only[ay] at rd;obtain⟨a,o,l,z,ha,_⟩:=rd;subst z;cases (show u=Value.ref a from rx);obtain⟨_,hs,vs,kv,o',es,ep,e1,e2,_⟩:=uS I.hok (.inr ⟨o,ha⟩);exact W.kia_one W.kitx_dict I.kIn ⟨_,e1,e2.1⟩ e (λ z=>nomatch z) fin
theorem n4{K:FG}{H:Hp}:∀ {bs:List Bool} {vs:List V} {us:List Value},aT K H (bs.map PyData.bool) vs->Vals vs us->LSm.BoolsAre us bs
 | [],vs,us,h,r=>by simp only[List.map_nil,aT] at h;subst h;cases r;exact .nil
 | b::bs,vs,us,h,r=>by
  simp only[List.map_cons,aT] at h;obtain⟨v,vr,e,h1,h2⟩:=h;subst e;simp only[ay] at h1;subst h1;cases r with
  | cons r1 r2=>cases (show _=Value.bool b from r1);exact .cons b (n4 h2 r2)
theorem qo(hc:X.calm=true):dk X (.builtin "all") (λ xs H Q=>∃ (x:V) (bs:List Bool),xs=[x]/\ay X.K H (.list (bs.map PyData.bool)) x/\Q (.bl (bs.all id)) H):=by
 intro pins s σ H xs us Q I r h;obtain⟨x,bs,rfl,rd,q⟩:=h;obtain⟨u,rfl,rx⟩:=vals1 r;simp only[ay] at rd;obtain⟨a,vs,z,hs,ra⟩:=rd;subst z;cases (show u=Value.ref a from rx);obtain⟨its,rv,pl,hz⟩:=I.list hs.sq;obtain⟨m,F⟩:=I.fr;have N:News X.base X.env.locals s.heap []:=λ p hp=>nomatch hp;have hb:=n4 ra rv;have hl:s.heap.IsList a its.toArray:=pl.isList;have hlt:a<s.heap.objs.size:=by obtain⟨_,e,_⟩:=hl;exact Heap.lt_size e
 refine call_all_walk (wpAny_pyIter_list hl ?_);refine⟨s.heap.objs.size,[s.heap.objs.size,a],[s.heap.objs.size],its.toArray.size,_,_,λ i=>(bs[i]?).getD true,rfl,Walks.list (A:=X.A.in1) (I.ok.hd hc) _ a (Nat.ne_of_lt hlt) its.toArray,
  ⟨⟨_,Heap.get?_push_size _ rfl,rfl,rfl⟩,hl.push _⟩,λ i v s' Q' E' hP hQ=>?_,λ h' tk hk=>?_⟩
 ·obtain⟨b,e,rfl⟩:=hb.get i v (by simpa using hP);simp only[e,Option.getD_some] at hQ;exact wpAny_truthy_bool hQ
 ·have e:((List.range its.toArray.size).all λ i=>(bs[i]?).getD true)=bs.all id:=by rw[List.size_toArray,hb.length];exact LSm.range_all bs
  rw[e];exact⟨.bl _,H,I.kept (LSm.kept_iter hk),rfl,q⟩
end D
namespace D
open L2
section
variable {X:Cx}{K:FG}
theorem OpR.or(h:OpR X f r)(h':OpR X f r'):OpR X f (λ x y H Q=>r x y H Q\/r' x y H Q):=by
 intro pins s σ H x y v u Q I rx ry q;rcases q with q | q
 ·exact h pins s σ H x y v u Q I rx ry q
 ·exact h' pins s σ H x y v u Q I rx ry q
theorem OpD.or(h:OpD K r rd)(h':OpD K r' rd'):OpD K (λ x y H Q=>r x y H Q\/r' x y H Q) (λ w w' M Q=>rd w w' M Q\/rd' w w' M Q):=by
 intro x y H w w' M Qd Q r1 r2 m q k;rcases q with q | q
 ·exact .inl (h x y H w w' M Qd Q r1 r2 m q k)
 ·exact .inr (h' x y H w w' M Qd Q r1 r2 m q k)
def acF(g:Int->Int->PyData)(w:W)(w':W)(M:MH)(Q:QD):Prop:=∃ i j,w=.d (.int i)/\w'=.d (.int j)/\Q (.d (g i j)) M
def rdI(C:Int->Int->Prop)(g:Int->Int->PyData)(w:W)(w':W)(M:MH)(Q:QD):Prop:=∃ i j,w=.d (.int i)/\w'=.d (.int j)/\C i j/\Q (.d (g i j)) M
theorem ml(hg:∀ i j H,ay K H (gd i j) (g i j)):OpD K (rI0 g) (acF gd):=by intro x y H w w' M Qd Q r1 r2 m ⟨i,j,e1,e2,q⟩ k;subst e1;subst e2;simp only[aB,ay] at r1 r2;exact⟨i,j,r1,r2,k _ H (.d (gd i j)) M (Kp.refl H) (hg i j H) m q⟩
theorem acU(hg:∀ i j H,ay K H (gd i j) (g i j)):OpD K (rI C g) (rdI C gd):=by intro x y H w w' M Qd Q r1 r2 m ⟨i,j,e1,e2,c,q⟩ k;subst e1;subst e2;simp only[aB,ay] at r1 r2;exact⟨i,j,r1,r2,c,k _ H (.d (gd i j)) M (Kp.refl H) (hg i j H) m q⟩
def qN(w w':W)(M:MH)(Q:QD):Prop:=acF (λ i j=>.int (i-j)) w w' M Q
def gC(w w':W)(M:MH)(Q:QD):Prop:=rdI afe (λ i j=>.int (i * j)) w w' M Q
def d5(w w':W)(M:MH)(Q:QD):Prop:=rdI (λ _ j=>0<j) (λ i j=>.int (i % j)) w w' M Q
def vE(w w':W)(M:MH)(Q:QD):Prop:=rdI ahB (λ i j=>.int (i / j)) w w' M Q
def cI(w:W)(w':W)(M:MH)(Q:QD):Prop:=acF (λ i j=>.int (i+j)) w w' M Q\/∃ x y,w=.d (.str x)/\w'=.d (.str y)/\x.length+y.length<=sizeLine/\Q (.d (.str (x++y))) M
theorem kJ:OpD K (rI0 λ i j=>.int (i-j)) qN:=ml λ _ _ _=>by simp[ay]
theorem iR:OpD K (rI afe λ i j=>.int (i * j)) gC:=acU λ _ _ _=>by simp[ay]
theorem d4:OpD K (rI (λ _ j=>0<j) λ i j=>.int (i % j)) d5:=acU λ _ _ _=>by simp[ay]
theorem wg:OpD K (rI ahB λ i j=>.int (i / j)) vE:=acU λ _ _ _=>by simp[ay]
def adA:R2:=λ x y H Q=>∃ i j,x=.str i/\y=.str j/\i.length+j.length<=sizeLine/\Q (.str (i++j)) H
theorem aas:OpD K adA (λ w w' M Q=>∃ x y,w=.d (.str x)/\w'=.d (.str y)/\x.length+y.length<=sizeLine/\Q (.d (.str (x++y))) M):=by intro x y H w w' M Qd Q r1 r2 m ⟨i,j,e1,e2,c,q⟩ k;subst e1;subst e2;simp only[aB,ay] at r1 r2;exact⟨i,j,r1,r2,c,k _ H (.d (.str (i++j))) M (Kp.refl H) (by simp[aB,ay]) m q⟩
theorem bQ:OpR X (binaryOp .Add) (λ x y H Q=>rI0 (λ i j=>.int (i+j)) x y H Q\/adA x y H Q):=OpR.or agl uD
theorem bo:OpD K (λ x y H Q=>rI0 (λ i j=>.int (i+j)) x y H Q\/adA x y H Q) cI:=OpD.or (ml λ _ _ _=>by simp[ay]) aas
def rS(g:Str->Str->Bool):R2:=λ x y H Q=>∃ i j,x=.str i/\y=.str j/\Q (.bl (g i j)) H
def rdS(g:Str->Str->Bool)(w:W)(w':W)(M:MH)(Q:QD):Prop:=∃ i j,w=.d (.str i)/\w'=.d (.str j)/\Q (.d (.bool (g i j))) M
theorem aii:OpD K (rS g) (rdS g):=by intro x y H w w' M Qd Q r1 r2 m ⟨i,j,e1,e2,q⟩ k;subst e1;subst e2;simp only[aB,ay] at r1 r2;exact⟨i,j,r1,r2,k _ H (.d (.bool (g i j))) M (Kp.refl H) (by simp[aB,ay]) m q⟩
theorem ze:OpR X (compareOp .LtE) (rS λ x y=>!decide (y.cps.toList<x.cps.toList)):=by intro pins s σ H x y v u Q I rx ry h;obtain⟨i,j,rfl,rfl,q⟩:=h;obtain⟨t,rfl⟩:=rx;obtain⟨t',rfl⟩:=ry;exact PySem.P.le_str ⟨.bl _,H,I,rfl,q⟩
def abp(w:W)(w':W)(M:MH)(Q:QD):Prop:=acF (λ i j=>.bool (decide (i<=j))) w w' M Q\/rdS (λ x y=>!decide (y.cps.toList<x.cps.toList)) w w' M Q
theorem j8:OpR X (compareOp .LtE) (λ x y H Q=>rI0 (λ i j=>.bl (decide (i<=j))) x y H Q\/rS (λ x y=>!decide (y.cps.toList<x.cps.toList)) x y H Q):=OpR.or aib ze
theorem gz:OpD K (λ x y H Q=>rI0 (λ i j=>.bl (decide (i<=j))) x y H Q\/rS (λ x y=>!decide (y.cps.toList<x.cps.toList)) x y H Q) abp:=OpD.or (ml λ _ _ _=>by simp[ay]) aii
def ahT(w w':W)(M:MH)(Q:QD):Prop:=acF (λ i j=>.bool (decide (i<j))) w w' M Q
def zV(w w':W)(M:MH)(Q:QD):Prop:=acF (λ i j=>.bool (decide (j<i))) w w' M Q
def aeB(w w':W)(M:MH)(Q:QD):Prop:=acF (λ i j=>.bool (decide (j<=i))) w w' M Q
theorem aa9:OpD K (rI0 λ i j=>.bl (decide (i<j))) ahT:=ml λ _ _ _=>by simp[ay]
theorem me:OpD K (rI0 λ i j=>.bl (decide (j<i))) zV:=ml λ _ _ _=>by simp[ay]
theorem wA:OpD K (rI0 λ i j=>.bl (decide (j<=i))) aeB:=ml λ _ _ _=>by simp[ay]
def aiN(w:W)(w':W)(M:MH)(Q:QD):Prop:=∃ d d',w=.d d/\w'=.d d'/\d9 d d'=true/\Q (.d (.bool (PyData.eqv d d'))) M
theorem aeG:OpD K (λ x y H Q=>∃ d d',ay K H d x/\ay K H d' y/\d9 d d'=true/\Q (.bl (PyData.eqv d d')) H) aiN:=by intro x y H w w' M Qd Q r1 r2 m ⟨d,d',e1,e2,o1,q⟩ k;subst e1;subst e2;exact⟨d,d',r1,r2,o1,k _ H (.d (.bool _)) M (Kp.refl H) (by simp[aB,ay]) m q⟩
def acg(w:W)(M:MH)(Q:QD):Prop:=∃ i,w=.d (.int i)/\Q (.d (.int (-i))) M
theorem wJ:UnD K (rU λ i=>.int (-i)) acg:=by intro x H w M Qd Q r m ⟨i,e,q⟩ k;subst e;simp only[aB,ay] at r;exact⟨i,r,k _ H (.d (.int (-i))) M (Kp.refl H) (by simp[aB,ay]) m q⟩
def adJ:W->Bool
 | .d (.str z)=>decide (z.length<=sizeLine)
 | _=>true
def ixW(M:MH):W->Int->Option W
 | .d (.list ds),i=>(atI ds i).map W.d
 | .d (.tuple ds),i=>(atI ds i).map W.d
 | .d (.str z),i=>(atI z.cps.toList i).map λ c=>W.d (.str ⟨#[c]⟩)
 | .m a,i=>match M a with
  | some (.lst ws)=>atI ws i
  | some (.tup ws)=>atI ws i
  | _=>none
 | _,_=>none
inductive RIx(w:W) (w':W) (M:MH) (Q:QD):Prop
 | mk (i:Int) (x:W) (z0:w'=.d (.int i)) (z1:ixW M w i=some x) (z2:adJ w=true) (q:Q x M):RIx w w' M Q
def dP(w:W)(w':W)(M:MH)(Q:QD):Prop:=RIx w w' M Q
theorem tu(r:aT K H ds vs)(e:atI ds i=some d):∃ v,atI vs i=some v/\ay K H d v:=by
 unfold atI at e ⊢;rw[r.length];cases q:ixN ds.length i with
 | none=>rw[q] at e;cases e
 | some j =>
  rw[q] at e;exact r.get e
theorem pG(r:bF K H ds vs)(e:atI ds i=some d):∃ v,atI vs i=some v/\aB K H d v:=by
 unfold atI at e ⊢;rw[<- r.length];cases q:ixN ds.length i with
 | none=>rw[q] at e;cases e
 | some j =>
  rw[q] at e;exact r.get e
theorem aZ:OpD K (rIx K) dP:=by
 intro x y H w w' M Qd Q r1 r2 m ⟨i,z,e2,ei,hf,q⟩ k;subst e2;simp only[aB,ay] at r2;cases w with
 | t n=>simp[ixW] at ei
 | m a =>
  simp only[aB] at r1;simp only[ixW] at ei;cases hm:M a with
  | none=>rw[hm] at ei;cases ei
  | some mo =>
   rw[hm] at ei;cases mo with
   | lst ws =>
    obtain⟨vs,e1,rw1⟩:=m a _ hm;obtain⟨v,e3,rv⟩:=pG rw1 ei;exact .inl ⟨a,vs,i,v,r1,r2,SqL.of e1,e3,k v H z M (Kp.refl H) rv m q⟩
   | dic _=>cases ei
   | dct _=>cases ei
   | fdic _=>cases ei
   | ins _ _=>cases ei
   | tup ws =>
    obtain⟨vs,e1,rw1⟩:=m a _ hm;obtain⟨v,e3,rv⟩:=pG rw1 ei;exact .inr (.inl ⟨a,vs,i,v,r1,r2,.inl (.inl e1),e3,k v H z M (Kp.refl H) rv m q⟩)
   | flst _=>cases ei
   | exc _ _=>cases ei
   | code _ _=>cases ei
 | d d =>
  cases d with
  | list ds =>
   simp only[aB,ay] at r1;obtain⟨a,vs,e1,hs,ra⟩:=r1;simp only[ixW] at ei;cases h:atI ds i with
   | none=>rw[h] at ei;cases ei
   | some d =>
    rw[h] at ei;cases ei;obtain⟨v,e3,rv⟩:=tu ra h;exact .inl ⟨a,vs,i,v,e1,r2,hs.sq,e3,k v H (.d d) M (Kp.refl H) rv m q⟩
  | tuple ds =>
   simp only[aB,ay] at r1;obtain⟨a,vs,e1,hs,ra⟩:=r1;simp only[ixW] at ei;cases h:atI ds i with
   | none=>rw[h] at ei;cases ei
   | some d =>
    rw[h] at ei;cases ei;obtain⟨v,e3,rv⟩:=tu ra h;exact .inr (.inl ⟨a,vs,i,v,e1,r2,hs,e3,k v H (.d d) M (Kp.refl H) rv m q⟩)
  | str s =>
   simp only[aB,ay] at r1;simp only[ixW] at ei;cases h:atI s.cps.toList i with
   | none=>rw[h] at ei;cases ei
   | some c =>
    rw[h] at ei;cases ei;exact .inr (.inr ⟨s,i,c,r1,r2,of_decide_eq_true hf,h,k _ H (.d (.str ⟨#[c]⟩)) M (Kp.refl H) (by simp[aB,ay]) m q⟩)
  | _=>simp[ixW] at ei
theorem acO(h:PE X e t):PE X e (λ σ H Q=>t σ H λ v H1=>Q v H1\/∃ p u,v=.ref p/\H1 p=some u/\Fz u/\∀ o,Q v (upd H1 p (.frz o u))):=by
 intro pins s σ H Q I hq;refine thn (h pins s σ H _ I hq) λ v s1 hq44=>?_;obtain⟨x,H1,I1,r1,q⟩:=hq44;rcases q with q | ⟨p,u,e1,e2,f,q⟩
 ·exact⟨x,_,I1,r1,q⟩
 ·obtain⟨o,I2⟩:=I1.freeze e2 f;exact⟨x,_,I2,r1,q o⟩
def aiH:V->Option Int->Option Int->Hp->VK->Prop:=λ x lo hi H Q=>∃ z,x=.str z/\z.length<=sizeLine/\Q (.str (Txt.slice z lo hi)) H
theorem agB:SlR X aiH:=by
 intro pins s σ H x v vl vu lo hi sl Q I rx hs pl pu h;obtain⟨z,rfl,hz,q⟩:=h;obtain⟨t,rfl⟩:=rx;have fin:∀ t' k,EP X pins σ Q (.str (Txt.slice z lo hi) t') {s with toks:=k}:=λ t' k=>⟨.str _,H,I.tok _,⟨_,rfl⟩,q⟩;refine⟨"str",_,F.slot_str_getitem.lookup,typeIs_str _ _ _,?_⟩;cases pl with
 | none =>
  cases pu with
  | none=>exact wpAny_getItem_str_slice (l:=none) (u:=none) (st:=none) hs rfl (post_val_or_str ⟨Nat.le_trans (Txt.slice_le z _ _) hz,fin⟩)
  | int j uj=>exact wpAny_getItem_str_slice (l:=none) (u:=some (j,uj)) (st:=none) hs rfl (post_val_or_str ⟨Nat.le_trans (Txt.slice_le z _ _) hz,fin⟩)
 | int i ui =>
  cases pu with
  | none=>exact wpAny_getItem_str_slice (l:=some (i,ui)) (u:=none) (st:=none) hs rfl (post_val_or_str ⟨Nat.le_trans (Txt.slice_le z _ _) hz,fin⟩)
  | int j uj=>exact wpAny_getItem_str_slice (l:=some (i,ui)) (u:=some (j,uj)) (st:=none) hs rfl (post_val_or_str ⟨Nat.le_trans (Txt.slice_le z _ _) hz,fin⟩)
abbrev TOd:=DS->MH->(Option Int->MH->Prop)->Prop
def upO(K:FG)(t:TOd):TO:=λ σ H Q=>∃ τ M Qd,Abs K H σ τ M/\t τ M Qd/\∀ b H' M',Kp H H'->cf K H' M'->Qd b M'->Q b H'
abbrev POd(X:Cx)(e:Option Expr)(t:TOd):Prop:=PO X e (upO X.K t)
theorem aiw(h:PO X e t)(k:∀ σ H Q,t' σ H Q->t σ H Q):PO X e t':=λ pins s σ H Q I q=>h pins s σ H Q I (k σ H Q q)
def eF(_:DS)(M:MH)(Q:Option Int->MH->Prop):Prop:=Q none M
def lu(t:TD)(τ:DS)(M:MH)(Q:Option Int->MH->Prop):Prop:=t τ M λ w M1=>∃ i,w=.d (.int i)/\Q (some i) M1
theorem aaf(h:PD X e te):POd X (some e) (lu te):=aiw (ac7 h) λ σ H Q ⟨τ,M,Qd,A,q,k⟩=>⟨τ,M,_,A,q,λ v H1 w M1 kp r m hq45=>by obtain⟨i,e,q1⟩:=hq45;subst e;simp only[aB,ay] at r;exact⟨i,r,k _ H1 M1 kp m q1⟩⟩
def cutD(xs:List α)(lo hi:Option Int):List α:=(xs.drop (HT.sIx xs.length 0 lo)).take (HT.sIx xs.length xs.length hi-HT.sIx xs.length 0 lo)
def ab4(n:Nat)(lo hi:Option Int):Bool:=decide (HT.sIx n 0 lo=0/\HT.sIx n n hi=n)
def slW:W->Option Int->Option Int->Option W
 | .d (.list ds),lo,hi=>some (.d (.list (cutD ds lo hi)))
 | .d (.tuple ds),lo,hi=>if ab4 ds.length lo hi then none else some (.d (.tuple (cutD ds lo hi)))
 | .d (.str z),lo,hi=>some (.d (.str (Txt.slice z lo hi)))
 | _,_,_=>none
def dSl(te:TD)(tl th:TOd)(τ:DS)(M:MH)(Q:QD):Prop:=te τ M λ w M1=>tl τ M1 λ lo M2=>th τ M2 λ hi M3=>∃ z,slW w lo hi=some z/\adJ w=true/\Q z M3
theorem af5:SlR X (λ x lo hi H Q=>aiA X.K x lo hi H Q\/aiC X.K x lo hi H Q\/aiH x lo hi H Q):=adB.or (afJ.or agB)
theorem aT.cut(r:aT K H ds vs)(lo hi:Option Int):aT K H (cutD ds lo hi) (ab0 vs lo hi):=by
 unfold cutD ab0;rw[r.length];exact(r.drop _).take _
theorem aaL{te:TD}{lo hi:Option Expr}{tl th:TOd}{pos p2:Pos}(he:PD X e te)(hl:POd X lo tl)(hu:POd X hi th):PD X (.Subscript e (.Slice lo hi none p2) pos) (dSl te tl th):=
 fN (acO (aaX af5 he hl hu)) λ σ H Q h=>by
  obtain⟨τ,M,Qd,A,h,k⟩:=h;refine⟨τ,M,_,A,h,λ v H1 w M1 kp1 r1 m1 q1=>⟨τ,M1,_,A.go kp1 m1,q1,λ lo H2 M2 kp2 m2 q2=>⟨τ,M2,_,A.go (kp1.trans kp2) m2,q2,λ hi H3 M3 kp3 m3 q3=>?_⟩⟩⟩;obtain⟨z,ez,hf,q⟩:=q3;have kp:=(kp1.trans kp2).trans kp3;have r:=r1.keep (kp2.trans kp3);cases w with
  | t n=>simp[slW] at ez
  | m a=>simp[slW] at ez
  | d d =>
   cases d with
   | list ds =>
    simp only[slW] at ez;cases ez;simp only[aB,ay] at r;obtain⟨a,vs,e1,hs,ra⟩:=r;exact .inl ⟨a,vs,e1,hs.sq,λ p hp=>.inr (mE hp (aT.cut ra lo hi) m3 q (kgo k kp))⟩
   | tuple ds =>
    simp only[slW] at ez
    split at ez
    ·cases ez
    ·rename_i hw
     cases ez;simp only[aB,ay] at r;obtain⟨a,vs,e1,hs,ra⟩:=r;refine .inr (.inl ⟨a,vs,e1,hs,?_,λ p hp=>.inl ?_⟩)
     ·rw[ra.length]
      simpa [ab4] using hw
     ·refine k _ _ (.d (.tuple _)) M3 (kp.trans (Kp.new hp)) ?_ (m3.new hp) q;simp only[aB,ay];exact⟨p,_,rfl,.inl (.inl aq),(aT.cut ra lo hi).keep (Kp.new hp)⟩
   | str s =>
    simp only[slW] at ez;cases ez;simp only[aB,ay] at r;exact .inr (.inr ⟨s,r,of_decide_eq_true hf,.inl (k _ H3 (.d (.str _)) M3 kp (by simp[aB,ay]) m3 q)⟩)
   | _=>simp[slW] at ez
def aaZ(to ti:TD)(v:W)(τ:DS)(M:MH)(Q:DS->MH->Prop):Prop:=to τ M λ w M1=>ti τ M1 λ w' M2=>∃ a ws i j,w=.m a/\w'=.d (.int i)/\M2 a=some (.lst ws)/\ixN ws.length i=some j/\Q τ (bN M2 a (.lst (ws.set j v)))
theorem yh(m:cf K H M)(e:H a=some (.lst vs))(rw1:bF K H ws vs)(rv:aB K H w v) :
  Kp H (upd H a (.lst (vs.set j v)))/\cf K (upd H a (.lst (vs.set j v))) (bN M a (.lst (ws.set j w))):=by
 have kp:Kp H (upd H a (.lst (vs.set j v))):=Kp.set e (λ xs z=>nomatch z) λ _ _ z=>nomatch z;exact⟨kp,m.put kp ⟨_,aq,(bF.set rv j rw1).keep kp⟩⟩
theorem acN(ho:PD X o to)(hi:PD X i ti)
  (ha:∀ v,assign (.Subscript o i pos) X.env v=(do
   let ov <- holding [v] (eval o X.env)
   let iv <- holding [v,ov] (eval i X.env)
   standAt pos
   holding [v,ov,iv] (setItem ov iv v)
   release [v,ov,iv] []):=by intro _;rfl):PGd X (.Subscript o i pos) (aaZ to ti):=ahb (aeK ho hi set_list ha) λ v σ H Q h=>by
 obtain⟨w,τ,M,Qd,rv,A,h,k⟩:=h;refine⟨τ,M,_,A,h,λ x H1 wo M1 kp1 r1 m1 q1=>⟨τ,M1,_,A.go kp1 m1,q1,λ y H2 wi M2 kp2 r2 m2 q2=>?_⟩⟩;obtain⟨a,ws,i,j,e1,e2,hm,hj,q⟩:=q2;subst e1;subst e2;simp only[aB,ay] at r1 r2;obtain⟨vs,e3,rw1⟩:=m2 a _ hm;have kp:=kp1.trans kp2;obtain⟨kp3,m3⟩:=yh (j:=j) m2 e3 rw1 (rv.keep kp);exact⟨a,vs,i,j,r1,r2,e3,by rw[<- rw1.length];exact hj,k σ _ τ _ (kp.trans kp3) (A.go (kp.trans kp3) m3) q⟩
theorem zJ:ahx X (ahY X.K):=by
 intro pins s σ H o i ov iv Q I ro ri h;obtain⟨p,xs,k,z,rfl,rfl,hq,he,q⟩:=h;cases ro;obtain⟨t,rfl⟩:=ri;obtain⟨its,r,pl,hz⟩:=I.list hq;obtain⟨j,h1,h2,h3,h4,h5⟩:=nJ he;obtain⟨w,ew,rw'⟩:=r.get h2;have hl:=r.length;have hn:=lT;have fin:EP X pins σ Q w s:=⟨z,H,I,rw',q⟩
 by_cases h0:0<=k
 ·have hj:k.toNat=j:=by rw[seqIndex_of h0 h5] at h1;exact Option.some.inj h1
  exact wpAny_getItem_list pl.isList h0 (by omega) (by rw[hj];simpa using ew) fin
 ·have hj:(k+(its.toArray.size:Int)).toNat=j:=by rw[seqIndex_neg (by omega) h4] at h1;rw[List.size_toArray,<- hl];exact Option.some.inj h1
  exact wpAny_getItem_list_neg pl.isList (by omega) (by rw[List.size_toArray]<;>omega) (by omega) (by rw[hj];simpa using ew) fin
def aaQ(to ti te:TD)(f:Int->Int->Int)(D:Ed)(τ:DS)(M:MH):Prop:=to τ M λ w M1=>ti τ M1 λ w' M2=>∃ a ws i j n,w=.m a/\w'=.d (.int i)/\M2 a=some (.lst ws)/\ixN ws.length i=some j/\ws[j]? =some (.d (.int n)) /\
 te τ M2 λ y M3=>∃ n',y=.d (.int n')/\M3=M2/\D.nx τ (bN M3 a (.lst (ws.set j (.d (.int (f n n'))))))
theorem aah(ho:PD X o to)(hi:PD X i ti)(he:PD X e te)(hp:PIp X op (ipI f))
  (ha:∀ ov iv new,augStore i ov iv new=(do holding [new,ov,iv] (setItem ov iv new);release [new,ov,iv] [];pure .next):=by intros;rfl):PSd X (.AugAssign (.Subscript o i tpos) op e pos) (aaQ to ti te f):=
 tH (yH ho hi zJ he hp set_list ha) λ D σ H h=>by
  obtain⟨τ,M,Dd,A,h,k1,_⟩:=h;refine⟨τ,M,_,A,h,λ x H1 wo M1 kp1 r1 m1 q1=>⟨τ,M1,_,A.go kp1 m1,q1,λ y H2 wi M2 kp2 r2 m2 q2=>?_⟩⟩;obtain⟨a,ws,i,j,n,e1,e2,hm,hj,hn,q⟩:=q2;subst e1;subst e2;simp only[aB,ay] at r1 r2;obtain⟨vs,e3,rw1⟩:=m2 a _ hm;obtain⟨v,e4,rv⟩:=rw1.get hn;simp only[aB,ay] at rv;have hj':ixN vs.length i=some j:=by rw[<- rw1.length];exact hj
  refine⟨a,vs,i,v,r1,r2,SqL.of e3,by unfold atI;rw[hj'];exact e4,?_⟩;refine⟨τ,M2,_,A.go (kp1.trans kp2) m2,q,λ z H3 wz M3 kp3 r3 m3 q3=>?_⟩;obtain⟨n',e5,e6,qn⟩:=q3;subst e5;subst e6;simp only[aB,ay] at r3;refine⟨n,n',rv,r3,?_⟩;obtain⟨vs',e3',rw2⟩:=m3 a _ hm;have kp:=(kp1.trans kp2).trans kp3;obtain⟨kp4,m4⟩:=yh (j:=j) (v:=.int (f n n')) (w:=.d (.int (f n n'))) m3 e3' rw2 (by simp[aB,ay]);exact⟨a,vs',i,j,r1,r2,e3',by rw[<- rw2.length];exact hj,k1 σ _ τ _ (kp.trans kp4) (A.go (kp.trans kp4) m4) qn⟩
end
section
variable {X:Cx}{K:FG}{tg:Expr}
def Its(z:Str):It:=⟨λ i _=>i<z.cps.size,λ i H x H'=>H'=H/\∃ c,z.cps[i]? =some c/\x=.str ⟨#[c]⟩,λ i _=>z.cps.size<=i⟩
theorem tF(it:Addr)(T:String)(z:Str)(t:Tok)
  (hT:["enumerate", "zip", "dict_itemiterator", "dict_reverseitemiterator", "odict_iterator", "itertools.zip_longest", "itertools.pairwise"].contains T=false)
  (W:∀ A:Around,A.handled=none->Walks P w A it [it] [it] z.cps.size (SignAt z) (λ i h=>h.IsStrIter it T z t i))(hself:∀ (A:Around) (i:Nat) (s:Shared) (Q:VP) (E:VP),s.heap.IsStrIter it T z t i->Q (.ref it) s->wpAny (model P w) A (pyIter (.ref it)) Q E s)
  (hend:∀ (A:Around) (i:Nat) (s:Shared) (Q:Option Value->Shared->Prop) (E:VP),A.handled=none->s.heap.IsStrIter it T z t i->z.cps[i]? =none->(∀ h',Heap.ExtBut it s.heap h'->Q none {s with heap:=h'})->wpAny (model P w) A (pyNext (.ref it)) Q E s) :
  Turn P w K tg (Its z) [it] it (λ i h=>h.IsStrIter it T z t i) where
 mem:=by simp
 obj:=λ i h st b hb=>by
  have e:b=it:=by simpa using hb
  subst e;obtain⟨o,e,c,d⟩:=st;exact⟨o,e,λ v q=>by rw[d] at q;cases q⟩
 keep:=λ i h h' st k=>by obtain⟨o,e,r⟩:=st;exact⟨o,k it (by simp) o e,r⟩
 item:=by intro X hP hw hK hc i pins s σ H E I hf st hg;subst hP hw hK;obtain⟨f0,f1,f2,f3,f4,f5⟩:=hf it (by simp);refine(W X.A (I.ok.hd hc)).item i s _ _ hg st λ v h' tk hv st' kk=>?_;obtain⟨c,u,hc',rfl⟩:=hv;have I1:Inv X pins σ H {s with heap:=h',toks:=tk}:=I.turned (λ b o hb e=>kk b o (by simpa using hb) e) f0 f1 f3 f4 f5;obtain⟨o,e,cl,d⟩:=id st';exact⟨_,rfl,uh (s:={s with heap:=h',toks:=tk}) e cl d hT ⟨.str ⟨#[c]⟩,H,I1,⟨u,rfl⟩,⟨rfl,c,hc',rfl⟩,st',λ b hb=>(hf b hb).1⟩⟩
 done:=by intro X hP hw hK hc i pins s σ H E I hf st hg;subst hP hw hK;obtain⟨f0,f1,f2,f3,f4,f5⟩:=hf it (by simp);have hn:z.cps.size<=i:=hg;exact hend X.A i s _ E (I.ok.hd hc) st (by simp[hn]) λ h' eb=>⟨rfl,I.turned (t':=s.toks) (λ b o hb e=>eb b o hb e) f0 f1 f3 f4 f5⟩
 self:=hself
section
variable {pins:PN}{σ:St}{H:Hp}{s:Shared}{R:It->Hp->Prop}{E:VP}
theorem agS(I:Inv X pins σ H s)(q:R (Its z) H):wpAny (model X.prog X.w) X.A (pyIter (.str z t)) (PIE X pins σ tg R) E s:=by
 cases ha:z.cps.all (·<128)
 ·refine wpAny_pyIter_wide ha ?_;refine⟨s.heap.objs.size,[s.heap.objs.size],_,_,H,rfl,I.kept (t':=s.toks) λ b o e=>Heap.get?_push_of_some _ e,
   tF _ "str_iterator" z t (by decide) (λ A hA=>Walks.strWide hA _ z t) (λ A i s Q E st h=>wpAny_pyIter_striter_wide st h) (λ A i s Q E hh st hx hQ=>wpAny_pyNext_wide_end hh st hx hQ),⟨_,Heap.get?_push_size _ rfl,rfl,rfl⟩,λ b hb=>?_,q⟩
  have e:b=s.heap.objs.size:=by simpa using hb
  subst e;exact I.nU (Nat.le_refl _) (I.hok.fresh (Nat.le_refl _))
 ·refine wpAny_pyIter_ascii ha ?_;refine⟨s.heap.objs.size,[s.heap.objs.size],_,_,H,rfl,I.kept (t':=s.toks) λ b o e=>Heap.get?_push_of_some _ e,
   tF _ "str_ascii_iterator" z t (by decide) (λ A hA=>Walks.strAscii hA _ z t) (λ A i s Q E st h=>wpAny_pyIter_striter_ascii st h) (λ A i s Q E hh st hx hQ=>wpAny_pyNext_ascii_end hh st hx hQ),⟨_,Heap.get?_push_size _ rfl,rfl,rfl⟩,λ b hb=>?_,q⟩
  have e:b=s.heap.objs.size:=by simpa using hb
  subst e;exact I.nU (Nat.le_refl _) (I.hok.fresh (Nat.le_refl _))
theorem ac0(I:Inv X pins σ H s)(hq:SqL X.K H a xs)(q:R (Itl X.K a) H):wpAny (model X.prog X.w) X.A (pyIter (.ref a)) (PIE X pins σ tg R) E s:=by
 obtain⟨its,rv,p,hz⟩:=I.list hq;refine wpAny_pyIter_list p.isList ?_;refine⟨s.heap.objs.size,[s.heap.objs.size],_,_,H,rfl,I.kept (t':=s.toks) λ b o e=>Heap.get?_push_of_some _ e,yb a _,⟨_,Heap.get?_push_size _ rfl,rfl,rfl⟩,λ b hb=>?_,q⟩;have e:b=s.heap.objs.size:=by simpa using hb
 subst e;exact I.nU (Nat.le_refl _) (I.hok.fresh (Nat.le_refl _))
theorem agk(I:Inv X pins σ H s)(hq:SqT X.K H a xs)(q:R (Itt X.K a) H):wpAny (model X.prog X.w) X.A (pyIter (.ref a)) (PIE X pins σ tg R) E s:=by
 obtain⟨its,rv,p,hz⟩:=I.tuple hq;refine wpAny_pyIter_tuple (show s.heap.IsTuple a its.toArray from p) ?_;refine⟨s.heap.objs.size,[s.heap.objs.size],_,_,H,rfl,I.kept (t':=s.toks) λ b o e=>Heap.get?_push_of_some _ e,u5 a _,⟨_,Heap.get?_push_size _ rfl,rfl,rfl⟩,λ b hb=>?_,q⟩;have e:b=s.heap.objs.size:=by simpa using hb
 subst e;exact I.nU (Nat.le_refl _) (I.hok.fresh (Nat.le_refl _))
end
def ai8(K:FG)(tl:TE):TI:=λ σ H R=>tl σ H λ x H1=>(∃ a xs,x=.ref a/\SqL K H1 a xs/\R (Itl K a) H1)\/(∃ a xs,x=.ref a/\SqT K H1 a xs/\R (Itt K a) H1)\/∃ z,x=.str z/\R (Its z) H1
theorem agQ(hl:PE X l tl):PI X tg l (ai8 X.K tl):=by
 intro pins s σ H R I h;refine thn (hl pins s σ H _ I h) λ v s1 hq46=>?_;obtain⟨x,H1,I1,r1,q1⟩:=hq46;rcases q1 with ⟨a,xs,e,hq,q⟩ | ⟨a,xs,e,hq,q⟩ | ⟨z,e,q⟩
 ·subst e;cases r1;exact ac0 I1 hq q
 ·subst e;cases r1;exact agk I1 hq q
 ·subst e;obtain⟨t,rfl⟩:=r1;exact agS I1 q
def ItD(K:FG)(J:It)(H0:Hp)(ws:List W):Prop:=∀ H,Kp H0 H->∀ i:Nat,(i<ws.length->J.go i H)/\(ws.length<=i->J.stop i H) /\
 ∀ x H',i<ws.length->J.yld i H x H'->Kp H H'/\(∀ M,cf K H M->cf K H' M)/\∃ w,ws[i]? =some w/\aB K H' w x
abbrev TId:=DS->MH->(List W->MH->Prop)->Prop
def upI(K:FG)(t:TId):TI:=λ σ H R=>∃ τ M Rd,Abs K H σ τ M/\t τ M Rd/\∀ J H' ws M',Kp H H'->cf K H' M'->ItD K J H' ws->Rd ws M'->R J H'
abbrev PId(X:Cx)(tg iter:Expr)(t:TId):Prop:=PI X tg iter (upI X.K t)
theorem abi(h:PI X tg iter t)(k:∀ σ H R,t' σ H R->t σ H R):PI X tg iter t':=λ pins s σ H R I q=>h pins s σ H R I (k σ H R q)
def kC:W->Option (List W)
 | .d (.list ds)=>some (ds.map W.d)
 | .d (.tuple ds)=>some (ds.map W.d)
 | .d (.str z)=>some (z.cps.toList.map λ c=>W.d (.str ⟨#[c]⟩))
 | _=>none
def cm(te:TD)(τ:DS)(M:MH)(R:List W->MH->Prop):Prop:=te τ M λ w M1=>∃ ws,kC w=some ws/\R ws M1
theorem adW(hs:SqT K H a vs)(ra:aT K H ds vs):ItD K (Itt K a) H (ds.map W.d):=λ H1 kp i=>by
 have hl:=ra.length;refine⟨λ hi=>?_,λ hi=>⟨vs,SqT.keep kp hs,by rw[List.length_map] at hi;omega⟩,λ x H' hi y=>?_⟩
 ·rw[List.length_map] at hi;exact⟨vs,vs[i]'(by omega),SqT.keep kp hs,by simp⟩
 ·obtain⟨e,y⟩:=y;subst e;have ev:=y vs (SqT.keep kp hs);obtain⟨d,e1,rd⟩:=(ra.keep kp).get' ev;exact⟨Kp.refl _,λ M m=>m,.d d,by simp[e1],rd⟩
theorem acD(z:Str):ItD K (Its z) H (z.cps.toList.map λ c=>W.d (.str ⟨#[c]⟩)):=λ H1 kp i=>by refine⟨λ hi=>(show i<z.cps.size by simpa using hi),λ hi=>(show z.cps.size<=i by simpa using hi),λ x H' hi y=>?_⟩;obtain⟨e,c,hc,ex⟩:=y;subst e;subst ex;exact⟨Kp.refl _,λ M m=>m,.d (.str ⟨#[c]⟩),by simp[hc],by simp[aB,ay]⟩
theorem zk(lo:Int)(n:Nat):ItD K (Itr lo n) H ((List.range n).map λ i:Nat=>W.d (.int (lo+(i:Int)))):=λ H1 kp i=>by refine⟨λ hi=>(show i<n by simpa using hi),λ hi=>(show n<=i by simpa using hi),λ x H' hi y=>?_⟩;obtain⟨e,ex⟩:=y;subst e;subst ex;simp at hi;exact⟨Kp.refl _,λ M m=>m,.d (.int (lo+i)),by simp[hi],by simp[aB,ay]⟩
theorem xQ(h:PD X l te):PId X tg l (cm te):=abi (agQ h) λ σ H R hq47=>by
 obtain⟨τ,M,Rd,A,h,k⟩:=hq47;refine⟨τ,M,_,A,h,λ v H1 w M1 kp r m hq48=>?_⟩;obtain⟨ws,e,q⟩:=hq48;cases w with
 | t n=>simp[kC] at e
 | m a=>simp[kC] at e
 | d d =>
  cases d with
  | list ds =>
   simp only[kC] at e;cases e;simp only[aB,ay] at r;obtain⟨a,vs,e1,hs,ra⟩:=r;refine .inl ⟨a,vs,e1,hs.sq,k _ H1 _ M1 kp m ?_ q⟩;intro H2 kp2 i;have hl:=ra.length;have hs2:=(hs.keep kp2).sq;refine⟨λ hi=>?_,λ hi=>⟨vs,hs2,by rw[List.length_map] at hi;omega⟩,λ x H' hi y=>?_⟩
   ·rw[List.length_map] at hi;exact⟨vs,vs[i]'(by omega),hs2,by simp⟩
   ·obtain⟨e,y⟩:=y;subst e;have ev:=y vs hs2;obtain⟨d,e1,rd⟩:=(ra.keep kp2).get' ev;exact⟨Kp.refl _,λ M m=>m,.d d,by simp[e1],rd⟩
  | tuple ds =>
   simp only[kC] at e;cases e;simp only[aB,ay] at r;obtain⟨a,vs,e1,hs,ra⟩:=r;exact .inr (.inl ⟨a,vs,e1,hs,k _ H1 _ M1 kp m (adW hs ra) q⟩)
  | str z =>
   simp only[kC] at e;cases e;simp only[aB,ay] at r;exact .inr (.inr ⟨z,r,k _ H1 _ M1 kp m (acD z) q⟩)
  | _=>simp[kC] at e
def pS(lo:Int)(n:Nat):List W:=(List.range n).map λ i:Nat=>W.d (.int (lo+(i:Int)))
def u3(ta:TAd)(τ:DS)(M:MH)(R:List W->MH->Prop):Prop:=ta τ M λ ws M1=>∃ j:Int,ws=[.d (.int j)]/\-(2 ^ 62)<=j/\j<2 ^ 62/\R (pS 0 j.toNat) M1
def aca(ta:TAd)(τ:DS)(M:MH)(R:List W->MH->Prop):Prop:=ta τ M λ ws M1=>∃ i j:Int,ws=[.d (.int i),.d (.int j)]/\(-(2 ^ 62)<=i/\i<2 ^ 62/\-(2 ^ 62)<=j/\j<2 ^ 62)/\R (pS i (j-i).toNat) M1
theorem cZ(r:bF K H [w] vs):∃ v,vs=[v]/\aB K H w v:=by
 cases r with
 | cons r1 r2=>cases r2;exact⟨_,rfl,r1⟩
theorem tX(r:bF K H [w,w'] vs):∃ v v',vs=[v,v']/\aB K H w v/\aB K H w' v':=by
 cases r with
 | cons r1 r2 =>
  cases r2 with
  | cons r3 r4=>cases r4;exact⟨_,_,rfl,r1,r3⟩
theorem uk(hg:Gl X "range")(hm:X.mg "range" = none)(ha:PAd X [a] ta)(hs:starEach [a] X.env=[(false,eval a X.env)]:=by rfl):PId X tg (.Call (.Name "range" p) [a] [] pos) (u3 ta):=
 abi (we hg hm ha hs) λ σ H R ⟨τ,M,Rd,A,h,k⟩=>⟨τ,M,_,A,h,λ vs H1 ws M1 kp r m hq49=>by obtain⟨j,e,h1,h2,q⟩:=hq49;subst e;obtain⟨v,e1,r1⟩:=cZ r;simp only[aB,ay] at r1;subst r1;exact⟨j,e1,h1,h2,k _ H1 _ M1 kp m (zk 0 j.toNat) q⟩⟩
theorem ve(hg:Gl X "range")(hm:X.mg "range" = none)(ha:PAd X [a,b] ta)(hs:starEach [a,b] X.env=[(false,eval a X.env),(false,eval b X.env)]:=by rfl)(hs2:starEach [b] X.env=[(false,eval b X.env)]:=by rfl) :
  PId X tg (.Call (.Name "range" p) [a,b] [] pos) (aca ta):=
 abi (w5 hg hm ha hs hs2) λ σ H R ⟨τ,M,Rd,A,h,k⟩=>⟨τ,M,_,A,h,λ vs H1 ws M1 kp r m hq50=>by obtain⟨i,j,e,h1,q⟩:=hq50;subst e;obtain⟨v,v',e1,r1,r2⟩:=tX r;simp only[aB,ay] at r1 r2;subst r1;subst r2;exact⟨i,j,e1,h1,k _ H1 _ M1 kp m (zk i _) q⟩⟩
def kG(di:TId)(g:TGd)(tb:TSd)(D:Ed)(τ:DS)(M:MH):Prop:=di τ M λ ws M1=>∃ P:Nat->DS->MH->Prop,P 0 τ M1 /\
 (∀ i w τ M,ws[i]? =some w->P i τ M->g w τ M λ τ2 M2=>tb {D with nx:=P (i+1),ct:=P (i+1),bk:=D.nx} τ2 M2)/\∀ τ M,P ws.length τ M->D.nx τ M
theorem ad9(hp:PassesOwn (model X.prog X.w) X.A X.env X.xe)(hc:X.calm=true)(hi:PId X tg iter di)(hg:PGd X tg g)(hb:lb X body tb)
  (hs:∀ x,foldedSetIterable iter X.env x=pure x:=by intro _;rfl):PSd X (.For tg iter body [] pos) (kG di g tb):=tH (aeL hp hc hi hg hb hs) λ D σ H hq51=>by
 obtain⟨τ,M,Dd,A,h,k1,k2,k3,k4⟩:=hq51;refine⟨τ,M,_,A,h,λ J H1 ws M1 kp m1 it hq52=>?_⟩;obtain⟨P,p0,pt,pe⟩:=hq52;refine⟨λ i n σ H'=>n=ws.length-i/\i<=ws.length/\Kp H1 H'/\∃ τ M,Abs X.K H' σ τ M/\P i τ M,⟨ws.length,by simp,Nat.zero_le _,Kp.refl _,τ,M1,A.go kp m1,p0⟩,?_⟩;rintro i n σ2 H2 ⟨rfl,hi,kp2,τ2,M2,A2,p2⟩;obtain⟨go,stop,yld⟩:=it H2 kp2 i
 by_cases hlt:i<ws.length
 ·refine .inr ⟨go hlt,λ σ3 H3=>Kp H2 H3/\∃ τ M,Abs X.K H3 σ3 τ M/\P (i+1) τ M,λ σ3 H3 ⟨kp3,τ3,M3,A3,p3⟩=>⟨ws.length-(i+1),by omega,rfl,hlt,kp2.trans kp3,τ3,M3,A3,p3⟩,λ x H3 y=>?_⟩;obtain⟨kp3,mk,w,ew,rw⟩:=yld x H3 hlt y;refine⟨w,τ2,M2,_,rw,A2.go kp3 (mk _ A2.mem),pt i w τ2 M2 ew p2,λ σ4 H4 τ4 M4 kp4 A4 q4=>?_⟩;have kq:=kp3.trans kp4;have kr:=(kp.trans kp2).trans kq;exact⟨τ4,M4,_,A4,q4,λ σ5 H5 τ5 M5 kp5 A5 q5=>⟨kq.trans kp5,τ5,M5,A5,q5⟩,λ v H5 w M5 kp5=>k2 v H5 w M5 (kr.trans kp5),λ σ5 H5 τ5 M5 kp5=>k1 σ5 H5 τ5 M5 (kr.trans kp5),λ σ5 H5 τ5 M5 kp5 A5 q5=>⟨kq.trans kp5,τ5,M5,A5,q5⟩⟩
 ·have hl:i=ws.length:=by omega
  subst hl;exact .inl ⟨stop (Nat.le_refl _),k1 σ2 H2 τ2 M2 (kp.trans kp2) A2 (pe τ2 M2 p2)⟩
def aaF(k:Nat)(fr:List Nat)(τ:DS):DS:=List.replicate k none++fr.map λ j=>(τ[j]?).getD none
theorem sO(A:Abs K H σ τ M)(k:Nat)(fr:List Nat):Abs K H (lcS k fr σ) (aaF k fr τ) M:=by
 refine⟨by simp[lcS,aaF],λ i w e=>?_,A.mem⟩;unfold aaF at e
 by_cases hi:i<k
 ·rw[List.getElem?_append_left (by simpa using hi),List.getElem?_replicate] at e
  split at e<;>cases e
 ·rw[List.getElem?_append_right (by simpa using hi),List.getElem?_map,List.length_replicate] at e;cases q:fr[i-k]? with
  | none=>rw[q] at e;cases e
  | some j =>
   rw[q] at e;have e':(τ[j]?).getD none=some w:=Option.some.inj e;have e2:τ[j]? =some (some w):=by
    cases z:τ[j]? with
    | none=>rw[z] at e';cases e'
    | some o=>rw[z] at e';exact congrArg some e'
   obtain⟨v,q1,r⟩:=A.val j w e2;refine⟨v,?_,r⟩;unfold lcS;rw[List.getElem?_append_right (by simpa using hi),List.getElem?_map,List.length_replicate,q];simp[q1]
def dLC(di:TId)(g:TGd)(tt:TTd)(te:TD)(k:Nat)(fr:List Nat)(τ:DS)(M:MH)(Q:QD):Prop:=di τ M λ ws M1=>∃ P:Nat->List PyData->DS->MH->Prop,P 0 [] (aaF k fr τ) M1 /\
 (∀ i w acc τ M,ws[i]? =some w->P i acc τ M->acc.length<sizeLine/\g w τ M λ τ2 M2=>tt τ2 M2 λ b M3=>if b=true then te τ2 M3 λ y M4=>∃ d,y=.d d/\P (i+1) (acc++[d]) τ2 M4 else P (i+1) acc τ2 M3) /\
 ∀ acc τ M,P ws.length acc τ M->Q (.d (.list acc)) M
theorem abj(h:up K (dLC di g tt te k fr) σ H Q) :
  aiF (tLC (upI K di) (upG K g) (upT K tt) (up K te) k fr) σ H Q:=by
 obtain⟨τ,M,Qd,A,h,kk⟩:=h;refine⟨τ,M,_,A,h,λ J H1 ws M1 kp m1 it hq53=>?_⟩;obtain⟨P,p0,pt,pe⟩:=hq53;refine⟨λ i n ys σ' H'=>n=ws.length-i/\i<=ws.length/\Kp H1 H'/\∃ acc τ M,aT K H' acc ys/\Abs K H' σ' τ M/\P i acc τ M,⟨ws.length,by simp,Nat.zero_le _,Kp.refl _,[],_,M1,by simp[aT],sO (A.go kp m1) k fr,p0⟩,?_⟩;rintro i n ys σ2 H2 ⟨rfl,hi,kp2,acc,τ2,M2,ra,A2,p2⟩;obtain⟨go,stop,yld⟩:=it H2 kp2 i
 by_cases hlt:i<ws.length
 ·have hlen:=ra.length;refine .inr ⟨go hlt,?_,λ x H3 y=>?_⟩
  ·obtain⟨w,hw⟩:∃ w,ws[i]? =some w:=⟨ws[i],by simp[hlt]⟩;have:=(pt i w acc τ2 M2 hw p2).1;omega
  obtain⟨kp3,mk,w,ew,rw⟩:=yld x H3 hlt y;refine⟨w,τ2,M2,_,rw,A2.go kp3 (mk _ A2.mem),(pt i w acc τ2 M2 ew p2).2,λ σ4 H4 τ4 M4 kp4 A4 q4=>⟨τ4,M4,_,A4,q4,λ b H5 M5 kp5 m5 q5=>?_⟩⟩;have kq:=(kp3.trans kp4).trans kp5;cases b with
  | false =>
   rw[if_neg Bool.false_ne_true] at q5;show(if false=true then _ else _);rw[if_neg Bool.false_ne_true];exact⟨ws.length-(i+1),by omega,rfl,hlt,kp2.trans kq,acc,τ4,M5,ra.keep kq,A4.go kp5 m5,q5⟩
  | true =>
   rw[if_pos rfl] at q5;show(if true=true then _ else _);rw[if_pos rfl];refine⟨τ4,M5,_,A4.go kp5 m5,q5,λ v H6 wv M6 kp6 r6 m6 hq54=>?_⟩;obtain⟨d,e6,q6⟩:=hq54;subst e6;refine⟨ws.length-(i+1),by omega,rfl,hlt,kp2.trans (kq.trans kp6),acc++[d],τ4,M6,aT.append (ra.keep (kq.trans kp6)) ?_,A4.go (kp5.trans kp6) m6,q6⟩;simp only[aT];exact⟨v,[],rfl,r6,rfl⟩
 ·have hl:i=ws.length:=by omega
  subst hl;exact .inl ⟨stop (Nat.le_refl _),λ p hp=>mE hp ra A2.mem (pe acc τ2 M2 p2) (kgo kk (kp.trans kp2))⟩
section
variable {sc:Scope}{own:List Str}{fr:List Nat}{elt iter:Expr}{ifs:List Expr}{pos:Pos}{di:TId}{g:TGd}{tt:TTd}{te:TD}
abbrev yN(X:Cx)(ifs:List Expr)(t:TTd):Prop:=PTs X ifs (upT X.K t)
def pE(_:DS)(M:MH)(Q:Bool->MH->Prop):Prop:=Q true M
theorem ahu(hc:X.calm=true)(L:mq X sc own fr)(hi:PId X tg iter di)
  (hg:∀ cl C s H ex pl,PGd (blk X sc (lcN X own fr) cl C s H ex pl) tg g)(ht:∀ cl C s H ex pl,yN (blk X sc (lcN X own fr) cl C s H ex pl) ifs tt)(he:∀ cl C s H ex pl,PD (blk X sc (lcN X own fr) cl C s H ex pl) elt te)
  (hs:∀ x,foldedSetIterable iter X.env x=pure x:=by intro _;rfl):PD X (.ListComp elt [⟨tg,iter,ifs,0⟩] sc pos) (dLC di g tt te own.length fr):=
 fN (sP (afi hc L hi hg ht he hs)) λ σ H Q h=>abj h
theorem ae6{st:Stmt}{t:TS}(h:PS X st t):PS X st (λ D σ H=>t {D with nx:=λ σ' H'=>∃ p u,H' p=some u/\Fz u/\∀ o,D.nx σ' (upd H' p (.frz o u))} σ H):=by
 intro pins s σ H D I hq;refine thn (h pins s σ H _ I hq) λ f s1 q=>?_;cases f with
 | next =>
  obtain⟨σ',H',I',p,u,e,fz,q⟩:=q;obtain⟨o,I2⟩:=I'.freeze e fz;exact⟨σ',_,I2,q o⟩
 | brk=>exact q
 | cont=>exact q
 | ret v=>exact q
theorem xR{i:Nat}{pos' spos:Pos}(hN:X.N.Nodup)(hi':X.N[i]? =some x)(hx:Loc X.env.scope x)(hc:X.calm=true)(L:mq X sc own fr)(hi:PId X tg iter di)
  (hg:∀ cl C s H ex pl,PGd (blk X sc (lcN X own fr) cl C s H ex pl) tg g)(ht:∀ cl C s H ex pl,yN (blk X sc (lcN X own fr) cl C s H ex pl) ifs tt)(he:∀ cl C s H ex pl,PD (blk X sc (lcN X own fr) cl C s H ex pl) elt te)
  (hsw:swapsWith (.ListComp elt [⟨tg,iter,ifs,0⟩] sc pos) (some (.Name x pos')) spos.line X.env=pure true:=by rfl)
  (hs:∀ x,foldedSetIterable iter X.env x=pure x:=by intro _;rfl)(hf:X.fn x=true\/X.env.scope.names.lookup x=some .local:=by first | exact .inl rfl | exact .inr rfl | assumption) :
  PSd X (.Assign [.Name x pos'] (.ListComp elt [⟨tg,iter,ifs,0⟩] sc pos) spos) (cq (dLC di g tt te own.length fr) (gN i)):=tH (ae6 (aaY hN hi' hx hc L hi hg ht he hsw hs hf)) λ D σ H hq55=>by
 obtain⟨τ,M,Dd,A,h,k1,_⟩:=hq55;have z:up X.K (dLC di g tt te own.length fr) σ H (λ v H'=>D.nx (σ.set i (some v)) H'):=⟨τ,M,_,A,h,λ v H1 w M1 kp r m q=>k1 _ H1 _ M1 kp ((A.go kp m).set i r) q⟩;obtain⟨τ',M',R',A',h',k'⟩:=abj z;refine⟨τ',M',R',A',h',λ J H1 ws M1 kp m1 it q=>?_⟩;obtain⟨W,w0,st⟩:=k' J H1 ws M1 kp m1 it q;refine⟨W,w0,λ i m ys τ H w=>?_⟩;rcases st i m ys τ H w with ⟨s1,s2⟩ | r
 ·refine .inl ⟨s1,λ p hp=>?_⟩;obtain⟨p',u,e1,e2,f,q⟩:=s2 p hp;cases e1;exact⟨p,u,e2,f,q⟩
 ·exact .inr r
end
end
section
variable {X:Cx}{K:FG}
def agK(ws:List W)(M:MH)(Q:QD):Prop:=∃ i:Int,ws=[.d (.int i)]/\Q (.d (.int (if i<0 then -i else i))) M
theorem ago:eB K (λ xs H Q=>∃ i,xs=[.int i]/\Q (.int (if i<0 then -i else i)) H) agK:=by intro vs H ws M Qd Q r m ⟨i,e,q⟩ k;subst e;obtain⟨v,e1,r1⟩:=cZ r;simp only[aB,ay] at r1;subst r1;exact⟨i,e1,k _ H (.d (.int _)) M (Kp.refl H) (by simp[aB,ay]) m q⟩
def aaM(M:MH):W->Option Nat
 | .d (.list ds)=>some ds.length
 | .d (.tuple ds)=>some ds.length
 | .d (.str z)=>some z.length
 | .m a=>match M a with
  | some (.lst ws)=>some ws.length
  | _=>none
 | _=>none
def lD(ws:List W)(M:MH)(Q:QD):Prop:=∃ w n,ws=[w]/\aaM M w=some n/\adJ w=true/\Q (.d (.int (n:Nat))) M
theorem gU:eB K (λ xs H Q=>∃ x n,xs=[x]/\aiR K x H n/\Q (.int n) H) lD:=by
 intro vs H ws M Qd Q r m ⟨w,n,e,hn,hf,q⟩ k;subst e;obtain⟨v,e1,r1⟩:=cZ r;refine⟨v,n,e1,?_,k _ H (.d (.int _)) M (Kp.refl H) (by simp[aB,ay]) m q⟩;cases w with
 | t _=>simp[aaM] at hn
 | m a =>
  simp only[aB] at r1;subst r1;simp only[aaM] at hn;cases hm:M a with
  | none=>rw[hm] at hn;cases hn
  | some mo =>
   rw[hm] at hn;cases mo with
   | lst l=>cases hn;obtain⟨us,e2,rw1⟩:=m a _ hm;exact .inl ⟨us,SqL.of e2,rw1.length⟩
   | dic _=>cases hn
   | dct _=>cases hn
   | fdic _=>cases hn
   | ins _ _=>cases hn
   | tup _=>cases hn
   | flst _=>cases hn
   | exc _ _=>cases hn
   | code _ _=>cases hn
 | d d =>
  cases d with
  | list ds=>simp only[aaM] at hn;cases hn;simp only[aB,ay] at r1;obtain⟨a,us,e2,hs,ra⟩:=r1;subst e2;exact .inl ⟨us,hs.sq,ra.length.symm⟩
  | tuple ds=>simp only[aaM] at hn;cases hn;simp only[aB,ay] at r1;obtain⟨a,us,e2,hs,ra⟩:=r1;subst e2;exact .inr ⟨us,hs,ra.length.symm⟩
  | str z=>simp only[aaM] at hn;cases hn;simp only[aB,ay] at r1;subst r1;exact⟨of_decide_eq_true hf,rfl⟩
  | _=>simp[aaM] at hn
def acJ(ws:List W)(M:MH)(Q:QD):Prop:=∃ bs:List Bool,ws=[.d (.list (bs.map PyData.bool))]/\Q (.d (.bool (bs.all id))) M
theorem abn:eB K (λ xs H Q=>∃ (x:V) (bs:List Bool),xs=[x]/\ay K H (.list (bs.map PyData.bool)) x/\Q (.bl (bs.all id)) H) acJ:=by intro vs H ws M Qd Q r m ⟨bs,e,q⟩ k;subst e;obtain⟨v,e1,r1⟩:=cZ r;exact⟨v,bs,e1,r1,k _ H (.d (.bool _)) M (Kp.refl H) (by simp[aB,ay]) m q⟩
theorem qE(r:ay K H (qd key) v):v=kV key:=by
 cases key<;>(simp only[qd,ay] at r;exact r)
end
structure Fn(K:FG)(mg:Str->Option Value)(x:Str)(st:Stmt)(ps:List Str)(f:Addr)(fd:FuncData):Prop where
 fn:Fun K x x st f fd
 mg:mg x=some (.ref f)
 bd:Binds K fd ps []
section
variable {K:FG}{mg:Str->Option Value}{h:Heap}
theorem adb{st:Stmt}{ps:List Str}{oc:Value}{od an:Option Addr}{osl:Array (Option Value)}{kV doc pm cdv ct:Value}(X:K.In h)(G:h.Ns mainGlobals mg)(a:W.nsIn K mainGlobals x=some (some (.ref f)))
  (l:K.lookup f=some ⟨oc,od,.func (W.fnOf x x (bh st) (aM st) (ao st) .none kV doc pm an cdv ct),osl⟩)(c:W.codeIn K cdv x=true)(k:W.keepIn K (.ref f)=true)
  (b:∀ (kV doc pm:Value) (an:Option Addr) (cdv ct:Value) (us:List Value),us.length=ps.length->bindArgs (W.fnOf x x (bh st) (aM st) (ao st) .none kV doc pm an cdv ct) ⟨us,[]⟩=pure (ps.zip us)) :
  Fn K mg x st ps f (W.fnOf x x (bh st) (aM st) (ao st) .none kV doc pm an cdv ct):=
 have F:=abA (st:=st) l c k
 ⟨F,W.mg_of X G a,F.binds b⟩
end
def agr(sc scX:Scope)(N:List Str)(fr:List Nat):Bool:=
 (sc.kind==.function)&&sc.names.all (λ y=>!(y.2==.cell))&&sc.names.all (λ y=>!(y.2==.free) || scX.names.lookup y.1==some .cell || scX.names.lookup y.1==some .free) &&
  sc.names.all (λ y=>!(y.2==.local) || sc.names.lookup y.1==some .local)&&ae0 N sc fr
theorem tR(h:agr sc X.env.scope X.N fr=true):mq X sc own fr:=by
 simp only[agr,Bool.and_eq_true] at h;obtain⟨⟨⟨⟨h1,h2⟩,h3⟩,h4⟩,h5⟩:=h;refine⟨eq_of_beq h1,λ y hy e=>?_,λ y hy e=>?_,λ y hy e=>?_,h5⟩
 ·have:=List.all_eq_true.mp h2 y hy;simp[e] at this
 ·have:=List.all_eq_true.mp h3 y hy;simp only[e,beq_self_eq_true,Bool.not_true,Bool.false_or,Bool.or_eq_true] at this;rcases this with z | z
  ·exact .inl (eq_of_beq z)
  ·exact .inr (eq_of_beq z)
 ·have:=List.all_eq_true.mp h4 y hy;simp only[e,beq_self_eq_true,Bool.not_true,Bool.false_or] at this;exact eq_of_beq this
theorem abt:bootBuiltins "int" = some (.type "int"):=by decide +kernel
theorem agY:bootBuiltins "str" = some (.type "str"):=by decide +kernel
theorem aec:bootBuiltins "bool" = some (.type "bool"):=by decide +kernel
theorem iz:bootBuiltins "list" = some (.type "list"):=by decide +kernel
theorem sg:bootBuiltins "tuple" = some (.type "tuple"):=by decide +kernel
theorem j5:bootBuiltins "dict" = some (.type "dict"):=by decide +kernel
theorem ir:bootBuiltins "len" = some (.builtin "len"):=by decide +kernel
theorem afL:bootBuiltins "abs" = some (.builtin "abs"):=by decide +kernel
theorem xq:bootBuiltins "repr" = some (.builtin "repr"):=by decide +kernel
theorem abD:bootBuiltins "all" = some (.builtin "all"):=by decide +kernel
theorem bM:bootBuiltins "isinstance" = some (.builtin "isinstance"):=by decide +kernel
def fh:Expr->Bool
 | .Starred ..=>true
 | _=>false
theorem bT(e:Expr)(es:List Expr)(env:PySem.Env)(h:fh e=false):starEach (e::es) env=(false,eval e env)::starEach es env:=by
 cases e<;>first | rfl | (exact absurd h (by simp[fh]))
theorem cC(pos:Pos)(env:PySem.Env):∀ es:List Expr,(es.all λ e=>!fh e)=true->(backTo pos (starEach es env)).any (·.1)=false
 | [],_=>rfl
 | e::es,h=>by rw[List.all_cons,Bool.and_eq_true,Bool.not_eq_true'] at h;rw[bT e es env h.1];show(false || (backTo pos (starEach es env)).any (·.1))=false;rw[cC pos env es h.2];rfl
section
variable {X:Cx}{pos p:Pos}{e:Expr}{es:List Expr}{te:TD}{t:TAd}{x:Str}{id T:String}{r:List V->Hp->VK->Prop}{rd:List W->MH->QD->Prop}{k:Nat}{f:Addr}{fd:FuncData}{ps:List Str}{sp:SpD}
theorem pac(ha:PD X e te)(hr:PAd X es t)(h:fh e=false:=by rfl):PAd X (e::es) (ag te t):=zO ha hr (bT e es X.env h)
theorem pcB(hc:dk X (.builtin id) r)(hd:eB X.K r rd)(hg:Gl X x)(hm:X.mg x=none)(hv:bootBuiltins x=some (.builtin id))(ha:PAd X (e::es) t)(hn:x ≠ "__name__":= by decide)(hdb:ND x:=by decide)
  (h1:fh e=false:=by rfl)(h2:(es.all λ e=>!fh e)=true:=by rfl):PD X (.Call (.Name x p) (e::es) [] pos) (dCB rd t):=aaH hc hd hg hm hv ha hn hdb (bT e es X.env h1) (cC pos X.env es h2)
theorem pcF(F:cy X.prog X.w X.K X.mg X.base CX0 k f fd ps (dg X.K sp))(hr:cY k X.A)(hg:Gl X x)(hm:X.mg x=some (.ref f))(hk:W.keepIn X.K (.ref f)=true)(hb:Binds X.K fd ps [])
  (ha:PAd X (e::es) t)(hdb:ND x:=by decide)(h1:fh e=false:=by rfl)(h2:(es.all λ e=>!fh e)=true:=by rfl) :
  PD X (.Call (.Name x p) (e::es) [] pos) (bG sp t):=ac9 F hr hg hm hk hb ha hdb (bT e es X.env h1) (cC pos X.env es h2)
end
structure Jd(p:Prop):Prop where
 h:p
section
variable {X:Cx}{pos:Pos}{a b c e:Expr}{ta tb tc te:TD}{K:FG}
theorem dvQ(i:Nat)(hN:X.N[i]? =some x:=by rfl)(hv:Vis X.env.scope x:=by first | exact Or.inl rfl | exact Or.inr (Or.inl rfl) | exact Or.inr (Or.inr rfl))(hd:ND x:=by decide)(hcd:(x==("__classdict__" : Str))=false:=by decide):Jd (PD X (.Name x pos) (au i)):=⟨ae4 (jM hN hv hd hcd)⟩
theorem ak{i j pos}:Jd (PD X (.Constant (.int i) j pos) (dC (.d (.int i)))):=⟨aes agN λ H=>by simp[aB,ay]⟩
theorem fo{b j pos}:Jd (PD X (.Constant (.bool b) j pos) (dC (.d (.bool b)))):=⟨aes afH λ H=>by simp[aB,ay]⟩
theorem fH{j pos}:Jd (PD X (.Constant .none j pos) (dC (.d .none))):=⟨aes agC λ H=>by simp[aB,ay]⟩
theorem bA{x j pos}:Jd (PD X (.Constant (.str x) j pos) (dC (.d (.str x)))):=⟨aes afu λ H=>by simp[aB,ay]⟩
theorem fC(hg:Gl X x)(hm:X.mg x=some (.int i t))(hd:ND x:=by decide):Jd (PD X (.Name x pos) (dC (.d (.int i)))):=⟨aes (rG (v:=.int i) hg hm ⟨t,rfl⟩ hd) λ H=>by simp[aB,ay]⟩
theorem eP(hg:Gl X x)(hm:X.mg x=none)(hv:bootBuiltins x=some (.type n))(hn:x ≠ "__name__":= by decide)(hd:ND x:=by decide):Jd (PD X (.Name x pos) (dC (.t n))):=⟨
 aes (acR (v:=.ty n) hg hm hv rfl hn hd) λ H=>by simp[aB]⟩
theorem aL(ho:OpR X (binaryOp op) r)(hd:OpD X.K r rd)(ha:Jd (PD X a ta))(hb:Jd (PD X b tb)):Jd (PD X (.BinOp a op b pos) (dOp rd ta tb)):=⟨D.ahL (ho:=ho) (hd:=hd) (ha:=ha.h) (hb:=hb.h)⟩
theorem mF(ho:OpR X (compareOp op) r)(hd:OpD X.K r rd)(ha:Jd (PD X a ta))(hb:Jd (PD X b tb))(hm:behindInMarks op b=false:=by first | exact jw _ (by decide) (by decide) | rfl):Jd (PD X (.Compare a [op] [b] pos) (dOp rd ta tb)):=⟨D.aeY (ho:=ho) (hd:=hd) (ha:=ha.h) (hb:=hb.h) (hm:=hm)⟩
theorem a9(hr:IxR X r)(hd:OpD X.K r rd)(ha:Jd (PD X a ta))(hb:Jd (PD X b tb))(hs:qK b:=by intro _ _;rfl):Jd (PD X (.Subscript a b pos) (dOp rd ta tb)):=⟨D.ahk (hr:=hr) (hd:=hd) (ha:=ha.h) (hb:=hb.h) (hs:=hs)⟩
theorem aK(ho:OpR X (compareOp op) r)(hd:OpD X.K r rd)(ha:Jd (PD X a ta))(hb:Jd (PD X b tb))(hm:behindInMarks op b=false:=by first | exact jw _ (by decide) (by decide) | rfl):Jd (PTd X (.Compare a [op] [b] pos) (bH (dOp rd ta tb))):=⟨D.adK (ho:=ho) (hd:=hd) (ha:=ha.h) (hb:=hb.h) (hm:=hm)⟩
theorem df(h:Jd (PD X e te))(he:∀ whole,isTrue e X.env whole=(do let v <- whole;standAt e.pos;holding [v] (truthy v)):=by intro _;rfl):Jd (PTd X e (bH te)):=⟨D.acy (h:=h.h) (he:=he)⟩
theorem oS(ho:OpR X (compareOp op) r)(hd:OpD X.K r rd)(ho':OpR X (compareOp op') r')(hd':OpD X.K r' rd')(ha:Jd (PD X a ta))(hb:Jd (PD X b tb))(hc:Jd (PD X c tc))(hm:lastMarks [op,op'] [b,c]=false:=by with_unfolding_all rfl):Jd (PD X (.Compare a [op,op'] [b,c] pos) (i7 rd rd' ta tb tc)):=⟨D.zw (ho:=ho) (hd:=hd) (ho':=ho') (hd':=hd') (ha:=ha.h) (hb:=hb.h) (hc:=hc.h) (hm:=hm)⟩
theorem u7(ho:OpR X (compareOp op) r)(hd:OpD X.K r rd)(ho':OpR X (compareOp op') r')(hd':OpD X.K r' rd')(ha:Jd (PD X a ta))(hb:Jd (PD X b tb))(hc:Jd (PD X c tc))(hm:lastMarks [op,op'] [b,c]=false:=by with_unfolding_all rfl):Jd (PTd X (.Compare a [op,op'] [b,c] pos) (bH (i7 rd rd' ta tb tc))):=⟨D.yf (ho:=ho) (hd:=hd) (ho':=ho') (hd':=hd') (ha:=ha.h) (hb:=hb.h) (hc:=hc.h) (hm:=hm)⟩
theorem abP(ho:UnR X (unaryOp op) r)(hd:UnD X.K r rd)(ha:Jd (PD X a ta)):Jd (PD X (.UnaryOp op a pos) (dUn rd ta)):=⟨D.ahg (ho:=ho) (hd:=hd) (ha:=ha.h)⟩
variable {tA tB:TTd}{rest:List Expr}
theorem ij(ha:Jd (PTd X a tA)):Jd (PWd X (.BoolOp .And [a] pos) tA):=⟨D.aaB (ha:=ha.h)⟩
theorem dQ(ha:Jd (PTd X a tA)):Jd (PWd X (.BoolOp .Or [a] pos) tA):=⟨D.acC (ha:=ha.h)⟩
theorem jl(ha:Jd (PTd X a tA))(hb:Jd (PWd X (.BoolOp .And (b::rest) pos) tB)):Jd (PWd X (.BoolOp .And (a::b::rest) pos) (aev tA tB)):=⟨D.ab5 (ha:=ha.h) (hb:=hb.h)⟩
theorem dZ(ha:Jd (PTd X a tA))(hb:Jd (PWd X (.BoolOp .Or (b::rest) pos) tB)):Jd (PWd X (.BoolOp .Or (a::b::rest) pos) (dOr tA tB)):=⟨D.agm (ha:=ha.h) (hb:=hb.h)⟩
theorem eW(h:Jd (PWd X e tA)):Jd (PTd X e tA):=⟨D.ah0 (h:=h.h)⟩
theorem cL(ha:Jd (PTd X a tA)):Jd (PTd X (.UnaryOp .Not a pos) (vw tA)):=⟨D.adh (ha:=ha.h)⟩
theorem iN{op}(h:Jd (PD X a ta)):Jd (PD X (.BoolOp op [a] pos) ta):=⟨D.ae3 (h:=h.h)⟩
theorem eO(ha:Jd (PD X a ta))(hb:Jd (PD X (.BoolOp .And (b::rest) pos) tb)):Jd (PD X (.BoolOp .And (a::b::rest) pos) (jC ta tb)):=⟨D.afk (ha:=ha.h) (hb:=hb.h)⟩
theorem xw(ha:Jd (PD X a ta)):Jd (PD X (.UnaryOp .Not a pos) (aaw ta)):=⟨D.afO (ha:=ha.h)⟩
variable {es:List Expr}{t:TAd}
theorem aa  : Jd (PAd X [] aO):=⟨D.rj ⟩
theorem gv(h:Jd (PAd X es t)):Jd (PD X (.List es pos) (aa3 t)):=⟨D.agy (h:=h.h)⟩
theorem js(h:Jd (PAd X es t)):Jd (PD X (.List es pos) (uA t)):=⟨D.ad2 (h:=h.h)⟩
theorem cj{x1}(h:Jd (PAd X es t)):Jd (PD X (.Tuple es x1 pos) (mL t)):=⟨D.aez (h:=h.h)⟩
variable {x:Str}{p:Pos}{id T:String}{r:List V->Hp->VK->Prop}{rd:List W->MH->QD->Prop}
end
section
variable {X:Cx}{pos:Pos}{st:Stmt}{sts:List Stmt}{t u:TSd}{e:Expr}{te:TD}{K:FG}
theorem aJ  : Jd (lb X [] cU):=⟨af0 acE λ D σ H ⟨τ,M,Dd,A,h,k1,_⟩=>k1 σ H τ M (Kp.refl H) A h⟩
theorem af(h1:Jd (PSd X st t))(h2:Jd (lb X sts u)):Jd (lb X (st::sts) (bI t u)):=⟨D.yi (h1:=h1.h) (h2:=h2.h)⟩
theorem ai(h1:Jd (PSd X st t)):Jd (lb X [st] t):=⟨D.aa2 (h1:=h1.h)⟩
theorem cB(he:Jd (PD X e te))(hs:swapsWith e none pos.line X.env=pure false:=by rfl):Jd (PSd X (.Expr e pos) (j9 te)):=⟨D.zP (he:=he.h) (hs:=hs)⟩
theorem aA(he:Jd (PD X e te)):Jd (PSd X (.Return (some e) pos) (dR te)):=⟨D.adg (he:=he.h)⟩
theorem bJ(hc:Jd (PTd X c tc))(ha:Jd (lb X a t))(hb:Jd (lb X b u)):Jd (PSd X (.If c a b pos) (dIf tc t u)):=⟨D.afo (hc:=hc.h) (ha:=ha.h) (hb:=hb.h)⟩
theorem ar(hN:X.N.Nodup)(hi:X.N[i]? =some x)(hx:Loc X.env.scope x)(hf:X.fn x=true\/X.env.scope.names.lookup x=some .local:=by first | exact .inl rfl | exact .inr rfl | assumption):Jd (PGd X (.Name x pos) (gN i)):=⟨
 ahb (qM hN hi hx hf) λ v σ H Q ⟨w,τ,M,Qd,r,A,h,k⟩=>k _ H _ M (Kp.refl H) (A.set i r) h⟩
theorem jt(he:Jd (PD X e te))(hg:Jd (PGd X tg g))(hs:swapsWithSole [tg] e pos.line X.env=pure false:=by rfl)(hw:swappedStores [tg] e X.env=pure none:=by rfl)(h1:(assignEach [tg] X.env).map (·.2)=[assign tg X.env]:=by rfl):Jd (PSd X (.Assign [tg] e pos) (cq te g)):=⟨D.aed (he:=he.h) (hg:=hg.h) (hs:=hs) (hw:=hw) (h1:=h1)⟩
theorem az(hN:X.N.Nodup)(hi:X.N[i]? =some x)(hx:Loc X.env.scope x)(he:Jd (PD X e te))(hs:swapsWith e (some (.Name x pos')) pos.line X.env=pure false:=by rfl)(hf:X.fn x=true\/X.env.scope.names.lookup x=some .local:=by first | exact .inl rfl | exact .inr rfl | assumption):Jd (PSd X (.Assign [.Name x pos'] e pos) (cq te (gN i))):=⟨D.ad7 (hN:=hN) (hi:=hi) (hx:=hx) (he:=he.h) (hs:=hs) (hf:=hf)⟩
end
theorem dM  : Jd (POd X none eF):=⟨aiw acf λ σ H Q ⟨τ,M,Qd,A,q,k⟩=>k none H M (Kp.refl H) A.mem q⟩
theorem dy(h:Jd (PD X e te)):Jd (POd X (some e) (lu te)):=⟨D.aaf (h:=h.h)⟩
theorem dA{te:TD}{lo hi:Option Expr}{tl th:TOd}{pos p2:Pos}(he:Jd (PD X e te))(hl:Jd (POd X lo tl))(hu:Jd (POd X hi th)):Jd (PD X (.Subscript e (.Slice lo hi none p2) pos) (dSl te tl th)):=⟨D.aaL (he:=he.h) (hl:=hl.h) (hu:=hu.h)⟩
theorem nv(ho:Jd (PD X o to))(hi:Jd (PD X i ti))(ha:∀ v,assign (.Subscript o i pos) X.env v=(do
   let ov <- holding [v] (eval o X.env)
   let iv <- holding [v,ov] (eval i X.env)
   standAt pos
   holding [v,ov,iv] (setItem ov iv v)
   release [v,ov,iv] []):=by intro _;rfl):Jd (PGd X (.Subscript o i pos) (aaZ to ti)):=⟨D.acN (ho:=ho.h) (hi:=hi.h) (ha:=ha)⟩
theorem wb(ho:Jd (PD X o to))(hi:Jd (PD X i ti))(he:Jd (PD X e te))(hp:PIp X op (ipI f))(ha:∀ ov iv new,augStore i ov iv new=(do holding [new,ov,iv] (setItem ov iv new);release [new,ov,iv] [];pure .next):=by intros;rfl):Jd (PSd X (.AugAssign (.Subscript o i tpos) op e pos) (aaQ to ti te f)):=⟨D.aah (ho:=ho.h) (hi:=hi.h) (he:=he.h) (hp:=hp) (ha:=ha)⟩
theorem aS(h:Jd (PD X l te)):Jd (PId X tg l (cm te)):=⟨D.xQ (h:=h.h)⟩
theorem eK(hg:Gl X "range")(hm:X.mg "range" = none)(ha:Jd (PAd X [a] ta))(hs:starEach [a] X.env=[(false,eval a X.env)]:=by rfl):Jd (PId X tg (.Call (.Name "range" p) [a] [] pos) (u3 ta)):=⟨D.uk (hg:=hg) (hm:=hm) (ha:=ha.h) (hs:=hs)⟩
theorem rm(hg:Gl X "range")(hm:X.mg "range" = none)(ha:Jd (PAd X [a,b] ta))(hs:starEach [a,b] X.env=[(false,eval a X.env),(false,eval b X.env)]:=by rfl)(hs2:starEach [b] X.env=[(false,eval b X.env)]:=by rfl):Jd (PId X tg (.Call (.Name "range" p) [a,b] [] pos) (aca ta)):=⟨D.ve (hg:=hg) (hm:=hm) (ha:=ha.h) (hs:=hs) (hs2:=hs2)⟩
theorem bt(hp:PassesOwn (model X.prog X.w) X.A X.env X.xe)(hc:X.calm=true)(hi:Jd (PId X tg iter di))(hg:Jd (PGd X tg g))(hb:Jd (lb X body tb))(hs:∀ x,foldedSetIterable iter X.env x=pure x:=by intro _;rfl):Jd (PSd X (.For tg iter body [] pos) (kG di g tb)):=⟨D.ad9 (hp:=hp) (hc:=hc) (hi:=hi.h) (hg:=hg.h) (hb:=hb.h) (hs:=hs)⟩
theorem bL  : Jd (yN X [] pE):=⟨λ pins s σ H Q I ⟨τ,M,Qd,A,q,k⟩=>aeh pins s σ H Q I (k true H M (Kp.refl H) A.mem q)⟩
theorem gc(hc:X.calm=true)(L:mq X sc own fr)(hi:Jd (PId X tg iter di))(hg:∀ cl C s H ex pl,Jd (PGd (blk X sc (lcN X own fr) cl C s H ex pl) tg g))(ht:∀ cl C s H ex pl,Jd (yN (blk X sc (lcN X own fr) cl C s H ex pl) ifs tt))(he:∀ cl C s H ex pl,Jd (PD (blk X sc (lcN X own fr) cl C s H ex pl) elt te))(hs:∀ x,foldedSetIterable iter X.env x=pure x:=by intro _;rfl):Jd (PD X (.ListComp elt [⟨tg,iter,ifs,0⟩] sc pos) (dLC di g tt te own.length fr)):=⟨D.ahu (hc:=hc) (L:=L) (hi:=hi.h) (hg:=λ cl C s H ex pl=>(hg cl C s H ex pl).h) (ht:=λ cl C s H ex pl=>(ht cl C s H ex pl).h) (he:=λ cl C s H ex pl=>(he cl C s H ex pl).h) (hs:=hs)⟩
theorem uR(hN:X.N.Nodup)(hi':X.N[i]? =some x)(hx:Loc X.env.scope x)(hc:X.calm=true)(L:mq X sc own fr)(hi:Jd (PId X tg iter di))(hg:∀ cl C s H ex pl,Jd (PGd (blk X sc (lcN X own fr) cl C s H ex pl) tg g))(ht:∀ cl C s H ex pl,Jd (yN (blk X sc (lcN X own fr) cl C s H ex pl) ifs tt))(he:∀ cl C s H ex pl,Jd (PD (blk X sc (lcN X own fr) cl C s H ex pl) elt te))(hsw:swapsWith (.ListComp elt [⟨tg,iter,ifs,0⟩] sc pos) (some (.Name x pos')) spos.line X.env=pure true:=by rfl)(hs:∀ x,foldedSetIterable iter X.env x=pure x:=by intro _;rfl)(hf:X.fn x=true\/X.env.scope.names.lookup x=some .local:=by first | exact .inl rfl | exact .inr rfl | assumption):Jd (PSd X (.Assign [.Name x pos'] (.ListComp elt [⟨tg,iter,ifs,0⟩] sc pos) spos) (cq (dLC di g tt te own.length fr) (gN i))):=⟨D.xR (hN:=hN) (hi':=hi') (hx:=hx) (hc:=hc) (L:=L) (hi:=hi.h) (hg:=λ cl C s H ex pl=>(hg cl C s H ex pl).h) (ht:=λ cl C s H ex pl=>(ht cl C s H ex pl).h) (he:=λ cl C s H ex pl=>(he cl C s H ex pl).h) (hsw:=hsw) (hs:=hs) (hf:=hf)⟩
section
variable {X:Cx}{pos p:Pos}{e:Expr}{es:List Expr}{te:TD}{t:TAd}{x:Str}{id T:String}{r:List V->Hp->VK->Prop}{rd:List W->MH->QD->Prop}{k:Nat}{f:Addr}{fd:FuncData}{ps:List Str}{sp:SpD}
theorem ax(ha:Jd (PD X e te))(hr:Jd (PAd X es t))(h:fh e=false:=by rfl):Jd (PAd X (e::es) (ag te t)):=⟨D.pac (ha:=ha.h) (hr:=hr.h) (h:=h)⟩
theorem gL(hc:dk X (.builtin id) r)(hd:eB X.K r rd)(hg:Gl X x)(hm:X.mg x=none)(hv:bootBuiltins x=some (.builtin id))(ha:Jd (PAd X (e::es) t))(hn:x ≠ "__name__":= by decide)(hdb:ND x:=by decide)(h1:fh e=false:=by rfl)(h2:(es.all λ e=>!fh e)=true:=by rfl):Jd (PD X (.Call (.Name x p) (e::es) [] pos) (dCB rd t)):=⟨D.pcB (hc:=hc) (hd:=hd) (hg:=hg) (hm:=hm) (hv:=hv) (ha:=ha.h) (hn:=hn) (hdb:=hdb) (h1:=h1) (h2:=h2)⟩
theorem d3(F:cy X.prog X.w X.K X.mg X.base CX0 k f fd ps (dg X.K sp))(hr:cY k X.A)(hg:Gl X x)(hm:X.mg x=some (.ref f))(hk:W.keepIn X.K (.ref f)=true)(hb:Binds X.K fd ps [])(ha:Jd (PAd X (e::es) t))(hdb:ND x:=by decide)(h1:fh e=false:=by rfl)(h2:(es.all λ e=>!fh e)=true:=by rfl):Jd (PD X (.Call (.Name x p) (e::es) [] pos) (bG sp t)):=⟨D.pcF (F:=F) (hr:=hr) (hg:=hg) (hm:=hm) (hk:=hk) (hb:=hb) (ha:=ha.h) (hdb:=hdb) (h1:=h1) (h2:=h2)⟩
end
section
variable {κ α:Type}[DecidableEq κ]
def gJ(t:List (κ×α))(k:κ):Option α:=(t.find? λ p=>decide (p.1=k)).map (·.2)
def lQ(t:List (κ×α))(k:κ)(v:α):List (κ×α):=if (t.any λ p=>decide (p.1=k))=true then t.map (λ p=>if p.1=k then (p.1,v) else p) else t++[(k,v)]
def OR(R:β->γ->Prop):Option β->Option γ->Prop
 | some a,some b=>R a b
 | none,none=>True
 | _,_=>False
theorem OR.some_of(h:OR R (some a) o):∃ b,o=some b/\R a b:=by
 cases o with
 | none=>exact h.elim
 | some b=>exact⟨b,rfl,h⟩
theorem OR.none_of(h:OR R none o):o=none:=by
 cases o with
 | none=>rfl
 | some b=>exact h.elim
theorem ki(k:κ):∀ {t:List (κ×α)} {l:List (κ×V)},Paired (λ p q=>p.1=q.1/\R p.2 q.2) t l->OR R (gJ t k) (tI l k)
 | _,_,.nil=>True.intro
 | _,_,.cons (a:=p) (b:=q) (l₁:=t1) h t=>by
  obtain⟨h1,h2⟩:=h
  by_cases e:p.1=k
  ·rw[jv (h1.symm.trans e),show gJ (p::t1) k=some p.2 by simp[gJ,List.find?_cons,e]];exact h2
  ·rw[ju (λ z=>e (h1.trans z)),show gJ (p::t1) k=gJ t1 k by simp[gJ,List.find?_cons,e]];exact ki k t
theorem abq{R:α->V->Prop}(k:κ):∀ {t:List (κ×α)} {l:List (κ×V)},Paired (λ p q=>p.1=q.1/\R p.2 q.2) t l->(t.any λ p=>decide (p.1=k))=(l.any λ p=>decide (p.1=k))
 | _,_,.nil=>rfl
 | _,_,.cons (a:=p) (b:=q) h t=>by simp only[List.any_cons];rw[abq k t,h.1]
theorem abG{R:α->V->Prop}(k:κ){v:V}(r:R a v):∀ {t:List (κ×α)} {l:List (κ×V)},Paired (λ p q=>p.1=q.1/\R p.2 q.2) t l ->
  Paired (λ p q=>p.1=q.1/\R p.2 q.2) (t.map λ p=>if p.1=k then (p.1,a) else p) (l.map λ p=>if p.1=k then (p.1,v) else p)
 | _,_,.nil=>.nil
 | _,_,.cons (a:=p) (b:=q) h t=>by
  simp only[List.map_cons];refine .cons ?_ (abG k r t)
  by_cases e:p.1=k
  ·rw[if_pos e,if_pos (h.1.symm.trans e)];exact⟨h.1,r⟩
  ·rw[if_neg e,if_neg (λ z=>e (h.1.trans z))];exact h
theorem vG(r:P p q):∀ {t:List (κ×α)} {l:List (κ×V)},Paired P t l->Paired P (t++[p]) (l++[q])
 | _,_,.nil=>.cons r .nil
 | _,_,.cons h t=>.cons h (vG r t)
theorem xn{R:α->V->Prop}(k:κ){v:V}(r:R a v){t:List (κ×α)}{l:List (κ×V)}(h:Paired (λ p q=>p.1=q.1/\R p.2 q.2) t l) :
  Paired (λ p q=>p.1=q.1/\R p.2 q.2) (lQ t k a) (putK l k v):=by
 unfold lQ putK;rw[abq k h]
 split
 ·exact abG k r h
 ·exact vG ⟨rfl,r⟩ h
theorem ue:∀ {t:List (κ×α)} {l:List (κ×V)},Paired P t l->t.length=l.length
 | _,_,.nil=>rfl
 | _,_,.cons _ t=>by simp[ue t]
theorem pO{t:List (κ×α)}{k:κ}:gJ (p::t) k=if p.1=k then some p.2 else gJ t k:=by
 by_cases e:p.1=k<;>simp[gJ,List.find?_cons,e]
theorem sJ(k:κ):∀ t:List (κ×α),(t.any λ p=>decide (p.1=k))=(gJ t k).isSome
 | []=>rfl
 | p::t=>by
  rw[List.any_cons,sJ k t,pO]
  by_cases e:p.1=k<;>simp[e]
end
def kW(k:Key):W:=.d (qd k)
theorem iV{K:FG}{H:Hp}{k:Key}{v:V}(r:aB K H (kW k) v):v=kV k:=qE r
def tkW(ks:List Key):W:=.d (.tuple (ks.map qd))
theorem afn{K:FG}{H:Hp}:∀ {ks:List Key} {vs:List V},aT K H (ks.map qd) vs->vs=ks.map kV
 | [],vs,h=>by simpa [aT] using h
 | k::ks,vs,h=>by simp only[List.map_cons,aT] at h;obtain⟨v,r,e,h1,h2⟩:=h;rw[e,qE h1,afn h2];rfl
def Rd2(H:Hp)(a:Addr)(u:HO):Prop:=Rd H a u\/∃ o,H a=some (.frz o (.frz o u))
theorem aa7(ok:HOk P w H h)(e:Rd2 H a (.dK kvs)):kvs.length<=sizeLine/\(a==sysModules)=false/\∃ vs,KV kvs vs/\h.DictOf (aN P w) a vs:=by
 rcases e with e | ⟨o,e⟩
 ·exact uS ok e
 ·exact(ok a _ e).2.2
def aee(K:FG)(H:Hp)(a:Addr)(y:V)(r:Option V):Prop:=
 (∃ kvs k,Rd2 H a (.dK kvs)/\y=kV k/\r=tI kvs k)\/∃ kvs k b,Rd H a (.dT kvs)/\y=.ref b/\SqT K H b (k.map kV)/\r=tI kvs k
theorem aga(I:Inv X pins σ H s)(h:SqT X.K H b (ks.map kV)):(tupleKind (aN X.prog X.w)).is s.heap ks b:=by obtain⟨its,r,⟨o,h1,h2,n,h3⟩,_⟩:=I.tuple h;exact⟨o,its.toArray,n,h1,h2,h3,by simpa using jK r⟩
theorem ad4(hu:A.units+1<cLine)(I:Inv X pins σ H s)(g:aee X.K H a y o)(ry:RelV y u)(rd:RelV d r)(h:∀ w' s',Inv X pins σ H s'->RelV (o.getD d) w'->Q w' s') :
  wpAny (model X.prog X.w) A (call (.builtin "dict.get") [.ref a,u,r]) Q E s:=by
 rcases g with ⟨kvs,k,e,ey,l⟩ | ⟨kvs,k,b,e,ey,eb,l⟩
 ·subst ey;obtain⟨z,hd,vs,rel,dd⟩:=aa7 I.hok e;refine call_meetsIn PySem.F.slot_dict_get dd.typeIs PySem.F.entry_dict_get (PySem.F.args_dict_get_3 _ _ _) (meets_dict_get_default (aN X.prog X.w) a (uG ry) hd r) ⟨_,dd.mapOf,h _ _ (I.tok _) ?_⟩;rw[l];exact(rel.val k).getD rd
 ·subst ey;cases (show u=Value.ref b from ry);obtain⟨z,hd,xs,rel,dd⟩:=acn I.hok e;refine call_meetsIn PySem.F.slot_dict_get dd.typeIs PySem.F.entry_dict_get (PySem.F.args_dict_get_3 _ _ _) (meetsH_dict_get_default (tupleKind (aN X.prog X.w)) a b hd r) ⟨tupleKind_room_in1 hu,k,xs,aga I eb,dd,h _ _ (I.tok _) ?_⟩;rw[l];exact(rel.val k).getD rd
theorem mi(hu:A.units+1<cLine)(I:Inv X pins σ H s)(e:Rd2 H a (.dK kvs))(l:tI kvs k=some v)(ry:RelV (kV k) u)(h:∀ w' s',Inv X pins σ H s'->RelV v w'->Q w' s') :
  s.TypeIs (.ref a) "dict" /\ wpAny (model X.prog X.w) A (getItem (.ref a) u) Q E s:=by
 obtain⟨z,hd,vs,rel,dd⟩:=aa7 I.hok e;obtain⟨w',hw,rw'⟩:=vt.some_of (v:=v) (o:=valueAt vs k) (by rw[<- l];exact rel.val k);exact⟨dd.typeIs,wpAny_getItem_of (uG ry) dd.mapOf hw (h w' _ (I.tok _) rw')⟩
inductive pP(M:MH):W->W->Option W->Prop
 | k {a:Addr} {kvs:List (Key×W)} {k:Key} (h:M a=some (.dic kvs)):pP M (.m a) (kW k) (gJ kvs k)
 | t {a:Addr} {kvs:List (List Key×W)} {ks:List Key} (h:M a=some (.dct kvs)):pP M (.m a) (tkW ks) (gJ kvs ks)
 | f {a:Addr} {kvs:List (Key×W)} {k:Key} (h:M a=some (.fdic kvs)):pP M (.m a) (kW k) (gJ kvs k)
 | d {kvs:List (Key×PyData)} {k:Key}:pP M (.d (.dict (kvs.map λ p=>(qd p.1,p.2)))) (kW k) ((gJ kvs k).map W.d)
inductive DIs(M:MH):W->Prop
 | k {a:Addr} {kvs:List (Key×W)} (h:M a=some (.dic kvs)):DIs M (.m a)
 | t {a:Addr} {kvs:List (List Key×W)} (h:M a=some (.dct kvs)):DIs M (.m a)
 | d {kvs:List (PyData×PyData)}:DIs M (.d (.dict kvs))
theorem zG(h:qd a=qd b):a=b:=by
 cases a<;>cases b<;>simp[qd] at h<;>rw[h]
theorem kT{K:FG}{H:Hp}:∀ {kvs:List (Key×PyData)} {l:List (Key×V)},k9 K H (kvs.map λ p=>(qd p.1,p.2)) l->Paired (λ(p:Key×PyData) (q:Key×V)=>p.1=q.1/\ay K H p.2 q.2) kvs l
 | [],l,h=>by simp only[List.map_nil,k9] at h;subst h;exact .nil
 | p::kvs,l,h=>by simp only[List.map_cons,k9] at h;obtain⟨key,v,r,e,ek,h1,h2⟩:=h;subst e;exact .cons ⟨zG ek,h1⟩ (kT h2)
theorem DIs.sound{K:FG}{H:Hp}{M:MH}{w:W}{x:V}(g:DIs M w)(r:aB K H w x)(m:cf K H M):∃ a,x=.ref a/\IsD H a:=by
 cases g with
 | k h =>
  obtain⟨l,e,_⟩:=m _ _ h;exact⟨_,r,.inl ⟨l,.inl e⟩⟩
 | t h =>
  obtain⟨l,e,_⟩:=m _ _ h;exact⟨_,r,.inr ⟨l,.inl e⟩⟩
 | d =>
  simp only[aB,ay] at r;obtain⟨a,o,l,e,h,_⟩:=r;exact⟨a,e,.inl ⟨l,.inr ⟨o,h⟩⟩⟩
theorem pP.sound{K:FG}{H:Hp}{M:MH}{w y:W}{o:Option W}{x v:V}(g:pP M w y o)(r:aB K H w x)(ry:aB K H y v)(m:cf K H M) :
  ∃ a p,x=.ref a/\aee K H a v p/\OR (aB K H) o p:=by
 cases g with
 | @k a kvs k h =>
  obtain⟨l,e,pr⟩:=m _ _ h;exact⟨_,_,r,.inl ⟨l,k,.inl (.inl e),iV ry,rfl⟩,ki k pr⟩
 | @f a kvs k h =>
  obtain⟨ob,l,e,pr⟩:=m _ _ h;exact⟨_,_,r,.inl ⟨l,k,.inr ⟨ob,e⟩,iV ry,rfl⟩,ki k pr⟩
 | @t a kvs ks h =>
  obtain⟨l,e,pr⟩:=m _ _ h;simp only[tkW,aB,ay] at ry;obtain⟨b,vs,eb,hs,ra⟩:=ry;rw[afn ra] at hs;exact⟨_,_,r,.inr ⟨l,ks,b,.inl e,eb,hs,rfl⟩,ki ks pr⟩
 | @d kvs k =>
  simp only[aB,ay] at r;obtain⟨a,ob,l,e,h,rk⟩:=r;refine⟨a,_,e,.inl ⟨l,k,.inl (.inr ⟨ob,h⟩),iV ry,rfl⟩,?_⟩;have g:=ki (R:=λ d q=>ay K H d q) k (kT rk);cases q:gJ kvs k with
  | none=>rw[q] at g;rw[OR.none_of g];exact True.intro
  | some z =>
   rw[q] at g;obtain⟨b,eb,rb⟩:=OR.some_of g;rw[eb];exact rb
def adT(K:FG)(td ty tx:TE):TE:=λ σ H Q=>td σ H λ x H1=>∃ a,x=.ref a/\IsD H1 a/\ty σ H1 λ y H2=>tx σ H2 λ z H3=>∃ o,aee K H3 a y o/\Q (o.getD z) H3
theorem vJ(hu:X.A.units+1<cLine)(ho:PE X o td)(he:PE X e ty)(hf:PE X f tx)(m:M2 X o "get" apos e f cpos):PE X (.Call (.Attribute o "get" apos) [e,f] [] cpos) (adT X.K td ty tx):=by
 intro pins s σ H Q I h;refine wpAny_Call_method m.base m.few m.line PySem.F.plainAttrs_dict PySem.F.slot_dict_get PySem.F.type_dict_get (thn (ho pins s σ H _ I h) λ u s1 hq56=>?_);obtain⟨x,H1,I1,rx,a,ex,d,q1⟩:=hq56;subst ex;obtain rfl:u=Value.ref a:=rx;obtain⟨t1,t2,_⟩:=afh I1 d;refine⟨t1,t2,?_⟩;rw[m.trees];refine Calls.callWith_builtin rfl (Calls.evalArgs_plain (Calls.spliced_cons (thn (he pins s1 σ H1 _ I1 q1) λ iv s2 ⟨y,H2,I2,ry,q2⟩ =>
  Calls.spliced_cons (thn (hf pins s2 σ H2 _ I2 q2) λ fv s3 ⟨z,H3,I3,rz,ov,g,q3⟩=>Calls.spliced_nil ?_))))
 exact ad4 hu I3 g ry rz λ w' s4 I4 rw'=>⟨_,H3,I4,rw',q3⟩
def agI(td ty:TE):TE:=λ σ H Q=>td σ H λ x H1=>ty σ H1 λ y H2=>∃ a kvs k v,x=.ref a/\Rd2 H2 a (.dK kvs)/\y=kV k/\tI kvs k=some v/\Q v H2
theorem aaW(hu:X.A.units+1<cLine)(ho:PE X o td)(hi:PE X i ty)(hs:ag9 i):PE X (.Subscript o i pos) (agI td ty):=by intro pins s σ H Q I h;refine acA PySem.F.slot_dict_getitem.lookup hs (thn (ho pins s σ H _ I h) λ u s1 ⟨x,H1,I1,rx,q1⟩=>thn (hi pins s1 σ H1 _ I1 q1) λ iv s2 hq57=>?_);obtain⟨y,H2,I2,ry,a,kvs,k,v,ex,g,ey,l,q2⟩:=hq57;subst ex ey;obtain rfl:u=Value.ref a:=rx;exact mi hu I2 g l ry λ w' s3 I3 rw'=>⟨v,H2,I3,rw',q2⟩
section
variable {X:Cx}{o i e f value:Expr}{es:List Expr}{pos pos' apos cpos:Pos}{td ti tx tv:TD}{t:TAd}
def ng(_:DS)(M:MH)(Q:QD):Prop:=∀ p,M p=none->Q (.m p) (bN M p (.dic []))
inductive afz(M2:MH) (w y:W) (Q:QD):Prop
 | mk (a:Addr) (kvs:List (Key×W)) (k:Key) (v:W) (z0:w=.m a) (z1:M2 a=some (.dic kvs)\/M2 a=some (.fdic kvs)) (z2:y=kW k) (z3:gJ kvs k=some v) (q:Q v M2):afz M2 w y Q
def ft(td ti:TD)(τ:DS)(M:MH)(Q:QD):Prop:=td τ M λ w M1=>ti τ M1 λ y M2=>afz M2 w y Q
theorem adR(hu:X.A.units+1<cLine)(ho:PD X o td)(hi:PD X i ti)(hs:ag9 i:=by exact λ _ _=>rfl):PD X (.Subscript o i pos) (ft td ti):=fN (aaW hu ho hi hs) λ σ H Q h=>by
 obtain⟨τ,M,Qd,A,h,k⟩:=h;refine⟨τ,M,_,A,h,λ x H1 w M1 kp1 r1 m1 q1=>⟨τ,M1,_,A.go kp1 m1,q1,λ y H2 wy M2 kp2 r2 m2 hq58=>?_⟩⟩;obtain⟨a,kvs,key,v,ew,hm,ey,hv,q2⟩:=hq58;subst ew ey;obtain⟨l,e,pr⟩:∃ l,Rd2 H2 a (.dK l)/\Paired (λ(p:Key×W) (q:Key×V)=>p.1=q.1/\aB X.K H2 p.2 q.2) kvs l:=by
  rcases hm with hm | hm
  ·obtain⟨l,e,pr⟩:=m2 _ _ hm;exact⟨l,.inl (.inl e),pr⟩
  ·obtain⟨ob,l,e,pr⟩:=m2 _ _ hm;exact⟨l,.inr ⟨ob,e⟩,pr⟩
 have g:=ki key pr;rw[hv] at g;obtain⟨b,eb,rb⟩:=OR.some_of g;refine⟨a,l,key,b,r1,e,iV r2,eb,?_⟩;exact k _ H2 v M2 (kp1.trans kp2) rb m2 q2
def xW(td ti tx:TD)(τ:DS)(M:MH)(Q:QD):Prop:=td τ M λ w M1=>DIs M1 w/\ti τ M1 λ y M2=>tx τ M2 λ z M3=>∃ o,pP M3 w y o/\Q (o.getD z) M3
theorem OR.getD{K:FG}{H:Hp}{o:Option W}{p:Option V}{z:W}{v:V}(h:OR (aB K H) o p)(r:aB K H z v):aB K H (o.getD z) (p.getD v):=by
 cases o with
 | none=>rw[OR.none_of h];exact r
 | some a=>obtain⟨b,e,q⟩:=OR.some_of h;rw[e];exact q
theorem adM(hu:X.A.units+1<cLine)(ho:PD X o td)(he:PD X e ti)(hf:PD X f tx)(m:M2 X o "get" apos e f cpos:=by exact⟨rfl,rfl,rfl,rfl⟩):PD X (.Call (.Attribute o "get" apos) [e,f] [] cpos) (xW td ti tx):=fN (vJ hu ho he hf m) λ σ H Q h=>by obtain⟨τ,M,Qd,A,h,k⟩:=h;refine⟨τ,M,_,A,h,λ x H1 w M1 kp1 r1 m1 hq59=>?_⟩;obtain⟨di,q1⟩:=hq59;obtain⟨a,ea,isd⟩:=di.sound r1 m1;refine⟨a,ea,isd,τ,M1,_,A.go kp1 m1,q1,λ y H2 wy M2 kp2 r2 m2 q2=>⟨τ,M2,_,A.go (kp1.trans kp2) m2,q2,λ z H3 wz M3 kp3 r3 m3 hq60=>?_⟩⟩;obtain⟨o,g,q3⟩:=hq60;obtain⟨a',p,e',g',ro⟩:=g.sound (r1.keep (kp2.trans kp3)) (r2.keep kp3) m3;rw[ea] at e';cases e';exact⟨p,g',k _ H3 _ M3 ((kp1.trans kp2).trans kp3) (ro.getD r3) m3 q3⟩
def rg(td ti tv:TD)(D:Ed)(τ:DS)(M:MH):Prop:=tv τ M λ v M1=>td τ M1 λ w M2=>ti τ M2 λ y M3=>∃ a kvs k,w=.m a/\M3 a=some (.dic kvs)/\y=kW k/\kvs.length<sizeLine/\D.nx τ (bN M3 a (.dic (lQ kvs k v)))
theorem aat(hu:X.A.units+1<cLine)(ho:PD X o td)(hi:PD X i ti)(hv:PD X value tv)(hs:swapsWith value (some (.Subscript o i pos')) pos.line X.env=pure false:=by rfl) :
  PSd X (.Assign [.Subscript o i pos'] value pos) (rg td ti tv):=tH (ab6 hu ho hi hv hs) λ D σ H h=>by
 obtain⟨τ,M,Dd,A,h,k1,_⟩:=h;refine⟨τ,M,_,A,h,λ v H1 wv M1 kp1 r1 m1 q1=>⟨τ,M1,_,A.go kp1 m1,q1,λ x H2 w M2 kp2 r2 m2 q2=>⟨τ,M2,_,A.go (kp1.trans kp2) m2,q2,λ y H3 wy M3 kp3 r3 m3 hq61=>?_⟩⟩⟩;obtain⟨a,kvs,key,ew,hm,ey,hl,q3⟩:=hq61;subst ew ey;obtain⟨l,e,pr⟩:=m3 _ _ hm;have kp4:Kp H3 (upd H3 a (.dK (putK l key v))):=Kp.set e (λ _ z=>nomatch z) (λ _ _ z=>nomatch z);refine⟨a,_,r2,.inl ⟨l,key,e,iV r3,by rw[<- ue pr];exact hl,rfl⟩,?_⟩;have rv:aB X.K H3 wv v:=(r1.keep kp2).keep kp3;refine k1 _ _ _ _ (((kp1.trans kp2).trans kp3).trans kp4) (A.go (((kp1.trans kp2).trans kp3).trans kp4) (m3.put (mo:=.dic (lQ kvs key wv)) kp4 ⟨_,aq,?_⟩)) q3;exact Paired.iu (xn key rv pr) λ p q z=>⟨z.1,z.2.keep kp4⟩
end
abbrev ajc(K:FG)(H:Hp):List (Str×W)->List (Str×V)->Prop:=Paired (λ(p:Str×W) (q:Str×V)=>p.1=q.1/\aB K H p.2 q.2)
theorem oK{K:FG}{H:Hp}(f:Str):∀ {fs:List (Str×W)} {l:List (Str×V)},ajc K H fs l->OR (aB K H) (fs.lookup f) (l.lookup f)
 | _,_,.nil=>True.intro
 | _,_,.cons (a:=p) (b:=q) (l₁:=t1) (l₂:=t2) h t=>by
  obtain⟨pk,pv⟩:=p;obtain⟨qk,qv⟩:=q;obtain⟨h1,h2⟩:=h;have h1':pk=qk:=h1;subst h1';rw[List.lookup_cons,List.lookup_cons];cases e:(f==pk) with
  | true=>exact h2
  | false=>exact oK f t
section
variable {X:Cx}{C f:Addr}{o e value:Expr}{es:List Expr}{fn m x:Str}{pos pos' apos p:Pos}{td tv te:TD}{t:TAd}{k:Nat}{fd:FuncData}{ps:List Str}{sp:SpD}
end
def jX(M:MH)(a:Addr):MH:=λ b=>if b=a then none else M b
theorem iO(h:b≠a):jX M a b=M b:=if_neg h
theorem cf.del{K:FG}{H:Hp}{M:MH}{a:Addr}{o:HO}(m:cf K H M)(kp:Kp H (upd H a o)):cf K (upd H a o) (jX M a):=λ b mo hm=>by
 by_cases e:b=a
 ·subst e;simp[jX] at hm
 ·rw[iO e] at hm;exact(m b mo hm).keep kp λ u z=>by rw[aj e];exact z
def ahs(R:W->MH->Prop)(ws:List W)(M:MH):Prop:=match ws with
 | [y]=>R y M
 | _=>False
theorem xT(h:ahs R ws M):∃ y,ws=[y]/\R y M:=by
 match ws,h with
 | [y],h=>exact⟨y,rfl,h⟩
def fk(td:TD)(τ:DS)(M:MH)(Q:QD):Prop:=td τ M λ w M1=>∃ a ds,w=.m a/\M1 a=some (.lst (ds.map W.d))/\Q (.d (.list ds)) (jX M1 a)
theorem adp(h:PD X e td):PD X e (fk td):=fN (sP h) λ σ H Q h=>by obtain⟨τ,M,Qd,A,h,k⟩:=h;refine⟨τ,M,_,A,h,λ x H1 w M1 kp1 r1 m1 hq62=>?_⟩;obtain⟨a,ds,ew,hm,q⟩:=hq62;subst ew;obtain⟨vs,e,ra⟩:=m1 _ _ hm;refine⟨a,_,r1,e,trivial,λ ob=>?_⟩;have kp2:Kp H1 (upd H1 a (.frz ob (.lst vs))):=Kp.set e (λ _ z=>nomatch z) (λ _ _ z=>nomatch z);refine k _ _ (.d (.list ds)) (jX M1 a) (kp1.trans kp2) ?_ (m1.del kp2) q;simp only[aB,ay];exact⟨a,vs,r1,.inl ⟨ob,aq⟩,ra.data.keep kp2⟩
def ix(td te:TD)(τ:DS)(M:MH)(Q:QD):Prop:=td τ M λ w M1=>∃ a ws,w=.m a/\M1 a=some (.lst ws)/\te τ M1 λ y M2=>∃ ws',M2 a=some (.lst ws')/\ws'.length<sizeLine/\Q (.d .none) (bN M2 a (.lst (ws'++[y])))
theorem vV(ho:PD X o td)(he:PD X e te)
  (hbase:attributeBase o "append" X.env (eval o X.env)=eval o X.env:=by rfl)
  (hfew:((backTo cpos (starEach [e] X.env)).all (λ x=>!x.1)&&(backToKw cpos (keywordEach [] X.env)).all (λ x=>x.1.isSome)
   && decide (([e]:List Expr).length+([]:List Keyword).length+(if ([]:List Keyword).isEmpty then 0 else 1)<30))=true:=by rfl)
  (hline:(apos.endLine==cpos.line)=true:=by rfl)(hs:fh e=false:=by rfl):PD X (.Call (.Attribute o "append" apos) [e] [] cpos) (ix td te):=
 fN (agM PySem.F.plainAttrs_list PySem.F.slot_list_append PySem.F.type_list_append xP ho (pac he rj hs) hbase hfew hline (bT e [] X.env hs) rfl) λ σ H Q h=>by obtain⟨τ,M,Qd,A,h,k⟩:=h;refine⟨τ,M,_,A,h,λ x H1 w M1 kp1 r1 m1 hq63=>?_⟩;obtain⟨a,ws,ew,hm,q1⟩:=hq63;subst ew;obtain⟨vs,ea,ra⟩:=m1 _ _ hm;have r1':x=.ref a:=r1;subst r1';refine⟨.inl ⟨rfl,vs,.inl (.inl ea)⟩,τ,M1,ahs (λ y M2=>∃ ws',M2 a=some (.lst ws')/\ws'.length<sizeLine/\Qd (.d .none) (bN M2 a (.lst (ws'++[y])))),A.go kp1 m1,q1,λ ys H2 wys M2 kp2 r2 m2 q2=>?_⟩;obtain⟨y,ey,ws',hm2,hl,q4⟩:=xT q2;subst ey;obtain⟨v,ev,rv⟩:=cZ r2;subst ev;obtain⟨vs2,ea2,ra2⟩:=m2 _ _ hm2;have kp4:Kp H2 (upd H2 a (.lst (vs2++[v]))):=Kp.set ea2 (λ _ z=>nomatch z) (λ _ _ z=>nomatch z);refine⟨a,vs2,v,rfl,rfl,ea2,by rw[<- ra2.length];exact hl,?_⟩;exact k _ _ (.d .none) _ ((kp1.trans kp2).trans kp4) (by simp[aB,ay]) (m2.put (mo:=.lst (ws'++[y])) kp4 ⟨_,aq,(bF.append ra2 (.cons rv .nil)).keep kp4⟩) q4
def kz(K:FG)(H:Hp)(d:PyData)(x:V):Prop:=ay K H d x\/∃ a vs ds,d=.list ds/\x=.ref a/\H a=some (.lst vs)/\aT K H ds vs
inductive ux(M:MH):W->PyData->Prop
 | d {x:PyData}:ux M (.d x) x
 | l {a:Addr} {ds:List PyData} (h:M a=some (.lst (ds.map W.d))):ux M (.m a) (.list ds)
theorem ux.sound{K:FG}{H:Hp}{M:MH}{w:W}{d:PyData}{x:V}(g:ux M w d)(r:aB K H w x)(m:cf K H M):kz K H d x:=by
 cases g with
 | d=>exact .inl r
 | l h =>
  obtain⟨vs,e,ra⟩:=m _ _ h;exact .inr ⟨_,vs,_,rfl,r,e,ra.data⟩
theorem aiL(I:Inv X pins σ H s)(h:kz X.K H d x):∃ H',Inv X pins σ H' s/\ay X.K H' d x:=by
 rcases h with h | ⟨a,vs,ds,rfl,rfl,e,ra⟩
 ·exact⟨H,I,h⟩
 ·obtain⟨o,I2⟩:=I.freeze e trivial;have kp:Kp H (upd H a (.frz o (.lst vs))):=Kp.set e (λ _ z=>nomatch z) (λ _ _ z=>nomatch z);refine⟨_,I2,?_⟩;simp only[ay];exact⟨a,vs,rfl,.inl ⟨o,aq⟩,ra.keep kp⟩
theorem cT(I:Inv X pins σ H s)(d:PyData)(h:kz X.K H d x)(r:RelV x u)(hd:d.hasDict=false):∃ as,Reads s.heap u d as:=by obtain⟨H',I',h'⟩:=aiL I h;exact eQ I' d h' r hd
theorem rp(I:Inv X pins σ H s)(h:kz X.K H d x)(r:RelV x u)(ok:fG d=true):∃ as,Reads s.heap u d as/\(d.hasDict=true->sysModules ∉ as):=by obtain⟨H',I',h'⟩:=aiL I h;exact u4 I' h' r ok
theorem mf(hr:ll k X.A):dk X (.builtin "repr") (λ xs H Q=>∃ x d,xs=[x]/\kz X.K H d x/\fG d=true/\Q (.str d.shown) H):=by
 intro pins s σ H xs us Q I r h;obtain⟨x,d,rfl,rd,ok,q⟩:=h;obtain⟨u,rfl,rx⟩:=vals1 r;obtain⟨as,rr,hsm⟩:=rp I rd rx ok;have ok':=ok;simp only[fG,Bool.and_eq_true,decide_eq_true_eq] at ok';obtain⟨⟨⟨hs,hz⟩,hd⟩,_⟩:=ok';have hu:=hr.units;cases rr with
 | none=>exact PySem.P.repr_of_none ⟨.str _,H,I.tok _,⟨_,rfl⟩,by simpa [PyData.shown] using q⟩
 | bool b=>exact PySem.P.repr_of_bool ⟨.str _,H,I.tok _,⟨_,rfl⟩,by simpa [PyData.shown] using q⟩
 | int i t =>
  refine PySem.P.repr_of_int (by simpa [PyData.showable] using hs) ⟨.str _,H,I.tok _,⟨_,rfl⟩,?_⟩;rw[PyData.shown] at q;exact q
 | str i t =>
  refine PySem.P.repr_of_str ⟨.str _,H,I.tok _,⟨_,rfl⟩,?_⟩ (by simpa [PyData.shown] using hz);rw[PyData.shown] at q;exact q
 | list e1 e2 e3 e4=>exact repr_of_reads' (.list e1 e2 e3 e4) hs hsm hr.gd (by omega) (λ _ _ z=>z) (λ h' u tk hk=>⟨.str _,H,I.kept hk,⟨_,rfl⟩,q⟩) hz
 | tuple e1 e2 e3 e4=>exact repr_of_reads' (.tuple e1 e2 e3 e4) hs hsm hr.gd (by omega) (λ _ _ z=>z) (λ h' u tk hk=>⟨.str _,H,I.kept hk,⟨_,rfl⟩,q⟩) hz
 | dict e1 e2 e3 e4 e5=>exact repr_of_reads' (.dict e1 e2 e3 e4 e5) hs hsm hr.gd (by omega) (λ _ _ z=>z) (λ h' u tk hk=>⟨.str _,H,I.kept hk,⟨_,rfl⟩,q⟩) hz
theorem tE(hr:ll k X.A):OpR X (compareOp .Eq) (λ x y H Q=>∃ d d',kz X.K H d x/\kz X.K H d' y/\d9 d d'=true/\Q (.bl (PyData.eqv d d')) H):=by
 intro pins s σ H x y v u Q I rx ry h;obtain⟨d,d',h1,h2,o,q⟩:=h;rcases eJ o with ⟨a,b,e1,e2⟩ | ⟨o1,o2⟩
 ·subst e1;subst e2;rcases h1 with h1 | ⟨_,_,_,z,_⟩
  ·rcases h2 with h2 | ⟨_,_,_,z,_⟩
   ·exact abd hr pins s σ H x y v u Q I rx ry ⟨_,_,h1,h2,o,q⟩
   ·cases z
  ·cases z
 simp only[k7,Bool.and_eq_true,Bool.not_eq_true'] at o1 o2;obtain⟨as,r1⟩:=cT I d h1 rx o1.2;obtain⟨bs,r2⟩:=cT I d' h2 ry o2.2;exact eq_dataH r1 r2 o1.1 o2.1 hr.units ⟨.bl _,H,I,rfl,q⟩
theorem oG(hr:ll k X.A):OpR X (compareOp .NotEq) (λ x y H Q=>∃ d d',kz X.K H d x/\kz X.K H d' y/\d9 d d'=true/\Q (.bl (!PyData.eqv d d')) H):=by
 intro pins s σ H x y v u Q I rx ry h;obtain⟨d,d',h1,h2,o,q⟩:=h;rcases eJ o with ⟨a,b,e1,e2⟩ | ⟨o1,o2⟩
 ·subst e1;subst e2;rcases h1 with h1 | ⟨_,_,_,z,_⟩
  ·rcases h2 with h2 | ⟨_,_,_,z,_⟩
   ·exact aeH hr pins s σ H x y v u Q I rx ry ⟨_,_,h1,h2,o,q⟩
   ·cases z
  ·cases z
 simp only[k7,Bool.and_eq_true,Bool.not_eq_true'] at o1 o2;obtain⟨as,r1⟩:=cT I d h1 rx o1.2;obtain⟨bs,r2⟩:=cT I d' h2 ry o2.2;exact ne_dataH r1 r2 o1.1 o2.1 hr.units ⟨.bl _,H,I,rfl,q⟩
section
variable {X:Cx}{K:FG}
def yF(w w':W)(M:MH)(Q:QD):Prop:=∃ d d',ux M w d/\ux M w' d'/\d9 d d'=true/\Q (.d (.bool (PyData.eqv d d'))) M
def uW(w w':W)(M:MH)(Q:QD):Prop:=∃ d d',ux M w d/\ux M w' d'/\d9 d d'=true/\Q (.d (.bool (!PyData.eqv d d'))) M
theorem mG:OpD K (λ x y H Q=>∃ d d',kz K H d x/\kz K H d' y/\d9 d d'=true/\Q (.bl (PyData.eqv d d')) H) yF:=by intro x y H w w' M Qd Q r1 r2 m ⟨d,d',g1,g2,o1,q⟩ k;exact⟨d,d',g1.sound r1 m,g2.sound r2 m,o1,k _ H (.d (.bool _)) M (Kp.refl H) (by simp[aB,ay]) m q⟩
theorem kF:OpD K (λ x y H Q=>∃ d d',kz K H d x/\kz K H d' y/\d9 d d'=true/\Q (.bl (!PyData.eqv d d')) H) uW:=by intro x y H w w' M Qd Q r1 r2 m ⟨d,d',g1,g2,o1,q⟩ k;exact⟨d,d',g1.sound r1 m,g2.sound r2 m,o1,k _ H (.d (.bool _)) M (Kp.refl H) (by simp[aB,ay]) m q⟩
def rK(ws:List W)(M:MH)(Q:QD):Prop:=∃ w d,ws=[w]/\ux M w d/\fG d=true/\Q (.d (.str d.shown)) M
theorem sE:eB K (λ xs H Q=>∃ x d,xs=[x]/\kz K H d x/\fG d=true/\Q (.str d.shown) H) rK:=by intro vs H ws M Qd Q r m ⟨w,d,e,g,ok,q⟩ k;subst e;obtain⟨v,e1,r1⟩:=cZ r;exact⟨v,d,e1,g.sound r1 m,ok,k _ H (.d (.str _)) M (Kp.refl H) (by simp[aB,ay]) m q⟩
inductive ads(M:MH):W->List W->Prop
 | l {ds:List PyData}:ads M (.d (.list ds)) (ds.map W.d)
 | t {ds:List PyData}:ads M (.d (.tuple ds)) (ds.map W.d)
 | m {a:Addr} {ws:List W} (h:M a=some (.lst ws)):ads M (.m a) ws
theorem ads.sound(g:ads M w ws)(r:aB K H w x)(m:cf K H M):∃ p ys,x=.ref p/\(SqL K H p ys\/SqT K H p ys)/\bF K H ws ys:=by
 cases g with
 | l =>
  simp only[aB,ay] at r;obtain⟨a,vs,e,hs,ra⟩:=r;exact⟨a,vs,e,.inl hs.sq,ra.ws⟩
 | t =>
  simp only[aB,ay] at r;obtain⟨a,vs,e,hs,ra⟩:=r;exact⟨a,vs,e,.inr hs,ra.ws⟩
 | m h =>
  obtain⟨vs,e,ra⟩:=m _ _ h;exact⟨_,vs,r,.inl (.inl (.inl e)),ra⟩
def ia(ws:List W)(M:MH)(Q:QD):Prop:=∃ w xs,ws=[w]/\ads M w xs/\∀ p,M p=none->Q (.m p) (bN M p (.lst xs))
theorem gS:eB K (λ xs H Q=>∃ p ys,xs=[.ref p]/\(SqL K H p ys\/SqT K H p ys)/\∀ l,H l=none->Q (.ref l) (upd H l (.lst ys))) ia:=by intro vs H ws M Qd Q r m ⟨w,xs,e,g,q⟩ k;subst e;obtain⟨v,e1,r1⟩:=cZ r;obtain⟨p,ys,ev,hs,rs⟩:=g.sound r1 m;subst ev;refine⟨p,ys,e1,hs,λ l hl=>?_⟩;have kp:Kp H (upd H l (.lst ys)):=Kp.new hl;exact k _ _ (.m l) _ kp rfl (m.put (mo:=.lst xs) kp ⟨ys,aq,rs.keep kp⟩) (q l (m.free hl))
def eD(zs:List Str):List W:=zs.map λ z=>.d (.str z)
theorem tG:∀ {zs:List Str} {vs:List V},bF K H (eD zs) vs->vs=zs.map V.str
 | [],_,h=>by cases h;rfl
 | z::zs,_,h=>by
  cases h with
  | cons r t =>
   simp only[aB,ay] at r;rw[r,tG t];rfl
theorem wt(z:Str):∀ zs:List Str,inV (.str z) (zs.map V.str)=decide (z∈zs)
 | []=>rfl
 | y::zs=>by
  have h:inV (.str z) ((y::zs).map V.str)=((y==z) || inV (.str z) (zs.map V.str)):=rfl;rw[h,wt z zs]
  by_cases e:z=y
  ·subst e;simp
  ·have e':(y==z)=false:=by
    cases q:(y==z) with
    | false=>rfl
    | true=>exact absurd (eq_of_beq q).symm e
   rw[e'];simp[e]
theorem vN:∀ zs:List Str,(zs.map V.str).all lA=true
 | []=>rfl
 | _::zs=>by simp[lA]
def afU(neg:Bool)(w w':W)(M:MH)(Q:QD):Prop:=∃ z zs,w=.d (.str z)/\ads M w' (eD zs)/\Q (.d (.bool (if neg then !decide (z∈zs) else decide (z∈zs)))) M
theorem aaO(neg:Bool):OpD K (rIn K neg) (afU neg):=by intro x y H w w' M Qd Q r1 r2 m ⟨z,zs,ew,g,q⟩ k;subst ew;simp only[aB,ay] at r1;subst r1;obtain⟨p,ys,ey,hs,rs⟩:=g.sound r2 m;have e:=tG rs;subst e;refine⟨p,_,ey,hs,rfl,vN zs,?_⟩;rw[wt];exact k _ H (.d (.bool _)) M (Kp.refl H) (by simp[aB,ay]) m q
def agF(ws:List W)(M:MH)(Q:QD):Prop:=(∃ i,ws=[.d (.int i)]/\Q (.d (.int i)) M)\/∃ b,ws=[.d (.bool b)]/\Q (.d (.int (if b then 1 else 0))) M
theorem afG:eB K (λ xs H Q=>(∃ i,xs=[.int i]/\Q (.int i) H)\/∃ k,xs=[.bl k]/\Q (.int (if k then 1 else 0)) H) agF:=by
 intro vs H ws M Qd Q r m h k;rcases h with ⟨i,e,q⟩ | ⟨b,e,q⟩
 ·subst e;obtain⟨v,e1,r1⟩:=cZ r;simp only[aB,ay] at r1;subst r1;exact .inl ⟨i,e1,k _ H (.d (.int i)) M (Kp.refl H) (by simp[aB,ay]) m q⟩
 ·subst e;obtain⟨v,e1,r1⟩:=cZ r;simp only[aB,ay] at r1;subst r1;exact .inr ⟨b,e1,k _ H (.d (.int _)) M (Kp.refl H) (by simp[aB,ay]) m q⟩
end
theorem sD:∀ {ns:List Int} {its:List Value},Vals (ns.map V.int) its->∃ xs:List (Int×Tok),its=xs.map (λ p=>Value.int p.1 p.2)/\xs.map (·.1)=ns
 | [],its,h=>by cases h;exact⟨[],rfl,rfl⟩
 | n::ns,its,h=>by
  cases h with
  | cons r t =>
   obtain⟨tk,e⟩:=(show ∃ t,_=Value.int n t from r);obtain⟨xs,e1,e2⟩:=sD t;exact⟨(n,tk)::xs,by rw[e,e1];rfl,by rw[List.map_cons,e2]⟩
section
variable {X:Cx}{K:FG}
def ahG(K:FG):R2:=λ x y H Q=>∃ l b xs zs,x=.ref l/\y=.ref b/\SqL K H l xs/\SqL K H b zs/\xs.length+zs.length<=sizeLine/\∀ p,H p=none->Q (.ref p) (upd H p (.lst (xs++zs)))
theorem ach:OpR X (binaryOp .Add) (ahG X.K):=by
 intro pins s σ H x y v u Q I rx ry h;obtain⟨l,b,xs,zs,rfl,rfl,h1,h2,hz,q⟩:=h;cases rx;cases ry;obtain⟨its,r1,p1,_⟩:=I.list h1;obtain⟨its2,r2,p2,_⟩:=I.list h2;have t1:=p1.isList.typeIs (s:=s);have t2:=p2.isList.typeIs (s:=s);obtain⟨⟨oc,od,odt,osl⟩,n,e1,c1,d1,g1⟩:=p1;obtain⟨⟨oc2,od2,odt2,osl2⟩,n2,e2,c2,d2,g2⟩:=p2;dsimp only at c1 d1 g1 c2 d2 g2;subst c1 d1 g1 c2 d2 g2;have hl1:=r1.length;have hl2:=r2.length;refine wpAny_binaryOp_concat (T:= "list") t1 t2 noFill_list_add seq_list_add ?_;refine call_meets PySem.F.slot_list_add t1 PySem.F.entry_list_add (PySem.F.args_list_add_2 _ _) (list_addW l b its.toArray its2.toArray n n2 none none osl osl2 (by simp only[List.size_toArray];omega)) ⟨e1,e2,?_⟩;have ea:its.toArray++its2.toArray=(its++its2).toArray:=by simp
 rw[ea];exact⟨.ref _,_,I.aiW (t':=s.toks) (r1.append r2) (by rw[List.length_append];omega),rfl,q _ I.fresh⟩
inductive xx(M:MH):W->List PyData->Prop
 | d {ds:List PyData}:xx M (.d (.list ds)) ds
 | m {a:Addr} {ds:List PyData} (h:M a=some (.lst (ds.map W.d))):xx M (.m a) ds
theorem xx.sound(g:xx M w ds)(r:aB K H w x)(m:cf K H M):∃ p ys,x=.ref p/\SqL K H p ys/\aT K H ds ys:=by
 cases g with
 | d =>
  simp only[aB,ay] at r;obtain⟨a,vs,e,hs,ra⟩:=r;exact⟨a,vs,e,hs.sq,ra⟩
 | m h =>
  obtain⟨vs,e,ra⟩:=m _ _ h;exact⟨_,vs,r,.inl (.inl e),ra.data⟩
def ag8(ta tb:TD)(τ:DS)(M:MH)(Q:QD):Prop:=ta τ M λ w M1=>tb τ M1 λ w' M2=>∃ xs ys,xx M2 w xs/\xx M2 w' ys/\xs.length+ys.length<=sizeLine/\Q (.d (.list (xs++ys))) M2
theorem agR(ha:PD X a ta)(hb:PD X b tb):PD X (.BinOp a .Add b pos) (ag8 ta tb):=fN (sP (agx ach ha hb)) λ σ H Q h=>by obtain⟨τ,M,Qd,A,h,k⟩:=h;refine⟨τ,M,_,A,h,λ x H1 w M1 kp1 r1 m1 q1=>⟨τ,M1,_,A.go kp1 m1,q1,λ y H2 w' M2 kp2 r2 m2 hq64=>?_⟩⟩;obtain⟨xs,ys,g1,g2,hz,q⟩:=hq64;obtain⟨p,vs,e1,s1,ra1⟩:=g1.sound (r1.keep kp2) m2;obtain⟨p',vs',e2,s2,ra2⟩:=g2.sound r2 m2;refine⟨p,p',vs,vs',e1,e2,s1,s2,by rw[ra1.length,ra2.length];exact hz,λ c hc=>?_⟩;exact mE hc (ra1.append ra2) m2 q (kgo (kgo k kp1) kp2)
theorem pN:∀ {ns:List Int} {vs:List V},aT K H (ns.map PyData.int) vs->vs=ns.map V.int
 | [],vs,h=>by simpa [aT] using h
 | n::ns,vs,h=>by simp only[List.map_cons,aT] at h;obtain⟨v,r,e,h1,h2⟩:=h;simp only[ay] at h1;rw[e,h1,pN h2];rfl
end
abbrev ag4:=List W->DS->MH->(DS->MH->Prop)->Prop
def ajj(K:FG)(g:ag4):TGs:=λ vs σ H Q=>∃ ws τ M Qd,bF K H ws vs/\Abs K H σ τ M/\g ws τ M Qd/\∀ σ' H' τ' M',Kp H H'->Abs K H' σ' τ' M'->Qd τ' M'->Q σ' H'
abbrev aef(X:Cx)(es:List Expr)(g:ag4):Prop:=PGs X es (ajj X.K g)
theorem aeN(h:PGs X es g)(k:∀ v σ H Q,g' v σ H Q->g v σ H Q):PGs X es g':=λ pins s σ H v u Q I r q=>h pins s σ H v u Q I r (k v σ H Q q)
def fm(ws:List W)(τ:DS)(M:MH)(Q:DS->MH->Prop):Prop:=ws=[]/\Q τ M
def aU(g:TGd)(gs:ag4)(ws:List W)(τ:DS)(M:MH)(Q:DS->MH->Prop):Prop:=∃ w r,ws=w::r/\g w τ M λ τ' M'=>gs r τ' M' Q
theorem yu(h1:PGd X e g)(h2:aef X es gs)(hs:(assignEach (e::es) X.env).map (·.2)=assign e X.env::(assignEach es X.env).map (·.2):=by rfl):aef X (e::es) (aU g gs):=
 aeN (zR h1 h2 hs) λ vs σ H Q hq66=>by
  obtain⟨ws,τ,M,Qd,r,A,⟨w,wr,ew,q⟩,k⟩:=hq66;subst ew;cases r with
  | cons r1 r2 =>
   refine⟨_,_,rfl,w,τ,M,_,r1,A,q,λ σ1 H1 τ1 M1 kp1 A1 q1=>?_⟩;exact⟨wr,τ1,M1,Qd,bF.keep kp1 r2,A1,q1,λ σ2 H2 τ2 M2 kp2 A2 q2=>k σ2 H2 τ2 M2 (kp1.trans kp2) A2 q2⟩
def gT(n:Nat)(gs:ag4)(w:W)(τ:DS)(M:MH)(Q:DS->MH->Prop):Prop:=∃ ds,w=.d (.tuple ds)/\ds.length=n/\gs (ds.map W.d) τ M Q
theorem acq(hc:X.calm=true)(h:aef X es gs)(hn:(assignEach es X.env).length=n:=by rfl)(hst:(assignEach es X.env).findIdx? (·.1)=none:=by rfl):PGd X (.Tuple es k pos) (gT n gs):=
 ahb (agO hc h hn hst) λ v σ H Q hq67=>by obtain⟨w,τ,M,Qd,r,A,⟨ds,ew,hl,q⟩,kk⟩:=hq67;subst ew;simp only[aB,ay] at r;obtain⟨a,vs,ev,hs,ra⟩:=r;exact⟨a,vs,ev,hs,by rw[ra.length];exact hl,ds.map W.d,τ,M,Qd,ra.ws,A,q,kk⟩
def ah6(i j:Nat)(t:TAd)(D:Ed)(τ:DS)(M:MH):Prop:=t τ M λ ws M1=>∃ v w,ws=[v,w]/\D.nx ((τ.set i (some v)).set j (some w)) M1
theorem aea{kt k2 pt2}(hc:X.calm=true)(hN:X.N.Nodup)(hi:X.N[i]? =some x)(hj:X.N[j]? =some y)(hij:i≠j)
  (hx:X.env.scope.names.lookup x=some .local)(hy:X.env.scope.names.lookup y=some .local)(ha:PAd X [a,b] t)
  (hw:swappedStores [.Tuple [.Name x px,.Name y py] kt pt] (.Tuple [a,b] k2 pt2) X.env=pure (some [x,y]):=by rfl)
  (hs:swapsWithSole [.Tuple [.Name x px,.Name y py] kt pt] (.Tuple [a,b] k2 pt2) pos.line X.env=pure false:=by rfl) :
  PSd X (.Assign [.Tuple [.Name x px,.Name y py] kt pt] (.Tuple [a,b] k2 pt2) pos) (ah6 i j t):=tH (aeZ hc hN hi hj hij hx hy ha hw hs) λ D σ H h=>by
 obtain⟨τ,M,Dd,A,h,k1,_⟩:=h;refine⟨τ,M,_,A,h,λ vs H1 ws M1 kp1 r1 m1 hq68=>?_⟩;obtain⟨v,w,ew,q⟩:=hq68;subst ew;obtain⟨u1,u2,e1,r2,r3⟩:=tX r1;exact⟨u1,u2,e1,k1 _ H1 _ M1 kp1 (((A.go kp1 m1).set i r2).set j r3) q⟩
section
variable {K:FG}{C:Addr}
end
theorem pcT(hc:dk X (.type T) r)(hd:eB X.K r rd)(hg:Gl X x)(hm:X.mg x=none)(hv:bootBuiltins x=some (.type T))(ha:PAd X (e::es) t)(hn:x ≠ "__name__":= by decide)(hdb:ND x:=by decide)
  (h1:fh e=false:=by rfl)(h2:(es.all λ e=>!fh e)=true:=by rfl):PD X (.Call (.Name x p) (e::es) [] pos) (dCB rd t):=yR hc hd hg hm hv ha hn hdb (bT e es X.env h1) (cC pos X.env es h2)
theorem iC  : Jd (PD X (.Dict [] [] pos) ng):=⟨fN aa6 λ σ H Q ⟨τ,M,Qd,A,h,k⟩ p hp =>
 k (.ref p) _ (.m p) (bN M p (.dic [])) (Kp.new hp) rfl (A.mem.put (mo:=.dic []) (Kp.new hp) ⟨[],aq,.nil⟩) (h p (A.mem.free hp))⟩
theorem bU(hu:X.A.units+1<cLine)(ho:Jd (PD X o td))(hi:Jd (PD X i ti))(hs:ag9 i:=by exact λ _ _=>rfl):Jd (PD X (.Subscript o i pos) (ft td ti)):=⟨D.adR (hu:=hu) (ho:=ho.h) (hi:=hi.h) (hs:=hs)⟩
theorem nG(hu:X.A.units+1<cLine)(ho:Jd (PD X o td))(he:Jd (PD X e ti))(hf:Jd (PD X f tx))(m:M2 X o "get" apos e f cpos:=by exact⟨rfl,rfl,rfl,rfl⟩):Jd (PD X (.Call (.Attribute o "get" apos) [e,f] [] cpos) (xW td ti tx)):=⟨D.adM (hu:=hu) (ho:=ho.h) (he:=he.h) (hf:=hf.h) (m:=m)⟩
theorem fw(hu:X.A.units+1<cLine)(ho:Jd (PD X o td))(hi:Jd (PD X i ti))(hv:Jd (PD X value tv))(hs:swapsWith value (some (.Subscript o i pos')) pos.line X.env=pure false:=by rfl):Jd (PSd X (.Assign [.Subscript o i pos'] value pos) (rg td ti tv)):=⟨D.aat (hu:=hu) (ho:=ho.h) (hi:=hi.h) (hv:=hv.h) (hs:=hs)⟩
theorem bV(h:Jd (PD X e td)):Jd (PD X e (fk td)):=⟨D.adp (h:=h.h)⟩
theorem fQ(ho:Jd (PD X o td))(he:Jd (PD X e te))(hbase:attributeBase o "append" X.env (eval o X.env)=eval o X.env:=by rfl)(hfew:((backTo cpos (starEach [e] X.env)).all (λ x=>!x.1)&&(backToKw cpos (keywordEach [] X.env)).all (λ x=>x.1.isSome)
   && decide (([e]:List Expr).length+([]:List Keyword).length+(if ([]:List Keyword).isEmpty then 0 else 1)<30))=true:=by rfl)(hline:(apos.endLine==cpos.line)=true:=by rfl)(hs:fh e=false:=by rfl):Jd (PD X (.Call (.Attribute o "append" apos) [e] [] cpos) (ix td te)):=⟨D.vV (ho:=ho.h) (he:=he.h) (hbase:=hbase) (hfew:=hfew) (hline:=hline) (hs:=hs)⟩
theorem zc(ha:Jd (PD X a ta))(hb:Jd (PD X b tb)):Jd (PD X (.BinOp a .Add b pos) (ag8 ta tb)):=⟨D.agR (ha:=ha.h) (hb:=hb.h)⟩
theorem bq  : Jd (aef X [] fm):=⟨aeN adU λ vs σ H Q hq65=>by obtain⟨ws,τ,M,Qd,r,A,⟨e,q⟩,k⟩:=hq65;subst e;cases r;exact⟨rfl,k σ H τ M (Kp.refl H) A q⟩⟩
theorem av(h1:Jd (PGd X e g))(h2:Jd (aef X es gs))(hs:(assignEach (e::es) X.env).map (·.2)=assign e X.env::(assignEach es X.env).map (·.2):=by rfl):Jd (aef X (e::es) (aU g gs)):=⟨D.yu (h1:=h1.h) (h2:=h2.h) (hs:=hs)⟩
theorem bO(hc:X.calm=true)(h:Jd (aef X es gs))(hn:(assignEach es X.env).length=n:=by rfl)(hst:(assignEach es X.env).findIdx? (·.1)=none:=by rfl):Jd (PGd X (.Tuple es k pos) (gT n gs)):=⟨D.acq (hc:=hc) (h:=h.h) (hn:=hn) (hst:=hst)⟩
theorem aam{kt k2 pt2}(hc:X.calm=true)(hN:X.N.Nodup)(hi:X.N[i]? =some x)(hj:X.N[j]? =some y)(hij:i≠j)(hx:X.env.scope.names.lookup x=some .local)(hy:X.env.scope.names.lookup y=some .local)(ha:Jd (PAd X [a,b] t))(hw:swappedStores [.Tuple [.Name x px,.Name y py] kt pt] (.Tuple [a,b] k2 pt2) X.env=pure (some [x,y]):=by rfl)(hs:swapsWithSole [.Tuple [.Name x px,.Name y py] kt pt] (.Tuple [a,b] k2 pt2) pos.line X.env=pure false:=by rfl):Jd (PSd X (.Assign [.Tuple [.Name x px,.Name y py] kt pt] (.Tuple [a,b] k2 pt2) pos) (ah6 i j t)):=⟨D.aea (hc:=hc) (hN:=hN) (hi:=hi) (hj:=hj) (hij:=hij) (hx:=hx) (hy:=hy) (ha:=ha.h) (hw:=hw) (hs:=hs)⟩
theorem zt(hc:dk X (.type T) r)(hd:eB X.K r rd)(hg:Gl X x)(hm:X.mg x=none)(hv:bootBuiltins x=some (.type T))(ha:Jd (PAd X (e::es) t))(hn:x ≠ "__name__":= by decide)(hdb:ND x:=by decide)(h1:fh e=false:=by rfl)(h2:(es.all λ e=>!fh e)=true:=by rfl):Jd (PD X (.Call (.Name x p) (e::es) [] pos) (dCB rd t)):=⟨D.pcT (hc:=hc) (hd:=hd) (hg:=hg) (hm:=hm) (hv:=hv) (ha:=ha.h) (hn:=hn) (hdb:=hdb) (h1:=h1) (h2:=h2)⟩
@[simp] theorem agA (i j:Int):d9 (.int i) (.int j)=true:=rfl
@[simp] theorem afF (x y:Str):d9 (.str x) (.str y)=true:=rfl
@[simp] theorem aex (x y:Bool):d9 (.bool x) (.bool y)=true:=rfl
@[simp] theorem ahA (i j:Int):PyData.eqv (.int i) (.int j)=(i==j):=by rw[PyData.eqv]
@[simp] theorem acM (i j:Str):PyData.eqv (.str i) (.str j)=(i==j):=by rw[PyData.eqv]
@[simp] theorem aiy (a:Addr):adJ (.m a)=true:=rfl
@[simp] theorem afY (ds:List PyData):adJ (.d (.list ds))=true:=rfl
@[simp] theorem aew (ds:List PyData):adJ (.d (.tuple ds))=true:=rfl
@[simp] theorem ag2 (n:Nat):ixN (n+1) 0=some 0:=by unfold ixN;simp
theorem abf{α:Type}{xs:List α}{i:Int}(h0:0<=i)(h1:i<xs.length):atI xs i=some (xs[i.toNat]'(by omega)):=by
 unfold atI ixN;rw[if_pos h0,if_pos h1];simp
inductive Bag(M:MH) (p:Addr):Prop
 | mk (a b c:Int) (ns:List Int) (e:M p=some (.lst [.d (.int a),.d (.int b),.d (.int c),.d (.list (ns.map PyData.int))])) (z:0<=a/\0<=b/\b<2147483647/\0<=c/\(∀ n∈ns,0<=n)):Bag M p
def dY:SpD:=λ ws M Q=>∃ ns:List Int,ws=[.d (.list (ns.map PyData.int))]/\ns.length<=1000/\∀ p M',M p=none->(∀ q,q≠p->M' q=M q)->Bag M' p->Q (.m p) M'
inductive pI(ws:List W) (M:MH) (Q:QD):Prop
 | mk (p:Addr) (n:Int) (z0:ws=[.m p,.d (.int n)]) (z1:Bag M p) (z2:0<n) (z3:n<1073741824) (z4:∀ (r:Int) M',0<=r->r<n->Bag M' p->(∀ q,q≠p->M' q=M q)->Q (.d (.int r)) M'):pI ws M Q
def ba:SpD:=pI
theorem yD:∀ ws M Q,dY ws M Q->ws.length=1:=by rintro ws M Q ⟨ns,rfl,_⟩;rfl
theorem uw:∀ ws M Q,ba ws M Q->ws.length=2:=by rintro ws M Q ⟨p,n,rfl,_⟩;rfl
theorem wL{n:Nat}{i:Int}(h0:0<=i)(h1:i<n):ixN n i=some i.toNat:=by unfold ixN;rw[if_pos h0,if_pos h1]
theorem adG(hm:M p=some (.lst ws))(h:atI ws i=some x):ixW M (.m p) i=some x:=by simp only[ixW,hm];exact h
theorem oP{c:Bool}{A B:Prop}(h1:c=true->A)(h2:c=false->B):if c=true then A else B:=by
 cases c with
 | true=>rw[if_pos rfl];exact h1 rfl
 | false=>rw[if_neg Bool.false_ne_true];exact h2 rfl
abbrev zi:List Str:=["_law_script"]
def wY:TSd:=
  dR (uA (ag (dC (.d (.int 0))) (ag (dC (.d (.int 1234567891))) (ag (dC (.d (.int 0))) (ag (dLC (cm (dSl (au 0) (eF) (lu (dC (.d (.int 63)))))) (gN 0) (pE) (dCB agK (ag (au 0) (aO))) 1 []) (aO))))))
abbrev t8:List Str:=["_law_bag_here", "_law_many", "_law_cell", "_law_value", "_law_first", "_law_second"]
def rW:TSd:=
  bI (dIf (bH (dOp aiN (dOp dP (au 0) (dC (.d (.int 0)))) (dC (.d (.int 0)))))
   (bI (cq (dC (.d (.int 0))) (gN 2)) <|
   bI (dIf (bH (dOp ahT (dOp dP (au 0) (dC (.d (.int 2)))) (dCB lD (ag (dOp dP (au 0) (dC (.d (.int 3)))) (aO)))))
    (cq (dOp dP (dOp dP (au 0) (dC (.d (.int 3)))) (dOp dP (au 0) (dC (.d (.int 2))))) (gN 2))
    (cU)) <|
   bI (aaQ (au 0) (dC (.d (.int 2))) (dC (.d (.int 1))) (λ i j=>i+j)) <|
   bI (dIf (bH (dOp aeB (au 2) (dC (.d (.int 1000000000000000000)))))
    (cq (au 2) (aaZ (au 0) (dC (.d (.int 0)))))
    (cU)) <|
   cq (dOp d5 (dOp cI (dOp cI (dOp gC (dOp dP (au 0) (dC (.d (.int 1)))) (dC (.d (.int 48271)))) (dOp d5 (au 2) (dC (.d (.int 2147483647))))) (dOp gC (dC (.d (.int 7919))) (dOp dP (au 0) (dC (.d (.int 2)))))) (dC (.d (.int 2147483647)))) (aaZ (au 0) (dC (.d (.int 1)))))
   (cU)) <|
  bI (dIf (bH (dOp zV (dOp dP (au 0) (dC (.d (.int 0)))) (dC (.d (.int 0)))))
   (bI (cq (dOp d5 (dOp dP (au 0) (dC (.d (.int 0)))) (au 1)) (gN 3)) <|
   bI (cq (dOp vE (dOp dP (au 0) (dC (.d (.int 0)))) (au 1)) (aaZ (au 0) (dC (.d (.int 0))))) <|
   dR (au 3))
   (cU)) <|
  bI (cq (dOp d5 (dOp gC (dOp cI (dOp dP (au 0) (dC (.d (.int 1)))) (dC (.d (.int 1)))) (dC (.d (.int 39373)))) (dC (.d (.int 1000000007)))) (gN 4)) <|
  bI (cq (dOp d5 (dOp gC (dOp d5 (dOp gC (au 4) (au 4)) (dC (.d (.int 998244353)))) (dC (.d (.int 30011)))) (dC (.d (.int 998244353)))) (gN 5)) <|
  bI (dIf (bH (dOp zV (au 1) (dC (.d (.int 1000000)))))
   (dR (dOp d5 (dOp cI (dOp gC (au 5) (dC (.d (.int 1000000007)))) (au 4)) (au 1)))
   (cU)) <|
  dR (dOp d5 (dOp vE (au 5) (dC (.d (.int 7)))) (au 1))
abbrev aae(a b c:Int)(ns:List Int):List W:=[.d (.int a),.d (.int b),.d (.int c),.d (.list (ns.map PyData.int))]
theorem iB(hm:M p=some (.lst (aae a b c ns)))(ha:0<=a)(hb:0<=b)(hb2:b<2147483647)(hc:0<=c)(hns:∀ n∈ns,0<=n)(hn:0<n)(hn2:n<1073741824)
  (k:∀ (r:Int) M',0<=r->r<n->Bag M' p->(∀ q,q≠p->M' q=M q)->Q (.d (.int r)) M')(hD:D.rt=Q) :
  (bI (dIf (bH (dOp zV (dOp dP (au 0) (dC (.d (.int 0)))) (dC (.d (.int 0)))))
   (bI (cq (dOp d5 (dOp dP (au 0) (dC (.d (.int 0)))) (au 1)) (gN 3)) <|
   bI (cq (dOp vE (dOp dP (au 0) (dC (.d (.int 0)))) (au 1)) (aaZ (au 0) (dC (.d (.int 0))))) <|
   dR (au 3))
   (cU)) <|
  bI (cq (dOp d5 (dOp gC (dOp cI (dOp dP (au 0) (dC (.d (.int 1)))) (dC (.d (.int 1)))) (dC (.d (.int 39373)))) (dC (.d (.int 1000000007)))) (gN 4)) <|
  bI (cq (dOp d5 (dOp gC (dOp d5 (dOp gC (au 4) (au 4)) (dC (.d (.int 998244353)))) (dC (.d (.int 30011)))) (dC (.d (.int 998244353)))) (gN 5)) <|
  bI (dIf (bH (dOp zV (au 1) (dC (.d (.int 1000000)))))
   (dR (dOp d5 (dOp cI (dOp gC (au 5) (dC (.d (.int 1000000007)))) (au 4)) (au 1)))
   (cU)) <|
  dR (dOp d5 (dOp vE (au 5) (dC (.d (.int 7)))) (au 1))) D [some (.m p),some (.d (.int n)),x,none,none,none] M:=by
 subst hD;have i0:ixW M (.m p) 0=some (.d (.int a)):=adG hm rfl;have i1:ixW M (.m p) 1=some (.d (.int b)):=adG hm rfl;have same:Bag M p:=⟨a,b,c,ns,hm,ha,hb,hb2,hc,hns⟩;refine⟨_,rfl,_,_,rfl,i0,rfl,_,_,rfl,rfl,_,rfl,?_⟩;refine oP (λ h=>?_) (λ h=>?_)
 ·have h0:0<a:=of_decide_eq_true h;refine⟨_,rfl,_,_,rfl,i0,rfl,_,rfl,_,_,rfl,rfl,hn,?_⟩;refine⟨_,rfl,_,_,rfl,i0,rfl,_,rfl,_,_,rfl,rfl,⟨hn,hn2⟩,?_⟩;refine⟨_,rfl,_,_,_,_,rfl,rfl,hm,rfl,?_⟩;refine⟨_,rfl,?_⟩;refine k _ _ (Int.emod_nonneg _ (by omega)) (Int.emod_lt_of_pos _ hn) ⟨a / n,b,c,ns,ah,Int.ediv_nonneg ha (by omega),hb,hb2,hc,hns⟩ λ q hq=>aw hq
 ·refine⟨_,rfl,_,_,rfl,i1,rfl,.inl ?_⟩;refine⟨_,_,rfl,rfl,_,_,rfl,rfl,.inl ⟨by omega,by omega⟩,_,_,rfl,rfl,(by decide:(0:Int)<1000000007),?_⟩;have f0:0<=(b+1) * 39373 % 1000000007:=Int.emod_nonneg _ (by decide);have f1:(b+1) * 39373 % 1000000007<1000000007:=Int.emod_lt_of_pos _ (by decide);refine⟨_,rfl,_,rfl,_,_,rfl,rfl,.inl ⟨by omega,by omega⟩,_,_,rfl,rfl,(by decide:(0:Int)<998244353),?_⟩;have g0:0<=(b+1) * 39373 % 1000000007 * ((b+1) * 39373 % 1000000007) % 998244353:=Int.emod_nonneg _ (by decide);have g1:(b+1) * 39373 % 1000000007 * ((b+1) * 39373 % 1000000007) % 998244353<998244353:=Int.emod_lt_of_pos _ (by decide);refine⟨_,_,rfl,rfl,.inl ⟨by omega,by omega⟩,_,_,rfl,rfl,(by decide:(0:Int)<998244353),?_⟩;have e0:0<=(b+1) * 39373 % 1000000007 * ((b+1) * 39373 % 1000000007) % 998244353 * 30011 % 998244353:=Int.emod_nonneg _ (by decide);have e1:(b+1) * 39373 % 1000000007 * ((b+1) * 39373 % 1000000007) % 998244353 * 30011 % 998244353<998244353:=Int.emod_lt_of_pos _ (by decide);refine⟨_,rfl,_,_,rfl,rfl,_,rfl,?_⟩;refine oP (λ h=>?_) (λ h=>?_)
  ·refine⟨_,rfl,_,_,rfl,rfl,.inl ⟨by omega,by omega⟩,_,rfl,.inl ⟨_,_,rfl,rfl,_,rfl,_,_,rfl,rfl,hn,?_⟩⟩;exact k _ _ (Int.emod_nonneg _ (by omega)) (Int.emod_lt_of_pos _ hn) same λ q _=>rfl
  ·refine⟨_,rfl,_,_,rfl,rfl,⟨by decide,by decide⟩,_,rfl,_,_,rfl,rfl,hn,?_⟩;exact k _ _ (Int.emod_nonneg _ (by omega)) (Int.emod_lt_of_pos _ hn) same λ q _=>rfl
theorem l6(hm:M p=some (.lst (aae a b c ns)))(ha:0<=a)(hb:0<=b)(hb2:b<2147483647)(hc:0<=c)(hcell:0<=cell)
  (k:∀ a' b' c' M',0<=a'->0<=b'->b'<2147483647->0<=c'->M' p=some (.lst (aae a' b' c' ns))->(∀ q,q≠p->M' q=M q)->D.nx [some (.m p),some (.d (.int n)),some (.d (.int cell)),none,none,none] M') :
  (bI (aaQ (au 0) (dC (.d (.int 2))) (dC (.d (.int 1))) (λ i j=>i+j)) <|
   bI (dIf (bH (dOp aeB (au 2) (dC (.d (.int 1000000000000000000)))))
    (cq (au 2) (aaZ (au 0) (dC (.d (.int 0)))))
    (cU)) <|
   cq (dOp d5 (dOp cI (dOp cI (dOp gC (dOp dP (au 0) (dC (.d (.int 1)))) (dC (.d (.int 48271)))) (dOp d5 (au 2) (dC (.d (.int 2147483647))))) (dOp gC (dC (.d (.int 7919))) (dOp dP (au 0) (dC (.d (.int 2)))))) (dC (.d (.int 2147483647)))) (aaZ (au 0) (dC (.d (.int 1)))))
   D [some (.m p),some (.d (.int n)),some (.d (.int cell)),none,none,none] M:=by
 refine⟨_,rfl,_,_,_,_,_,rfl,rfl,hm,rfl,rfl,_,rfl,rfl,?_⟩;have m1:bN M p (.lst (aae a b (c+1) ns)) p=some (.lst (aae a b (c+1) ns)):=ah;have f1:∀ q,q≠p->bN M p (.lst (aae a b (c+1) ns)) q=M q:=λ q hq=>aw hq;show(bI _ _) D _ (bN M p (.lst (aae a b (c+1) ns)));generalize bN M p (.lst (aae a b (c+1) ns))=M1 at m1 f1;have fin:∀ (a':Int) (M2:MH),0<=a'->M2 p=some (.lst (aae a' b (c+1) ns))->(∀ q,q≠p->M2 q=M q) ->
   cq (dOp d5 (dOp cI (dOp cI (dOp gC (dOp dP (au 0) (dC (.d (.int 1)))) (dC (.d (.int 48271)))) (dOp d5 (au 2) (dC (.d (.int 2147483647))))) (dOp gC (dC (.d (.int 7919))) (dOp dP (au 0) (dC (.d (.int 2)))))) (dC (.d (.int 2147483647)))) (aaZ (au 0) (dC (.d (.int 1)))) D [some (.m p),some (.d (.int n)),some (.d (.int cell)),none,none,none] M2:=by
  intro a' M2 ha' m2 f2;have i1:ixW M2 (.m p) 1=some (.d (.int b)):=adG m2 rfl;have i2:ixW M2 (.m p) 2=some (.d (.int (c+1))):=adG m2 rfl;refine⟨_,rfl,_,_,rfl,i1,rfl,_,_,rfl,rfl,.inl ⟨by omega,by omega⟩,_,rfl,_,_,rfl,rfl,(by decide:(0:Int)<2147483647),.inl ?_⟩;refine⟨_,_,rfl,rfl,_,rfl,_,_,rfl,i2,rfl,_,_,rfl,rfl,.inl ⟨by decide,by decide⟩,.inl ?_⟩;refine⟨_,_,rfl,rfl,_,_,rfl,rfl,(by decide:(0:Int)<2147483647),_,rfl,_,_,_,_,rfl,rfl,m2,rfl,?_⟩;exact k a' _ (c+1) _ ha' (Int.emod_nonneg _ (by decide)) (Int.emod_lt_of_pos _ (by decide)) (by omega) ah λ q hq=>(aw hq).trans (f2 q hq)
 refine⟨_,rfl,_,_,rfl,rfl,_,rfl,?_⟩;refine oP (λ h=>?_) (λ h=>?_)
 ·refine⟨_,rfl,_,rfl,_,_,_,_,rfl,rfl,m1,rfl,?_⟩;exact fin cell _ hcell ah λ q hq=>(aw hq).trans (f1 q hq)
 ·exact fin a M1 ha m1 f1
theorem qX:∀ ws M Q,ba ws M Q->rW {nx:=λ _ M'=>Q (.d .none) M',rt:=Q} (bw t8 ws) M:=by
 rintro ws M Q ⟨p,n,rfl,⟨a,b,c,ns,hm,ha,hb,hb2,hc,hns⟩,hn,hn2,k⟩;have i0:ixW M (.m p) 0=some (.d (.int a)):=adG hm rfl;have i2:ixW M (.m p) 2=some (.d (.int c)):=adG hm rfl;have i3:ixW M (.m p) 3=some (.d (.list (ns.map PyData.int))):=adG hm rfl;refine⟨_,rfl,_,_,rfl,i0,rfl,_,_,rfl,rfl,rfl,_,rfl,?_⟩;refine oP (λ h=>?_) (λ h=>?_)
 ·refine⟨_,rfl,_,_,rfl,i2,rfl,_,rfl,_,_,rfl,i3,rfl,_,_,rfl,rfl,rfl,_,_,rfl,rfl,_,rfl,?_⟩;refine oP (λ h=>?_) (λ h=>?_)
  ·have hlt:c<((ns.map PyData.int).length:Nat):=of_decide_eq_true h;have hlt':c.toNat<ns.length:=by rw[List.length_map] at hlt;omega
   have ic:ixW M (.d (.list (ns.map PyData.int))) c=some (.d (.int (ns[c.toNat]'hlt'))):=by simp only[ixW];rw[abf hc hlt];simp
   refine⟨_,rfl,_,_,rfl,i3,rfl,_,rfl,_,_,rfl,i2,rfl,_,_,rfl,ic,rfl,?_⟩;refine l6 (cell:=ns[c.toNat]'hlt') hm ha hb hb2 hc (hns _ (List.getElem_mem _)) λ a' b' c' M' h1 h2 h3 h4 h5 h6=>?_;exact iB (x:=some (.d (.int (ns[c.toNat]'hlt')))) h5 h1 h2 h3 h4 hns hn hn2 (λ r M'' r0 r1 bg fr=>k r M'' r0 r1 bg λ q hq=>(fr q hq).trans (h6 q hq)) rfl
  ·refine l6 (cell:=0) hm ha hb hb2 hc (Int.le_refl 0) λ a' b' c' M' h1 h2 h3 h4 h5 h6=>?_;exact iB (x:=some (.d (.int 0))) h5 h1 h2 h3 h4 hns hn hn2 (λ r M'' r0 r1 bg fr=>k r M'' r0 r1 bg λ q hq=>(fr q hq).trans (h6 q hq)) rfl
 ·exact iB (x:=none) hm ha hb hb2 hc hns hn hn2 k rfl
theorem xr{ws:List W}{i:Nat}(h:ws[i]? =some w):(ws.take (i+1)).filterMap f=(ws.take i).filterMap f++(f w).toList:=by rw[List.take_add_one,h,List.filterMap_append];cases e:f w<;>simp[e]
theorem aej{tt:TTd}{te:TD}{fr:List Nat}{τ:DS}{M:MH}{Q:List PyData->MH->Prop}{ws:List W}(f:W->Option PyData)(hl:ws.length<=sizeLine)
  (step:∀ w∈ws,∀ P':Option PyData->Prop,P' (f w)->tt (some w::fr.map λ j=>(τ[j]?).getD none) M λ b M3=>if b=true then te (some w::fr.map λ j=>(τ[j]?).getD none) M3 λ y M4=>∃ d,y=.d d/\M4=M/\P' (some d) else M3=M/\P' none)
  (q:Q (ws.filterMap f) M):∃ P:Nat->List PyData->DS->MH->Prop,P 0 [] (aaF 1 fr τ) M /\
   (∀ i w acc τ M,ws[i]? =some w->P i acc τ M->acc.length<sizeLine/\gN 0 w τ M λ τ2 M2=>tt τ2 M2 λ b M3=>if b=true then te τ2 M3 λ y M4=>∃ d,y=.d d/\P (i+1) (acc++[d]) τ2 M4 else P (i+1) acc τ2 M3) /\
   ∀ acc τ M,P ws.length acc τ M->Q acc M:=by
 let Pk:Nat->List PyData->DS->Prop:=λ i acc τ'=>i<=ws.length/\acc=(ws.take i).filterMap f/\∃ x,τ'=x::fr.map λ j=>(τ[j]?).getD none
 refine⟨λ i acc τ' M'=>M'=M/\Pk i acc τ',⟨rfl,Nat.zero_le _,rfl,none,rfl⟩,λ i w acc τ' M' hw hp=>?_,λ acc τ' M' hp=>?_⟩
 ·obtain⟨rfl,hi,rfl,x,rfl⟩:=hp;have hlt:i<ws.length:=(List.getElem?_eq_some_iff.mp hw).1;refine⟨?_,step w (List.mem_of_getElem? hw) (λ o=>match o with
   | some d=>Pk (i+1) ((ws.take i).filterMap f++[d]) (some w::fr.map λ j=>(τ[j]?).getD none)
   | none=>Pk (i+1) ((ws.take i).filterMap f) (some w::fr.map λ j=>(τ[j]?).getD none)) ?_⟩
  ·have h1:=List.length_filterMap_le f (ws.take i);rw[List.length_take] at h1;omega
  ·cases e:f w with
   | some d=>exact⟨hlt,by rw[xr hw,e];rfl,_,rfl⟩
   | none=>exact⟨hlt,by rw[xr hw,e];simp,_,rfl⟩
 ·obtain⟨rfl,hi,rfl,x,rfl⟩:=hp;rw[List.take_of_length_le (Nat.le_refl _)];exact q
theorem agH{α:Type}(g:α->W)(f:W->Option PyData)(h:α->PyData)(e:∀ a,f (g a)=some (h a))(l:List α):(l.map g).filterMap f=l.map h:=by
 induction l with
 | nil=>rfl
 | cons a l ih=>rw[List.map_cons,List.filterMap_cons,e,ih];rfl
theorem uM:∀ ws M Q,dY ws M Q->wY {nx:=λ _ M'=>Q (.d .none) M',rt:=Q} (bw zi ws) M:=by
 rintro ws M Q ⟨ns,rfl,hl,k⟩;refine⟨_,rfl,_,rfl,_,rfl,rfl,_,rfl,?_⟩;have ec:cutD (ns.map PyData.int) none (some 63)=(cutD ns none (some 63)).map PyData.int:=by simp only[cutD,List.length_map,List.map_take,List.map_drop]
 have hlen:(cutD ns none (some 63)).length<=ns.length:=by simp only[cutD,List.length_take,List.length_drop];omega
 have h1000:(1000:Nat)<=sizeLine:=by rw[sizeLine_eq];decide
 dsimp only;refine aej (λ w=>match w with
  | .d (.int n)=>some (.int (if n<0 then -n else n))
  | _=>none) ?hl (λ w hw P' hp=>?_) ?_
 case hl=>rw[List.length_map,ec,List.length_map];omega
 ·rw[ec,List.map_map] at hw;obtain⟨n,_,rfl⟩:=List.mem_map.mp hw;exact⟨_,rfl,_,rfl,_,rfl,rfl,hp⟩
 ·have e2:(List.map W.d (cutD (ns.map PyData.int) none (some 63))).filterMap (λ w=>match w with
    | .d (.int n)=>some (PyData.int (if n<0 then -n else n))
    | _=>none)=((cutD ns none (some 63)).map λ n=>if n<0 then -n else n).map PyData.int:=by
   rw[ec,List.map_map,agH (W.d ∘ PyData.int) _ (λ n=>PyData.int (if n<0 then -n else n)) (λ n=>rfl),List.map_map];rfl
  rw[e2];refine⟨by simp[sizeLine_eq],λ p hp=>k p _ hp (λ q hq=>aw hq) ⟨0,1234567891,0,_,ah,Int.le_refl 0,by decide,by decide,Int.le_refl 0,λ n hn=>?_⟩⟩;obtain⟨m,_,rfl⟩:=List.mem_map.mp hn
  split<;>omega
def acp(z:Str):Bool:=z.cps.all (·<128)
mutual
def big:PyData->Nat
 | .none=>4
 | .bool _=>5
 | .int _=>2000
 | .str z=>10 * z.length+2
 | .list ds=>acv ds+2
 | .tuple ds=>acv ds+3
 | .dict kvs=>aeX kvs+2
def acv:List PyData->Nat
 | []=>0
 | d::ds=>big d+2+acv ds
def aeX:List (PyData×PyData)->Nat
 | []=>0
 | (k,d)::ds=>big k+2+big d+2+aeX ds
end
mutual
def fj:PyData->Bool
 | .none=>true
 | .bool _=>true
 | .int i=>decide (i.natAbs.log2<1920)
 | .str z=>acp z
 | .list ds=>lz ds
 | .tuple ds=>lz ds
 | .dict kvs=>vh kvs
def lz:List PyData->Bool
 | []=>true
 | d::ds=>fj d&&lz ds
def vh:List (PyData×PyData)->Bool
 | []=>true
 | (k,d)::ds=>fj k&&fj d&&vh ds
end
theorem rM:∀ ts:List Str,(listText ts).length<=piled ts+2
 | []=>by decide +kernel
 | t::r=>by
  have h:=textFrom_length_pos r 1 (("[" : Str)++(if (0:Nat) > 0 then ", " else "" : String)++t) (Nat.succ_pos 0);have e:((("[" : Str)++(if (0:Nat) > 0 then ", " else "" : String)++t)).length=1+t.length:=by rw[strLen_append,strLen_append];rfl
  have hX:(listText (t::r)).length=(textFrom 0 "[" (t::r)).length+1:=by show(textFrom 0 "[" (t::r) ++ "]").length=_;rw[strLen_append];rfl
  have h2:(textFrom 0 "[" (t::r)).length=(1+t.length)+piled r:=by rw[<- e];exact h
  have h3:piled (t::r)=t.length+2+piled r:=by simp[piled]
  omega
theorem join_le(ts:List Str):(Str.join ", " ts).length<=piled ts:=by
 cases ts with
 | nil=>decide +kernel
 | cons t r=>have:=join_length_add (t::r) (by simp);omega
theorem oq(ts:List Str):(tupleText ts).length<=piled ts+3:=by
 unfold tupleText;rw[strLen_append,strLen_append];have e1:((("(" : String):Str)).length=1:=rfl;have e3:(((if ts.length==1 then ",)" else ")" : String):Str)).length<=2:=by split<;>decide
 have:=join_le ts;omega
theorem qC(ts:List Str):(dictText ts).length<=piled ts+2:=by
 unfold dictText;rw[strLen_append,strLen_append];have e1:((("{" : String):Str)).length=1:=rfl;have e2:((("}" : String):Str)).length=1:=rfl;have:=join_le ts;omega
theorem adv{i:Int}(h:i.natAbs.log2<1920):(Str.ofString (toString i)).length<=2000:=by have e:=int_text_length_le (k:=1920) (by decide) h;rw[PySem.ofString_length];omega
theorem repr_len(h:acp z=true):(reprText z).length<=10 * z.length+2:=StrLaws.reprText_len z λ c hc=>by
 have:=Array.all_eq_true_iff_forall_mem.mp h c (by simpa using hc);have h2:c<128:=by simpa using this
 omega
mutual
theorem shown_le:∀ d:PyData,fj d=true->d.shown.length<=big d
 | .none,_=>by rw[PyData.shown];decide +kernel
 | .bool b,_=>by rw[PyData.shown];cases b<;>decide +kernel
 | .int i,h=>by rw[PyData.shown];exact adv (by simpa [fj] using h)
 | .str z,h=>by rw[PyData.shown,big];exact repr_len (by simpa [fj] using h)
 | .list ds,h=>by have h1:=jI ds (by simpa [fj] using h);have h2:=rM (PyData.shownAll ds);rw[PyData.shown,big];omega
 | .tuple ds,h=>by have h1:=jI ds (by simpa [fj] using h);have h2:=oq (PyData.shownAll ds);rw[PyData.shown,big];omega
 | .dict ds,h=>by have h1:=oj ds (by simpa [fj] using h);have h2:=qC (PyData.shownKv ds);rw[PyData.shown,big];omega
theorem jI:∀ ds:List PyData,lz ds=true->piled (PyData.shownAll ds)<=acv ds
 | [],_=>by simp[PyData.shownAll,piled,acv]
 | d::ds,h=>by simp only[lz,Bool.and_eq_true] at h;have h1:=shown_le d h.1;have h2:=jI ds h.2;simp only[PyData.shownAll,piled_cons,acv];omega
theorem oj:∀ ds:List (PyData×PyData),vh ds=true->piled (PyData.shownKv ds)<=aeX ds
 | [],_=>by simp[PyData.shownKv,piled,aeX]
 | (k,d)::ds,h=>by simp only[vh,Bool.and_eq_true] at h;have h1:=shown_le k h.1.1;have h3:=shown_le d h.1.2;have h2:=oj ds h.2;have e:((((": " : String):Str))).length=2:=rfl;simp only[PyData.shownKv,piled_cons,aeX,strLen_append,e];omega
end
mutual
theorem g9:∀ d:PyData,fj d=true->d.showable=true
 | .none,_=>by simp[PyData.showable]
 | .bool b,_=>by simp[PyData.showable]
 | .int i,h=>by simpa [PyData.showable,fj] using h
 | .str z,h=>by simp[PyData.showable]
 | .list ds,h=>by simpa [PyData.showable] using iT ds (by simpa [fj] using h)
 | .tuple ds,h=>by simpa [PyData.showable] using iT ds (by simpa [fj] using h)
 | .dict ds,h=>by simpa [PyData.showable] using mj ds (by simpa [fj] using h)
theorem iT:∀ ds:List PyData,lz ds=true->PyData.showableAll ds=true
 | [],_=>by simp[PyData.showableAll]
 | d::ds,h=>by simp only[lz,Bool.and_eq_true] at h;simp[PyData.showableAll,g9 d h.1,iT ds h.2]
theorem mj:∀ ds:List (PyData×PyData),vh ds=true->PyData.showableKv ds=true
 | [],_=>by simp[PyData.showableKv]
 | (k,d)::ds,h=>by simp only[vh,Bool.and_eq_true] at h;simp[PyData.showableKv,g9 k h.1.1,g9 d h.1.2,mj ds h.2]
end
theorem s16:(1000000:Nat)<=sizeLine:=by rw[sizeLine_eq];decide
theorem ad1(h:fj d=true)(hb:big d<=1000000)(hd:d.depth<=60)(hk:d.hasDict=false):fG d=true:=by have h1:=g9 d h;have h2:=shown_le d h;have h3:=s16;simp only[fG,h1,Bool.true_and,Bool.and_eq_true,decide_eq_true_eq,Bool.or_eq_true,Bool.not_eq_true'];exact⟨⟨by omega,hd⟩,.inl hk⟩
end D
namespace D
open L2
def Asc(z:Str):Prop:=∀ c∈z.cps.toList,c<128
theorem str_len(z:Str):z.cps.toList.length=z.length:=by simp[Str.length]
theorem adY(h:z.cps.all (·<128)=true):Asc z:=by
 intro c hc;have:=Array.all_eq_true_iff_forall_mem.mp h c (by simpa using hc)
 simpa using this
theorem log2_small(h:n<2 ^ 100):n.log2<1920:=by
 by_cases h0:n=0
 ·subst h0;decide
 ·exact Nat.lt_of_lt_of_le ((Nat.log2_lt h0).mpr h) (by decide)
theorem few(h:n<=1000):n<=sizeLine:=by have:=s16;omega
theorem Inv.swap(I:Inv X pins σ H s)(h:H a=some u)(n1:∀ xs,u ≠ .tup xs)(n2:∀ x,u ≠ .own x)(b1:∀ xs,X.H₀ a≠some (.tup xs))(b2:∀ o v,X.H₀ a≠some (.frz o v))(b3:∀ ps,X.H₀ a≠some (.tbl ps))
  (new:bY X.prog X.w (upd H a u') s.heap a u'):Inv X pins σ (upd H a u') s:=by
 have nn:∀ b,H b=none->b≠a:=λ b e z=>by rw[z,h] at e;cases e
 refine⟨I.ok,I.os,I.bare,⟨I.base.keep,I.base.slot,λ b ob q n x=>?_,I.base.there,λ b xs q=>?_,λ b ob v q=>?_,λ b ps q=>?_⟩,I.loc,I.cell,?_,λ x c q=>?_,λ p hp=>?_,λ b v q=>?_,I.len⟩
 ·have:=I.base.free b ob q n x;rw[aj (nn b this)];exact this
 ·rw[aj (λ z:b=a=>b1 xs (by rw[<- z];exact q))];exact I.base.lg b xs q
 ·rw[aj (λ z:b=a=>b2 ob v (by rw[<- z];exact q))];exact I.base.frzs b ob v q
 ·rw[aj (λ z:b=a=>b3 ps (by rw[<- z];exact q))];exact I.base.tbls b ps q
 ·rw[aj (nn _ I.free)];exact I.free
 ·have:=I.freeC x c q;rw[aj (nn c this)];exact this
 ·obtain⟨p1,p2,p3⟩:=I.pin p hp;exact⟨p1,by rw[aj (nn _ p2)];exact p2,p3⟩
 ·by_cases hb:b=a
  ·subst hb;rw[aq] at q;cases q;exact new
  ·rw[aj hb] at q;refine(I.hok b v q).qh (λ _ _ _ q=>q) (λ c r=>?_) λ c xs r=>?_
   ·rw[aj (λ z=>by rw[z,h] at r;exact n2 _ (Option.some.inj r))];exact r
   ·rw[aj (λ z=>by rw[z,h] at r;exact n1 _ (Option.some.inj r))];exact r
theorem iD(I:Inv X pins σ H s)(h:H a=some (.dK l)):(∀ xs,X.H₀ a≠some (.tup xs))/\(∀ o v,X.H₀ a≠some (.frz o v))/\∀ ps,X.H₀ a≠some (.tbl ps):=by
 refine⟨λ xs e=>?_,λ o v e=>?_,λ ps e=>?_⟩
 ·have:=I.base.lg a xs e;rw[h] at this;cases this
 ·have:=I.base.frzs a o v e;rw[h] at this;cases this
 ·obtain⟨m,this⟩:=I.base.tbls a ps e;rw[h] at this;cases this
theorem Inv.wc(I:Inv X pins σ H s)(h:H a=some (.dK l)):∃ o,Inv X pins σ (upd H a (.frz o (.frz o (.dK l)))) s:=by have f:Fz (.dK l):=trivial;obtain⟨o,ho⟩:=(I.hok a _ h).obj f;obtain⟨b1,b2,b3⟩:=iD I h;exact⟨o,Inv.swap I h (λ _ z=>nomatch z) (λ _ z=>nomatch z) b1 b2 b3 ⟨ho,ho,(I.hok a _ h).ahI f⟩⟩
theorem Inv.again(I0:Inv X pins σ0 H0 s0)(h0:H0 a=some (.dK l))(I:Inv X pins σ H s)(h:H a=some (.frz o (.frz o (.dK l)))):Inv X pins σ (upd H a (.dK l)) s:=by have f:Fz (.dK l):=trivial;obtain⟨b1,b2,b3⟩:=iD I0 h0;exact Inv.swap I h (λ _ z=>nomatch z) (λ _ z=>nomatch z) b1 b2 b3 ((I.hok a _ h).2.2.ahI f)
def afA(t:TE):TE:=λ σ H Q=>∃ a l,H a=some (.dK l)/\∀ o,t σ (upd H a (.frz o (.frz o (.dK l)))) λ v H'=>H' a=some (.frz o (.frz o (.dK l)))/\Q v (upd H' a (.dK l))
theorem aay(h:PE X e t):PE X e (afA t):=by intro pins s σ H Q I ⟨a,l,ha,q⟩;obtain⟨o,I1⟩:=Inv.wc I ha;exact thn (h pins s σ _ _ I1 (q o)) λ v s1 ⟨x,H',I2,r,e,q2⟩=>⟨x,_,Inv.again I ha I2 e,r,q2⟩
section
variable {K:FG}{H:Hp}{a:Addr}{o:Obj}{l:List (Key×V)}
theorem Kp.back(h:H a=some (.frz o (.frz o (.dK l)))):(∀ b xs,H b=some (.tup xs)->upd H a (.dK l) b=some (.tup xs))/\(∀ b ob ys,H b=some (.frz ob (.lst ys))->upd H a (.dK l) b=some (.frz ob (.lst ys)))/\∀ b ob ys,H b=some (.frz ob (.dK ys))->upd H a (.dK l) b=some (.frz ob (.dK ys)):=by
 refine⟨λ b xs e=>?_,λ b ob ys e=>?_,λ b ob ys e=>?_⟩<;>
 ·rw[aj (λ z=>by rw[z,h] at e;cases e)];exact e
theorem SqT.back(h:H a=some (.frz o (.frz o (.dK l))))(r:SqT K H b vs):SqT K (upd H a (.dK l)) b vs:=by
 rcases r with (r | ⟨ob,r⟩) | r
 ·exact .inl (.inl ((Kp.back h).1 _ _ r))
 ·refine .inl (.inr ⟨ob,?_⟩);rw[aj (λ z=>by rw[z,h] at r;cases r)];exact r
 ·exact .inr r
theorem SqF.back(h:H a=some (.frz o (.frz o (.dK l))))(r:SqF K H b vs):SqF K (upd H a (.dK l)) b vs:=by
 rcases r with ⟨ob,r⟩ | r
 ·exact .inl ⟨ob,(Kp.back h).2.1 _ _ _ r⟩
 ·exact .inr r
mutual
theorem ay.back(h:H a=some (.frz o (.frz o (.dK l)))):∀ {d:PyData} {v:V},ay K H d v->ay K (upd H a (.dK l)) d v
 | .none,v,r=>by simp only[ay] at r ⊢;exact r
 | .bool b,v,r=>by simp only[ay] at r ⊢;exact r
 | .int i,v,r=>by simp only[ay] at r ⊢;exact r
 | .str x,v,r=>by simp only[ay] at r ⊢;exact r
 | .list ds,v,r=>by simp only[ay] at r ⊢;obtain⟨b,vs,e,q,r⟩:=r;exact⟨b,vs,e,SqF.back h q,aT.back h r⟩
 | .tuple ds,v,r=>by simp only[ay] at r ⊢;obtain⟨b,vs,e,q,r⟩:=r;exact⟨b,vs,e,SqT.back h q,aT.back h r⟩
 | .dict kvs,v,r=>by simp only[ay] at r ⊢;obtain⟨b,ob,m,e,q,r⟩:=r;exact⟨b,ob,m,e,(Kp.back h).2.2 _ _ _ q,k9.back h r⟩
theorem aT.back(h:H a=some (.frz o (.frz o (.dK l)))):∀ {ds:List PyData} {vs:List V},aT K H ds vs->aT K (upd H a (.dK l)) ds vs
 | [],vs,r=>by simp only[aT] at r ⊢;exact r
 | d::ds,vs,r=>by simp only[aT] at r ⊢;obtain⟨v,q,e,h1,h2⟩:=r;exact⟨v,q,e,ay.back h h1,aT.back h h2⟩
theorem k9.back(h:H a=some (.frz o (.frz o (.dK l)))):∀ {ds:List (PyData×PyData)} {m:List (Key×V)},k9 K H ds m->k9 K (upd H a (.dK l)) ds m
 | [],m,r=>by simp only[k9] at r ⊢;exact r
 | (key,d)::ds,m,r=>by simp only[k9] at r ⊢;obtain⟨k',v,q,e,ek,h1,h2⟩:=r;exact⟨k',v,q,e,ek,ay.back h h1,k9.back h h2⟩
end
theorem aB.back(h:H a=some (.frz o (.frz o (.dK l)))):∀ {w:W} {v:V},aB K H w v->aB K (upd H a (.dK l)) w v
 | .d _,_,r=>ay.back h r
 | .m _,_,r=>r
 | .t _,_,r=>r
theorem cf.back(h:H a=some (.frz o (.frz o (.dK l))))(m:cf K H M)(e:M a=some (.fdic kvs)):cf K (upd H a (.dK l)) (bN M a (.dic kvs)):=λ b mo q=>by
 by_cases hb:b=a
 ·subst hb;rw[ah] at q;cases q;obtain⟨o',l',e',pr⟩:=m _ _ e;rw[h] at e';cases e';exact⟨l,aq,Paired.iu pr λ p q z=>⟨z.1,aB.back h z.2⟩⟩
 ·rw[aw hb] at q;have r:=m b mo q;cases mo with
  | lst ws=>obtain⟨vs,e,r⟩:=r;exact⟨vs,by rw[aj hb];exact e,Paired.iu r λ _ _ z=>aB.back h z⟩
  | dic kvs=>obtain⟨l,e,r⟩:=r;exact⟨l,by rw[aj hb];exact e,Paired.iu r λ p q z=>⟨z.1,aB.back h z.2⟩⟩
  | dct kvs=>obtain⟨l,e,r⟩:=r;exact⟨l,by rw[aj hb];exact e,Paired.iu r λ p q z=>⟨z.1,aB.back h z.2⟩⟩
  | fdic kvs=>obtain⟨o,l,e,r⟩:=r;exact⟨o,l,by rw[aj hb];exact e,Paired.iu r λ p q z=>⟨z.1,aB.back h z.2⟩⟩
  | ins C fs=>obtain⟨dx,l,e,r⟩:=r;exact⟨dx,l,by rw[aj hb];exact e,Paired.iu r λ p q z=>⟨z.1,aB.back h z.2⟩⟩
  | tup ws=>obtain⟨vs,e,r⟩:=r;exact⟨vs,by rw[aj hb];exact e,Paired.iu r λ _ _ z=>aB.back h z⟩
  | flst ws=>obtain⟨o,vs,e,r⟩:=r;exact⟨o,vs,by rw[aj hb];exact e,Paired.iu r λ _ _ z=>aB.back h z⟩
  | exc C fs =>
   obtain⟨φ,dct,e,p,r⟩:=r;refine⟨φ,dct,by rw[aj hb];exact e,p,?_⟩;rcases r with r | ⟨dx,o',l',e1,e2,r⟩
   ·exact .inl r
   ·exact .inr ⟨dx,o',l',e1,by rw[aj (λ z=>by rw[z,h] at e2;cases e2)];exact e2,Paired.iu r λ p q z=>⟨z.1,aB.back h z.2⟩⟩
  | code q pos =>
   obtain⟨ps,e,ht,hc⟩:=r;refine⟨ps,by rw[aj hb];exact e,ht,?_⟩;rcases hc with hc | ⟨c,o',vs,t,e1,e2,e3⟩
   ·exact .inl hc
   ·exact .inr ⟨c,o',vs,t,e1,by rw[aj (λ z=>by rw[z,h] at e2;cases e2)];exact e2,e3⟩
end
def jY(t:TD)(τ:DS)(M:MH)(Q:QD):Prop:=∃ a kvs,M a=some (.dic kvs)/\t τ (bN M a (.fdic kvs)) λ v M'=>M' a=some (.fdic kvs)/\Q v (bN M' a (.dic kvs))
theorem aad(h:PD X e t):PD X e (jY t):=fN (aay h) λ σ H Q hq69=>by
 obtain⟨τ,M,Qd,A,⟨a,kvs,hm,q⟩,k⟩:=hq69;obtain⟨l,e,pr⟩:=A.mem _ _ hm;refine⟨a,l,e,λ o=>?_⟩;have kp:Kp H (upd H a (.frz o (.frz o (.dK l)))):=Kp.set e (λ _ z=>nomatch z) (λ _ _ z=>nomatch z);have m1:cf X.K (upd H a (.frz o (.frz o (.dK l)))) (bN M a (.fdic kvs)):=A.mem.put (mo:=.fdic kvs) kp ⟨o,l,aq,Paired.iu pr λ p q z=>⟨z.1,z.2.keep kp⟩⟩;refine⟨τ,_,_,A.go kp m1,q,λ v H' w M' kp' r' m' hq70=>?_⟩;obtain⟨h1,q1⟩:=hq70;have e':=kp'.frz a o _ aq;refine⟨e',k _ _ w _ ⟨λ b xs z=>?_,λ b ob u z=>?_⟩ (aB.back e' r') (cf.back e' m' h1) q1⟩
 ·have hb:b≠a:=λ y=>by rw[y,e] at z;cases z
  rw[aj hb];exact kp'.tup b xs (by rw[aj hb];exact z)
 ·have hb:b≠a:=λ y=>by rw[y,e] at z;cases z
  rw[aj hb];exact kp'.frz b ob u (by rw[aj hb];exact z)
def jD(_:Ed)(_:DS)(_:MH):Prop:=False
end D
namespace D
open L2
theorem Inv.abx{D:Addr}{ys:List V}{us:List Value}{n:Nat}(I:Inv X pins σ H s)(e:s.heap.get? D=some {cls:=.type "tuple",data:=.seq us.toArray n})(hn:H D=none)(hv:Vals ys us)(hz:ys.length<=sizeLine)
  (h0:D∈X.ex\/X.s₀.heap.objs.size<=D)(hL:D≠X.env.locals)(hc:∀ x c,X.env.cells.lookup x=some c->c≠D)(hp:∀ p∈X.pn++pins,p.1≠D):Inv X pins σ (upd H D (.tup ys)) s:=by
 have ne:∀ b u,H b=some u->b≠D:=λ b u q=>aF q hn;refine I.step (h':=s.heap) (g':=s.gens) (d':=s.drawn) (t':=s.toks) (ch:=[D]) (λ b hb=>?_) (λ b o _ _ _ q _=>q) (λ b o _ _ _ q _=>⟨o.slots,q⟩) (λ b o hb q n=>?_) (λ b o _ q=>⟨o,q⟩)
  (λ b xs q=>by rw[aj (ne b _ q)];exact q) (λ b o u q=>by rw[aj (ne b _ q)];exact q) (λ b ps q=>⟨#[],by rw[aj (ne b _ q),q];simp⟩) (λ m hm=>hm) (λ b u q=>?_) I.bare
 ·have e:b=D:=by simpa using hb
  subst e;exact⟨h0,hL,hc,hp⟩
 ·rw[aj (λ z=>hb (by simp[z]))];exact n
 ·by_cases hb:b=D
  ·subst hb;rw[aq] at q;cases q;exact⟨hz,us,hv,⟨_,e,rfl,rfl,n,rfl⟩⟩
  ·rw[aj hb] at q;exact(I.hok b u q).qh (λ _ _ _ q=>q) (λ c r=>by rw[aj (ne c _ r)];exact r) λ c xs r=>by rw[aj (ne c _ r)];exact r
abbrev kN(o:Obj)(l:List (Key×V)):HO:=.frz o (.frz o (.dK l))
theorem eL{P:Program}{w:World}{H:Hp}{h:Heap}{a:Addr}{o:Obj}{l:List (Key×V)}(ok:HOk P w H h)(e:H a=some (kN o l)):(a==sysModules)=false/\∃ vs es ep,KV l vs/\o.data=.dict es ep/\h.DictAt (aN P w) a vs ep:=by obtain⟨ho,_,z,hd,vs,rel,o',es,ep,h1,h2,h3,h4⟩:=ok a _ e;rw[ho] at h1;cases h1;exact⟨hd,vs,es,ep,rel,h3,o,es,ho,h2,h3,h4⟩
def Itd(a:Addr)(o:Obj)(l:List (Key×V)):It:=
 ⟨λ i H=>H a=some (kN o l)/\i<l.length,λ i H x H'=>∃ T kv,l[i]? =some kv/\H T=none/\x=.ref T/\H'=upd H T (.tup [kV kv.1,kv.2]),λ i H=>H a=some (kN o l)/\l.length<=i⟩
def Itk(a:Addr)(o:Obj)(l:List (Key×V)):It:=
 ⟨λ i H=>H a=some (kN o l)/\i<l.length,λ i H x H'=>H'=H/\∃ kv,l[i]? =some kv/\x=kV kv.1,λ i H=>H a=some (kN o l)/\l.length<=i⟩
theorem aeC{κ:Type}[DecidableEq κ]{l:List (κ×V)}{vs:List (κ×Value)}(r:KV l vs){i:Nat}(h:i<l.length):∃ kv k v,l[i]? =some kv/\vs[i]? =some (k,v)/\kv.1=k/\RelV kv.2 v:=by
 unfold KV at r
 induction r generalizing i with
 | nil=>simp at h
 | @cons p q ps qs hp t ih =>
  cases i with
  | zero=>exact⟨p,q.1,q.2,rfl,rfl,hp.1,hp.2⟩
  | succ i =>
   obtain⟨kv,k,v,e1,e2,e3,e4⟩:=ih (i:=i) (by simpa using h);exact⟨kv,k,v,by simpa using e1,by simpa using e2,e3,e4⟩
theorem abu{P:Program}{w:World}{k:Key}{u:Value}(h:(aN P w).is k u=true):RelV (kV k) u:=by
 cases k with
 | inl i =>
  have h':Value.isInt i u=true:=h;unfold Value.isInt at h'
  split at h'
  ·rename_i j t
   have:j=i:=by simpa using h'
   subst this;exact⟨t,rfl⟩
  ·cases h'
 | inr x =>
  have h':Value.isStrOf x u=true:=h;unfold Value.isStrOf at h'
  split at h'
  ·rename_i j t
   have:j=x:=by simpa using h'
   subst this;exact⟨t,rfl⟩
  ·cases h'
theorem rJ{P:Program}{w:World}{K:FG}{elts:List Expr}{x1:Nat}{tpos:Pos}(a it:Addr)(o:Obj)(l:List (Key×V))(es:Array DictEntry)(ep:Nat)(ho:o.data=.dict es ep) :
  Turn P w K (.Tuple elts x1 tpos) (Itd a o l) [it] it (λ i h=>∃ ok ov,IsItemIter h it a i l.length ep ok ov) where
 mem:=by simp
 obj:=λ i h st b hb=>by
  have e:b=it:=by simpa using hb
  subst e;obtain⟨ok,ov,st⟩:=st;exact⟨_,st,λ v z=>by cases z⟩
 keep:=λ i h h' ⟨ok,ov,st⟩ k=>⟨ok,ov,k it (by simp) _ st⟩
 item:=by
  intro X hP hw hK hc i pins s σ H E I hf ⟨ok,ov,st⟩ ⟨hg,hi⟩;subst hP hw hK;obtain⟨f0,f1,f2,f3,f4,f5⟩:=hf it (by simp);obtain⟨hd,vs,es',ep',rel,ho',da⟩:=eL I.hok hg;rw[ho] at ho';cases ho';obtain⟨kv,k,v,e1,e2,e3,e4⟩:=aeC rel hi;have hl:l.length=vs.length:=rel.length;rw[hl] at st;refine wpAny_pyNext_items_item st da e2 λ key h' hk st' ht hsz kp=>?_;refine⟨_,rfl,wpAny_letOwnedTupleGo_items st' λ h'' st'' sb=>?_⟩;have T:=I.nU (Nat.le_refl _) (I.hok.fresh (Nat.le_refl _));obtain⟨t0,t1,t2,t3,t4,t5⟩:=T;have hit:it<s.heap.objs.size:=Heap.lt_size st;have nT:s.heap.objs.size≠it:=Nat.ne_of_gt hit;have I1:Inv X pins σ H {s with heap:=h''}:=I.turned (t':=s.toks) (λ b ob hb e=>(sb.2 b hb).trans (kp b ob hb e)) f0 f1 f3 f4 f5;have eT:h''.get? s.heap.objs.size=some {cls:=.type "tuple",data:=.seq #[key,v]}:=(sb.2 _ nT).trans ht;have I2:=Inv.abx (us:=[key,v]) (ys:=[kV kv.1,kv.2]) I1 eT t0 (.cons (by rw[e3];exact abu hk) (.cons e4 .nil)) (by simp;have:=s16;omega) t3 t1 t4 t5;refine⟨.ref s.heap.objs.size,_,I2,rfl,⟨_,kv,e1,t0,rfl,rfl⟩,⟨_,_,by rw[hl];exact st''⟩,λ b hb=>?_⟩;have e:b=it:=by simpa using hb
  subst e;rw[aj nT.symm];exact f0
 done:=by intro X hP hw hK hc i pins s σ H E I hf ⟨ok,ov,st⟩ ⟨hg,hi⟩;subst hP hw hK;obtain⟨f0,f1,f2,f3,f4,f5⟩:=hf it (by simp);obtain⟨hd,vs,es',ep',rel,ho',da⟩:=eL I.hok hg;rw[ho] at ho';cases ho';have hl:l.length=vs.length:=rel.length;rw[hl] at st hi;exact wpAny_pyNext_items_end (I.ok.hd hc) st da (List.getElem?_eq_none hi) λ h' eb=>⟨rfl,I.turned (t':=s.toks) (λ b o hb e=>eb b o hb e) f0 f1 f3 f4 f5⟩
 self:=λ _ _ _ _ _ ⟨ok,ov,st⟩ h=>W.kcp_self st h
theorem uH{P:Program}{w:World}{K:FG}{tg:Expr}(a it:Addr)(o:Obj)(l:List (Key×V))(es:Array DictEntry)(ep:Nat)(ho:o.data=.dict es ep) :
  Turn P w K tg (Itk a o l) [it] it (λ i h=>h.IsKeyIter it a i l.length ep) where
 mem:=by simp
 obj:=λ i h st b hb=>by
  have e:b=it:=by simpa using hb
  subst e;obtain⟨o,e,c,d⟩:=st;exact⟨o,e,λ v z=>by rw[d] at z;cases z⟩
 keep:=λ i h h' ⟨o,e,c,d⟩ k=>⟨o,k it (by simp) _ e,c,d⟩
 item:=by intro X hP hw hK hc i pins s σ H E I hf st ⟨hg,hi⟩;subst hP hw hK;obtain⟨f0,f1,f2,f3,f4,f5⟩:=hf it (by simp);obtain⟨hd,vs,es',ep',rel,ho',da⟩:=eL I.hok hg;rw[ho] at ho';cases ho';obtain⟨kv,k,v,e1,e2,e3,e4⟩:=aeC rel hi;have hl:l.length=vs.length:=rel.length;rw[hl] at st;refine wpAny_pyNext_dict_item st da e2 λ key h' hk st' sb=>?_;have I1:Inv X pins σ H {s with heap:=h'}:=I.turned (t':=s.toks) (λ b o hb e=>(sb.2 b hb).trans e) f0 f1 f3 f4 f5;obtain⟨ob,e,c,d⟩:=id st';exact⟨_,rfl,uh (s:={s with heap:=h'}) e c d (by decide) ⟨kV kv.1,H,I1,by rw[e3];exact abu hk,⟨rfl,kv,e1,rfl⟩,by rw[hl];exact st',λ b hb=>(hf b hb).1⟩⟩
 done:=by intro X hP hw hK hc i pins s σ H E I hf st ⟨hg,hi⟩;subst hP hw hK;obtain⟨f0,f1,f2,f3,f4,f5⟩:=hf it (by simp);obtain⟨hd,vs,es',ep',rel,ho',da⟩:=eL I.hok hg;rw[ho] at ho';cases ho';have hl:l.length=vs.length:=rel.length;rw[hl] at st hi;exact wpAny_pyNext_dict_end (I.ok.hd hc) st da (List.getElem?_eq_none hi) λ h' eb=>⟨rfl,I.turned (t':=s.toks) (λ b o hb e=>eb b o hb e) f0 f1 f3 f4 f5⟩
 self:=λ _ _ _ _ _ st h=>wpAny_pyIter_keyiter st h
def adn(td:TE):TI:=λ σ H R=>td σ H λ x H1=>∃ a o l,x=.ref a/\H1 a=some (kN o l)/\R (Itd a o l) H1
theorem vF{elts:List Expr}{x1:Nat}{tpos:Pos}(ho:PE X o td)(hbase:attributeBase o "items" X.env (eval o X.env)=eval o X.env:=by rfl)(hline:(apos.endLine==cpos.line)=true:=by rfl) :
  PI X (.Tuple elts x1 tpos) (.Call (.Attribute o "items" apos) [] [] cpos) (adn td):=by
 intro pins s σ H R I h;refine wpAny_Call_method0_late hbase hline (thn (ho pins s σ H _ I h) λ v s1 hq71=>?_);obtain⟨x,H1,I1,r1,a,ob,l,ex,hg,q⟩:=hq71;subst ex;cases r1;obtain⟨hd,vs,es,ep,rel,hdat,da⟩:=eL I1.hok hg;have dd:s1.heap.DictOf (aN X.prog X.w) a vs:=let ⟨o,es,h⟩:=da; ⟨o,es,ep,h⟩;have hnd:∀ b,Value.ref a=.ref b->∃ ob,s1.heap.get? b=some ob/\ob.dict=none:=λ b e=>by
  cases e;obtain⟨oo,es',h1,h2,_⟩:=da;exact⟨oo,h1,h2.2.1⟩
 refine⟨"dict", "dict.items",PySem.F.plainAttrs_dict,PySem.F.slot_dict_items,PySem.F.type_dict_items,dd.typeIs,hnd,Calls.callWith_builtin rfl (PySem.evalArgs_none ?_)⟩;refine call_meetsIn PySem.F.slot_dict_items dd.typeIs PySem.F.entry_dict_items (PySem.F.args_dict_items_1 _) (meets_dict_items (aN X.prog X.w) a hd) ⟨⟨vs,dd⟩,?_⟩;have I2:Inv X pins σ H1 {s1 with heap:=s1.heap.push {cls:=.type "dict_items",data:=.fields #[.ref a]}}:=I1.kept (t':=s1.toks) λ b o e=>Heap.get?_push_of_some _ e;obtain⟨_,vs2,es2,ep2,rel2,hdat2,da2⟩:=eL I2.hok hg;rw[hdat] at hdat2;cases hdat2;refine wpAny_pyIter_items ⟨_,Heap.get?_push_size _ rfl,rfl,rfl⟩ da2 ?_;refine⟨_,[_],_,_,H1,rfl,I2.kept (t':=s1.toks) λ b o e=>Heap.get?_push_of_some _ e,rJ a _ ob l es ep hdat,⟨.none,.none,?_⟩,λ b hb=>?_,q⟩
 ·have:=Heap.get?_push_size (s1.heap.push {cls:=.type "dict_items",data:=.fields #[.ref a]}) (o:={cls:=.type "dict_itemiterator",data:=.fields #[.none,.bool false,.ref a,.int 0 0,.int (vs2.length:Nat) 0,.int (ep:Nat) 0,.none,.none]}) rfl;rw[rel2.length];exact this
 ·rw[List.mem_singleton] at hb;rw[hb];exact I2.nU (Nat.le_refl _) (I2.hok.fresh (Nat.le_refl _))
def afP(td:TE):TI:=λ σ H R=>td σ H λ x H1=>∃ a o l,x=.ref a/\H1 a=some (kN o l)/\R (Itk a o l) H1
theorem tq(ho:PE X o td):PI X tg o (afP td):=by
 intro pins s σ H R I h;refine thn (ho pins s σ H _ I h) λ v s1 hq72=>?_;obtain⟨x,H1,I1,r1,a,ob,l,ex,hg,q⟩:=hq72;subst ex;cases r1;obtain⟨hd,vs,es,ep,rel,hdat,da⟩:=eL I1.hok hg;refine wpAny_pyIter_dict hd da ?_;refine⟨_,[_],_,_,H1,rfl,I1.kept (t':=s1.toks) λ b o e=>Heap.get?_push_of_some _ e,uH a _ ob l es ep hdat,⟨_,Heap.get?_push_size _ rfl,rfl,?_⟩,λ b hb=>?_,q⟩
 ·rw[rel.length];rfl
 ·rw[List.mem_singleton] at hb;rw[hb];exact I1.nU (Nat.le_refl _) (I1.hok.fresh (Nat.le_refl _))
section
variable {X:Cx}{K:FG}{tg o:Expr}{apos cpos:Pos}{td:TD}
def lJ(kds:List (Key×PyData)):List W:=kds.map λ p=>.d (.tuple [qd p.1,p.2])
def cE(kds:List (Key×PyData)):List W:=kds.map λ p=>kW p.1
def aR(kds:List (Key×PyData)):List (Key×W):=kds.map λ p=>(p.1,.d p.2)
theorem ye{H:Hp}:∀ {kds:List (Key×PyData)} {l:List (Key×V)},Paired (λ(p:Key×W) (q:Key×V)=>p.1=q.1/\aB K H p.2 q.2) (aR kds) l->l.length=kds.length/\∀ (i:Nat) kv,l[i]? =some kv->∃ p,kds[i]? =some p/\p.1=kv.1/\ay K H p.2 kv.2
 | [],l,h=>by
  cases h;exact⟨rfl,λ i kv e=>by simp at e⟩
 | p::kds,l,h=>by
  cases h with
  | cons r t =>
   obtain⟨h1,h2⟩:=ye t;refine⟨by simp[h1],λ i kv e=>?_⟩;cases i with
   | zero =>
    simp at e;subst e;exact⟨p,rfl,r.1,r.2⟩
   | succ i =>
    obtain⟨p',e1,e2⟩:=h2 i kv (by simpa using e);exact⟨p',by simpa using e1,e2⟩
def rq(td:TD)(τ:DS)(M:MH)(R:List W->MH->Prop):Prop:=td τ M λ w M1=>∃ a kds,w=.m a/\M1 a=some (.fdic (aR kds))/\R (lJ kds) M1
theorem uZ{elts:List Expr}{x1:Nat}{tpos:Pos}(ho:PD X o td)(hbase:attributeBase o "items" X.env (eval o X.env)=eval o X.env:=by rfl)(hline:(apos.endLine==cpos.line)=true:=by rfl) :
  PId X (.Tuple elts x1 tpos) (.Call (.Attribute o "items" apos) [] [] cpos) (rq td):=abi (vF ho hbase hline) λ σ H R hq73=>by
 obtain⟨τ,M,Rd,A,h,k⟩:=hq73;refine⟨τ,M,_,A,h,λ v H1 w M1 kp r m hq74=>?_⟩;obtain⟨a,kds,ew,hm,q⟩:=hq74;subst ew;obtain⟨ob,l,e,pr⟩:=m _ _ hm;obtain⟨hlen,hget⟩:=ye pr;refine⟨a,ob,l,r,e,k _ H1 _ M1 kp m (λ H2 kp2 i=>?_) q⟩;have hlw:(lJ kds).length=l.length:=by rw[hlen];simp[lJ]
 have e2:=kp2.frz a ob _ e;refine⟨λ hi=>⟨e2,by omega⟩,λ hi=>⟨e2,by omega⟩,λ x H' hi hq75=>?_⟩;obtain⟨T,kv,hkv,hT,ex,eH⟩:=hq75;subst ex eH;obtain⟨p,e3,e4,e5⟩:=hget i kv hkv;have kpn:Kp H2 (upd H2 T (.tup [kV kv.1,kv.2])):=Kp.new hT;refine⟨kpn,λ M m=>m.new hT,.d (.tuple [qd p.1,p.2]),by simp[lJ,e3],?_⟩;simp only[aB,ay,aT];refine⟨T,_,rfl,.inl (.inl aq),_,_,rfl,?_,_,_,rfl,(e5.keep kp2).keep kpn,rfl⟩;rw[e4];cases kv.1<;>simp[qd,kV,ay]
def kQ(td:TD)(τ:DS)(M:MH)(R:List W->MH->Prop):Prop:=td τ M λ w M1=>∃ a kds,w=.m a/\M1 a=some (.fdic (aR kds))/\R (cE kds) M1
theorem yY(ho:PD X o td):PId X tg o (kQ td):=abi (tq ho) λ σ H R hq76=>by
 obtain⟨τ,M,Rd,A,h,k⟩:=hq76;refine⟨τ,M,_,A,h,λ v H1 w M1 kp r m hq77=>?_⟩;obtain⟨a,kds,ew,hm,q⟩:=hq77;subst ew;obtain⟨ob,l,e,pr⟩:=m _ _ hm;obtain⟨hlen,hget⟩:=ye pr;refine⟨a,ob,l,r,e,k _ H1 _ M1 kp m (λ H2 kp2 i=>?_) q⟩;have hlw:(cE kds).length=l.length:=by rw[hlen];simp[cE]
 have e2:=kp2.frz a ob _ e;refine⟨λ hi=>⟨e2,by omega⟩,λ hi=>⟨e2,by omega⟩,λ x H' hi hq78=>?_⟩;obtain⟨eH,kv,hkv,ex⟩:=hq78;subst ex eH;obtain⟨p,e3,e4,e5⟩:=hget i kv hkv;refine⟨Kp.refl _,λ M m=>m,kW p.1,by simp[cE,e3],?_⟩;rw[e4];cases kv.1<;>simp[kW,qd,kV,aB,ay]
end
theorem oU:∀ {zs:List Str} {its:List Value},Vals (zs.map V.str) its->StrsAre its zs
 | [],its,h=>by cases h;exact .nil
 | z::zs,its,h=>by
  cases h with
  | cons r t =>
   obtain⟨tk,e⟩:=(show ∃ t,_=Value.str z t from r);subst e;exact .cons z tk (oU t)
theorem kB:∀ {zs:List Str} {its:List Value},StrsAre its zs->Vals (zs.map V.str) its
 | _,_,.nil=>.nil
 | _,_,.cons y t h=>.cons ⟨t,rfl⟩ (kB h)
theorem ef:bootBuiltins "sorted" = some (.builtin "sorted"):=by decide +kernel
section
variable {X:Cx}{K:FG}
theorem i4:dk X (.builtin "sorted") (λ xs H Q=>∃ p zs,xs=[.ref p]/\SqL X.K H p (zs.map V.str)/\zs.length<64/\∀ zs',zs'.Perm zs->sortedS zs'=true->∀ l,H l=none->Q (.ref l) (upd H l (.lst (zs'.map V.str)))):=by
 intro pins s σ H xs us Q I r h;obtain⟨p,zs,rfl,hq,hz,q⟩:=h;obtain⟨u,rfl,rx⟩:=vals1 r;cases rx;obtain⟨its,rv,pl,_⟩:=I.list hq;have hl:=rv.length;rw[List.length_map] at hl;refine sorted_strs pl.isList (oU rv) (by omega) λ out zs' hs hp hso=>?_;obtain⟨n,e⟩:=sortedAll_at s.heap its out;have hfr:H (s.heap.objs.size+1)=none:=I.hok.fresh (Nat.le_succ _);refine⟨.ref _,_,I.laid (a:=s.heap.objs.size+1) (o:=.lst (zs'.map V.str)) (t':=s.toks) (λ b o z=>sortedAll_old z) (Nat.le_succ _) ⟨?_,out.toList,n,kB hs,?_⟩,rfl,q zs' hp hso _ hfr⟩
 ·rw[List.length_map,hp.length_eq];have:=s16;omega
 ·simpa using e
def qQ(ws:List W)(M:MH)(Q:QD):Prop:=∃ w zs,ws=[w]/\xx M w (zs.map PyData.str)/\zs.length<64/\∀ zs',zs'.Perm zs->sortedS zs'=true->∀ p,M p=none->Q (.m p) (bN M p (.lst (eD zs')))
theorem nW{H:Hp}:∀ {zs:List Str} {vs:List V},aT K H (zs.map PyData.str) vs->vs=zs.map V.str
 | [],vs,h=>by simpa [aT] using h
 | z::zs,vs,h=>by simp only[List.map_cons,aT] at h;obtain⟨v,r,e,h1,h2⟩:=h;simp only[ay] at h1;rw[e,h1,nW h2];rfl
theorem j7{H:Hp}:∀ (zs:List Str),bF K H (eD zs) (zs.map V.str)
 | []=>.nil
 | z::zs=>.cons (by simp[aB,ay]) (j7 zs)
theorem tL:eB K (λ xs H Q=>∃ p zs,xs=[.ref p]/\SqL K H p (zs.map V.str)/\zs.length<64/\∀ zs',zs'.Perm zs->sortedS zs'=true->∀ l,H l=none->Q (.ref l) (upd H l (.lst (zs'.map V.str)))) qQ:=by intro vs H ws M Qd Q r m ⟨w,zs,e,g,hz,q⟩ k;subst e;obtain⟨v,e1,r1⟩:=cZ r;obtain⟨p,ys,ev,hs,ra⟩:=g.sound r1 m;have ey:=nW ra;subst ev ey;refine⟨p,zs,e1,hs,hz,λ zs' h1 h2 l hl=>?_⟩;have kp:Kp H (upd H l (.lst (zs'.map V.str))):=Kp.new hl;exact k _ _ (.m l) _ kp rfl (m.put (mo:=.lst (eD zs')) kp ⟨_,aq,j7 zs'⟩) (q zs' h1 h2 l (m.free hl))
end
section
variable {X:Cx}{K:FG}
theorem dv:dk X (.builtin "isinstance") (λ xs H Q=>∃ x d T,xs=[x,.ty T]/\kz X.K H d x/\Ty6 T/\Q (.bl (jP d T)) H):=by
 intro pins s σ H xs us Q I r h;obtain⟨x,d,T,rfl,rd,h6,q⟩:=h;rcases rd with rd | ⟨a,vs,ds,rfl,rfl,ha,ra⟩
 ·exact yw pins s σ H _ us Q I r ⟨x,d,T,rfl,rd,h6,q⟩
 obtain⟨u,w',rfl,rx,ry⟩:=vals2 r;cases (show w'=Value.type T from ry);have e:=vS (K:=X.K) (.list ds) h6;have fin:∀ tk,EP X pins σ Q (.bool (jP (.list ds) T)) {s with toks:=tk}:=λ tk=>⟨.bl _,H,I.tok _,rfl,q⟩;generalize jP (.list ds) T=b at e fin;cases (show u=Value.ref a from rx);obtain⟨its,rv,⟨o,n,e1,e2,e3,e4⟩,hz⟩:=I.list (.inl (.inl ha));exact W.kia_one W.kitx_list I.kIn ⟨_,e1,e2⟩ e (λ z=>nomatch z) fin
def i9(ws:List W)(M:MH)(Q:QD):Prop:=∃ w d T,ws=[w,.t T]/\ux M w d/\Ty6 T/\Q (.d (.bool (jP d T))) M
theorem gw:eB K (λ xs H Q=>∃ x d T,xs=[x,.ty T]/\kz K H d x/\Ty6 T/\Q (.bl (jP d T)) H) i9:=by intro vs H ws M Qd Q r m ⟨w,d,T,e,g,h6,q⟩ k;subst e;obtain⟨v,v',e1,r1,r2⟩:=tX r;simp only[aB] at r2;subst r2;exact⟨v,d,T,e1,g.sound r1 m,h6,k _ H (.d (.bool _)) M (Kp.refl H) (by simp[aB,ay]) m q⟩
end
theorem hV(h:Jd (PD X e t)):Jd (PD X e (jY t)):=⟨D.aad (h:=h.h)⟩
theorem fR{st:Stmt}:Jd (PSd X st jD):=⟨λ pins s σ H D I ⟨τ,M,Dd,A,h,_⟩=>h.elim⟩
theorem qG(ho:Jd (PD X o td))(hbase:attributeBase o "items" X.env (eval o X.env)=eval o X.env:=by rfl)(hline:(apos.endLine==cpos.line)=true:=by rfl):Jd (PId X (.Tuple elts x1 tpos) (.Call (.Attribute o "items" apos) [] [] cpos) (rq td)):=⟨D.uZ (ho:=ho.h) (hbase:=hbase) (hline:=hline)⟩
theorem fX(ho:Jd (PD X o td)):Jd (PId X tg o (kQ td)):=⟨D.yY (ho:=ho.h)⟩
end D
namespace S
open PySem PySem.W PyProof.Rows
def go{α:Type}(lt:Nat->Nat->Bool):KasT α->α
 | .ret a=>a
 | .ask i j k=>go lt (k (lt i j))
theorem iy{α β:Type}(lt:Nat->Nat->Bool)(f:α->KasT β):∀ t:KasT α,go lt (t.bind f)=go lt (f (go lt t))
 | .ret _=>rfl
 | .ask i j k=>iy lt f (k (lt i j))
structure l9(lt:Nat->Nat->Bool):Prop where
 asym:∀ a b,lt a b=true->lt b a=false
 tr:∀ a b c,lt b a=false->lt c b=false->lt c a=false
theorem l9.irr(h:l9 lt)(a:Nat):lt a a=false:=by
 cases e:lt a a with
 | false=>rfl
 | true=>have:=h.asym a a e;rw[e] at this;cases this
theorem l9.aeb(h:l9 lt){a b c:Nat}(h1:lt a b=true)(h2:lt c b=false):lt a c=true:=by
 cases e:lt a c with
 | true=>rfl
 | false =>
  have:=h.tr b c a h2 e;rw[h1] at this;cases this
theorem l9.ahp(h:l9 lt){a b c:Nat}(h1:lt b a=false)(h2:lt b c=true):lt a c=true:=by
 cases e:lt a c with
 | true=>rfl
 | false =>
  have:=h.tr c a b e h1;rw[h2] at this;cases this
def B(lt:Nat->Nat->Bool)(a b:Nat):Prop:=lt a b=true\/(lt a b=false/\lt b a=false/\a<b)
theorem B.of_le{a b:Nat}(h:lt b a=false)(h2:a<b):B lt a b:=by
 cases e:lt a b with
 | true=>exact .inl e
 | false=>exact .inr ⟨e,h,h2⟩
theorem B.le(h:l9 lt){a b:Nat}(q:B lt a b):lt b a=false:=by
 rcases q with q | q
 ·exact h.asym _ _ q
 ·exact q.2.1
theorem B.tr(h:l9 lt){a b c:Nat}(q:B lt a b)(r:B lt b c):B lt a c:=by
 rcases q with q | ⟨q1,q2,q3⟩
 ·rcases r with r | ⟨r1,r2,r3⟩
  ·exact .inl (h.aeb q (h.asym _ _ r))
  ·exact .inl (h.aeb q r2)
 ·rcases r with r | ⟨r1,r2,r3⟩
  ·exact .inl (h.ahp q2 r)
  ·exact .inr ⟨h.tr _ _ _ r1 q1,h.tr _ _ _ q2 r2,by omega⟩
abbrev g(p:Array Nat)(i:Nat):Nat:=p.getD i 0
theorem vy(p:Array Nat)(i:Nat):g p i=(p[i]?).getD 0:=by simp[g]
theorem lh{p:Array Nat}{i j:Nat}(hj:j<=p.size)(k:Nat):g (kas_rev p i j) k=if i<=k/\k<j then g p (i+j-1-k) else g p k:=by
 rw[vy,vy,vy];unfold kas_rev;rw[getElem?_mirror_all hj k]
 split<;>rfl
theorem ahV{p:Array Nat}{k d:Nat}(hk:k<p.size)(hd:d<=k)(i:Nat):g (bubble p k d) i=if i=k-d then g p k else if k-d<i/\i<=k then g p (i-1) else g p i:=by
 rw[vy,vy,vy,vy,getElem?_bubble hk d hd i]
 split
 ·rfl
 ·split<;>rfl
structure Un(p:Array Nat)(N n:Nat):Prop where
 size:p.size=N
 lo:∀ i,i<n->g p i<n
 hi:∀ i,n<=i->i<N->g p i=i
theorem Un.rev{p:Array Nat}{N n i j:Nat}(u:Un p N n)(hj:j<=n)(hn:n<=N):Un (kas_rev p i j) N n:=by
 have hs:=u.size;refine⟨(mirror_size _ _ _ _).trans u.size,λ k hk=>?_,λ k hk hk2=>?_⟩
 ·rw[lh (by omega)]
  split
  ·exact u.lo _ (by omega)
  ·exact u.lo _ hk
 ·rw[lh (by omega),if_neg (by omega)];exact u.hi k hk hk2
theorem Un.up{p:Array Nat}{N n m:Nat}(u:Un p N n)(h:n<=m)(hm:m<=N):Un p N m:=by
 refine⟨u.size,λ k hk=>?_,λ k hk hk2=>u.hi k (by omega) hk2⟩
 by_cases z:k<n
 ·have:=u.lo k z;omega
 ·have:=u.hi k (by omega) (by omega);omega
theorem jk{p:Array Nat}{i j:Nat}{l:List Nat}(h:p.toList.Perm l):(kas_rev p i j).toList.Perm l:=(Array.perm_iff_toList_perm.mp (mirror_perm p i j _)).trans h
def Up(lt:Nat->Nat->Bool)(p:Array Nat)(n:Nat):Prop:=∀ i j,i<j->j<n->B lt (g p i) (g p j)
def Dn(lt:Nat->Nat->Bool)(p:Array Nat)(n:Nat):Prop:=∀ i j,i<j->j<n->B lt (g p j) (g p i)
theorem Up.succ(h:l9 lt){p:Array Nat}{n:Nat}(u:Up lt p n)(q:0<n->B lt (g p (n-1)) (g p n)):Up lt p (n+1):=by
 intro i j hij hj
 by_cases e:j<n
 ·exact u i j hij e
 ·have e:j=n:=by omega
  subst e;have q:=q (by omega)
  by_cases z:i=j-1
  ·rw[z];exact q
  ·exact(u i (j-1) (by omega) (by omega)).tr h q
theorem xY(h:l9 lt){p:Array Nat}{N:Nat}:∀ (f n:Nat),n+f<=N->1<=n->Un p N n->Up lt p n ->
  n<=go lt (kas_asc p f n)/\go lt (kas_asc p f n)<=n+f/\Un p N (go lt (kas_asc p f n))/\Up lt p (go lt (kas_asc p f n))/\(go lt (kas_asc p f n)<n+f->lt (g p (go lt (kas_asc p f n))) (g p (go lt (kas_asc p f n)-1))=true)
 | 0,n,hf,h1,u,q=>⟨Nat.le_refl _,Nat.le_refl _,u,q,λ z=>absurd z (Nat.lt_irrefl _)⟩
 | f+1,n,hf,h1,u,q=>by
  simp only[kas_asc,go];cases e:lt (p.getD n 0) (p.getD (n-1) 0) with
  | true=>exact⟨Nat.le_refl _,by simp[go],u,q,λ _=>e⟩
  | false =>
   have hb:B lt (g p (n-1)) (g p n):=B.of_le e (by have:=u.lo (n-1) (by omega);have:=u.hi n (Nat.le_refl _) (by omega);omega);have r:=xY h (p:=p) (N:=N) f (n+1) (by omega) (by omega) (u.up (by omega) (by omega)) (q.succ h λ _=>hb);simp only[Bool.false_eq_true,if_false];have e2:n+1+f=n+(f+1):=by omega
   rw[e2] at r;exact⟨by have:=r.1;omega,r.2⟩
structure zC(lt:Nat->Nat->Bool)(p:Array Nat)(n q:Nat):Prop where
 q1:q+1<=n
 dn:∀ i j,i<j->j<n-1-q->B lt (g p j) (g p i)
 cr:∀ i j,i<n-1-q->n-1-q<=j->j<n->lt (g p j) (g p i)=true
 bl:∀ i j,n-1-q<=i->i<j->j<n->B lt (g p i) (g p j)/\lt (g p i) (g p j)=false
theorem zC.aeS{p:Array Nat}{n:Nat}(x:zC lt p n 0):Dn lt p n:=λ i j hij hj=>by
 have:=x.q1
 by_cases e:j<n-1-0
 ·exact x.dn i j hij e
 ·exact .inl (x.cr i j (by omega) (by omega) hj)
theorem zC.rev{p:Array Nat}{n q N:Nat}(x:zC lt p n q)(hN:n<=p.size):Dn lt (kas_rev p (n-(q+1)) n) n:=λ i j hij hj=>by
 have:=x.q1;rw[lh hN,lh hN]
 by_cases e1:n-(q+1)<=i/\i<n
 ·rw[if_pos e1,if_pos ⟨by omega,hj⟩];exact(x.bl _ _ (by omega) (by omega) (by omega)).1
 ·rw[if_neg e1]
  by_cases e2:n-(q+1)<=j/\j<n
  ·rw[if_pos e2];exact .inl (x.cr _ _ (by omega) (by omega) (by omega))
  ·rw[if_neg e2];exact x.dn i j hij (by omega)
theorem Dn.agZ(h:l9 lt){p:Array Nat}{n:Nat}(h1:1<=n)(x:Dn lt p n)(q:lt (g p n) (g p (n-1))=true):zC lt p (n+1) 0:=by
 refine⟨by omega,λ i j hij hj=>x i j hij (by omega),λ i j hi hj hj2=>?_,λ i j hi hij hj=>by omega⟩;have e:j=n:=by omega
 subst e
 by_cases z:i=j-1
 ·rw[z];exact q
 ·exact h.aeb q ((x i (j-1) (by omega) (by omega)).le h)
theorem mS(h:l9 lt){N:Nat}:∀ (f:Nat) (p:Array Nat) (n q:Nat),n+f<=N->Un p N n->p.toList.Perm (List.range N)->zC lt p n q ->
  n<=(go lt (kas_desc f p n q)).2.1/\(go lt (kas_desc f p n q)).2.1<=n+f/\Un (go lt (kas_desc f p n q)).1 N (go lt (kas_desc f p n q)).2.1/\(go lt (kas_desc f p n q)).1.toList.Perm (List.range N)/\zC lt (go lt (kas_desc f p n q)).1 (go lt (kas_desc f p n q)).2.1 (go lt (kas_desc f p n q)).2.2
 | 0,p,n,q,hf,u,hp,x=>⟨Nat.le_refl _,Nat.le_refl _,u,hp,x⟩
 | f+1,p,n,q,hf,u,hp,x=>by
  have hs:=u.size;have hq1:=x.q1;simp only[kas_desc,go];cases e:lt (p.getD n 0) (p.getD (n-1) 0) with
  | true =>
   simp only[if_true]
   by_cases hq:q > 0
   ·rw[if_pos hq];have e2:lt (g (kas_rev p (n-(q+1)) n) n) (g (kas_rev p (n-(q+1)) n) (n-1))=true:=by
     rw[lh (by omega),lh (by omega),if_neg (by omega),if_pos (by omega)]
     by_cases z:n-(q+1)+n-1-(n-1)=n-1
     ·rw[z];exact e
     ·exact h.aeb e (x.bl _ (n-1) (by omega) (by omega) (by omega)).2
    have r:=mS h f (kas_rev p (n-(q+1)) n) (n+1) 0 (by omega) ((u.rev (Nat.le_refl _) (by omega)).up (by omega) (by omega)) (jk hp) ((x.rev (N:=N) (by omega)).agZ h (by omega) e2);exact⟨by have:=r.1;omega,by have:=r.2.1;omega,r.2.2⟩
   ·rw[if_neg hq];have eq0:q=0:=by omega
    subst eq0;have r:=mS h f p (n+1) 0 (by omega) (u.up (by omega) (by omega)) hp (x.aeS.agZ h (by omega) e);exact⟨by have:=r.1;omega,by have:=r.2.1;omega,r.2.2⟩
  | false =>
   simp only[Bool.false_eq_true,if_false,go];cases e2:lt (p.getD (n-1) 0) (p.getD n 0) with
   | true=>exact⟨Nat.le_refl _,by simp[go],u,hp,x⟩
   | false =>
    simp only[Bool.false_eq_true,if_false];have lo:=u.lo;have hin:=u.hi n (Nat.le_refl _) (by omega);have r:=mS h f p (n+1) (q+1) (by omega) (u.up (by omega) (by omega)) hp ⟨by omega,λ i j hij hj=>x.dn i j hij (by omega),λ i j hi hj hj2=>?_,λ i j hi hij hj=>?_⟩
    ·exact⟨by have:=r.1;omega,by have:=r.2.1;omega,r.2.2⟩
    ·by_cases z:j<n
     ·exact x.cr i j (by omega) (by omega) z
     ·have z:j=n:=by omega
      subst z;exact h.ahp e2 (x.cr i (j-1) (by omega) (by omega) (by omega))
    ·by_cases z:j<n
     ·exact x.bl i j (by omega) hij z
     ·have z:j=n:=by omega
      subst z;have le1:lt (g p j) (g p i)=false:=by
       by_cases y:i=j-1
       ·rw[y];exact e
       ·exact h.tr _ _ _ ((x.bl i (j-1) (by omega) (by omega) (by omega)).1.le h) e
      have le2:lt (g p i) (g p j)=false:=by
       by_cases y:i=j-1
       ·rw[y];exact e2
       ·exact h.tr _ _ _ e2 (x.bl i (j-1) (by omega) (by omega) (by omega)).2
      exact⟨B.of_le le1 (by have:=lo i (by omega);omega),le2⟩
theorem Dn.up{p:Array Nat}{n:Nat}(x:Dn lt p n)(hN:n<=p.size):Up lt (kas_rev p 0 n) n:=λ i j hij hj=>by rw[lh hN,lh hN,if_pos (by omega),if_pos (by omega)];exact x _ _ (by omega) (by omega)
def Cnt(lt:Nat->Nat->Bool)(N:Nat)(r:Nat×Array Nat):Prop:=1<=r.1/\r.1<=N/\Un r.2 N r.1/\r.2.toList.Perm (List.range N)/\Up lt r.2 r.1
theorem uc(h:l9 lt){N n:Nat}{p:Array Nat}(h1:1<=n)(hn:n<=N)(u:Un p N n)(hp:p.toList.Perm (List.range N))(x:Dn lt p n):Cnt lt N (go lt (kas_tail3 n N p)):=by
 unfold kas_tail3;rw[iy];have hs:=u.size;have r:=xY h (p:=kas_rev p 0 n) (N:=N) (N-n) n (by omega) h1 (u.rev (Nat.le_refl _) hn) (x.up (by omega));exact⟨by have:=r.1;show 1<=go lt (kas_asc (kas_rev p 0 n) (N-n) n);omega,by have:=r.2.1;show go lt (kas_asc (kas_rev p 0 n) (N-n) n)<=N;omega,r.2.2.1,jk hp,r.2.2.2.1⟩
theorem kf(h:l9 lt){N n:Nat}{p:Array Nat}(hn:n+1<=N)(u:Un p N (n+1))(hp:p.toList.Perm (List.range N))(x:zC lt p (n+1) 0):Cnt lt N (go lt (kas_descPart n N p)):=by
 unfold kas_descPart;rw[iy];obtain⟨r1,r2,r3,r4,r5⟩:=mS h (N:=N) (N-(n+1)) p (n+1) 0 (by omega) u hp x;have hs:=r3.size
 by_cases hq:(go lt (kas_desc (N-(n+1)) p (n+1) 0)).2.2 > 0
 ·rw[if_pos hq];exact uc h (by omega) (by omega) (r3.rev (Nat.le_refl _) (by omega)) (jk r4) (r5.rev (N:=N) (by omega))
 ·rw[if_neg hq];have e:(go lt (kas_desc (N-(n+1)) p (n+1) 0)).2.2=0:=by omega
  rw[e] at r5;exact uc h (by omega) (by omega) r3 r4 r5.aeS
theorem zA(h:l9 lt){N:Nat}(hN:1<=N){p:Array Nat}(u:Un p N 1)(hp:p.toList.Perm (List.range N)):Cnt lt N (go lt (kas_count N p)):=by
 unfold kas_count;rw[iy];obtain⟨a1,a2,a3,a4,a5⟩:=xY h (p:=p) (N:=N) (N-1) 1 (by omega) (Nat.le_refl _) u (λ i j hij hj=>by omega);generalize go lt (kas_asc p (N-1) 1)=n at a1 a2 a3 a4 a5;have hs:=u.size
 by_cases e:(n==N)=true
 ·rw[if_pos e];exact⟨a1,by show n<=N;omega,a3,hp,a4⟩
 ·rw[if_neg e];have ne:n≠N:=λ z=>e (by simp[z]);have last:=a5 (by omega)
  by_cases h2:n > 1
  ·rw[if_pos h2];simp only[go];cases c:lt (p.getD 0 0) (p.getD (n-1) 0) with
   | true =>
    simp only[if_true,go];exact⟨a1,by show n<=N;omega,a3,hp,a4⟩
   | false =>
    simp only[Bool.false_eq_true,if_false];have eqv:∀ i j,i<j->j<n->lt (g p i) (g p j)=false:=λ i j hij hj=>by
     have t1:lt (g p i) (g p 0)=false:=by
      by_cases z:i=0
      ·rw[z];exact h.irr _
      ·exact(a4 0 i (by omega) (by omega)).le h
     have t2:lt (g p (n-1)) (g p j)=false:=by
      by_cases z:j=n-1
      ·rw[z];exact h.irr _
      ·exact(a4 j (n-1) (by omega) (by omega)).le h
     have t3:lt (g p 0) (g p j)=false:=by
      cases y:lt (g p 0) (g p j) with
      | false=>rfl
      | true=>have:=h.aeb y t2;rw[c] at this;cases this
     cases y:lt (g p i) (g p j) with
     | false=>rfl
     | true=>have:=h.ahp t1 y;rw[t3] at this;cases this
    have fa:zC lt p n (n-1):=⟨by omega,λ i j hij hj=>by omega,λ i j hi hj hj2=>by omega,λ i j hi hij hj=>⟨a4 i j hij hj,eqv i j hij hj⟩⟩;have dn:Dn lt (kas_rev p 0 n) n:=by
     have:=fa.rev (N:=N) (by omega)
     rwa[show n-(n-1+1)=0 by omega] at this
    have e2:lt (g (kas_rev p 0 n) n) (g (kas_rev p 0 n) (n-1))=true:=by rw[lh (by omega),lh (by omega),if_neg (by omega),if_pos (by omega)];rw[show 0+n-1-(n-1)=0 by omega];exact h.aeb last c
    exact kf h (by omega) ((a3.rev (Nat.le_refl _) (by omega)).up (by omega) (by omega)) (jk hp) (dn.agZ h a1 e2)
  ·rw[if_neg h2];have e1:n=1:=by omega
   subst e1;exact kf h (by omega) (a3.up (by omega) (by omega)) hp (Dn.agZ h (Nat.le_refl _) (λ i j hij hj=>by omega) last)
theorem nh(h:l9 lt){p:Array Nat}{k:Nat}(u:Up lt p k):∀ (f l r:Nat),r-l<=f->l<=r->r<=k->(∀ i,i<l->lt (g p k) (g p i)=false)->(∀ i,r<=i->i<k->lt (g p k) (g p i)=true) ->
  go lt (kas_place p k f l r)<=k/\(∀ i,i<go lt (kas_place p k f l r)->lt (g p k) (g p i)=false)/\∀ i,go lt (kas_place p k f l r)<=i->i<k->lt (g p k) (g p i)=true
 | 0,l,r,hf,hl,hr,a,b=>⟨by show l<=k;omega,a,λ i hi hk=>b i (by have:l<=i:=hi;omega) hk⟩
 | f+1,l,r,hf,hl,hr,a,b=>by
  simp only[kas_place]
  by_cases e:l >= r
  ·rw[if_pos e];exact⟨by show l<=k;omega,a,λ i hi hk=>b i (by have:l<=i:=hi;omega) hk⟩
  ·rw[if_neg e];simp only[go];cases c:lt (p.getD k 0) (p.getD ((l+r) / 2) 0) with
   | true =>
    simp only[if_true];refine nh h u f l ((l+r) / 2) (by omega) (by omega) (by omega) a λ i hi hk=>?_
    by_cases z:i=(l+r) / 2
    ·rw[z];exact c
    ·exact h.aeb c ((u ((l+r) / 2) i (by omega) hk).le h)
   | false =>
    simp only[Bool.false_eq_true,if_false];refine nh h u f ((l+r) / 2+1) r (by omega) (by omega) hr (λ i hi=>?_) b
    by_cases z:i=(l+r) / 2
    ·rw[z];exact c
    ·exact h.tr _ _ _ ((u i ((l+r) / 2) (by omega) (by omega)).le h) c
theorem abU(h:l9 lt){N:Nat}:∀ (f:Nat) (p:Array Nat) (k:Nat),k+f<=N->Un p N k->p.toList.Perm (List.range N)->Up lt p k->(go lt (kas_bin f p k)).toList.Perm (List.range N)/\Up lt (go lt (kas_bin f p k)) (k+f)
 | 0,p,k,hf,u,hp,x=>⟨hp,x⟩
 | f+1,p,k,hf,u,hp,x=>by
  simp only[kas_bin];rw[iy];obtain⟨h1,h2,h3⟩:=nh h x k 0 k (by omega) (by omega) (Nat.le_refl _) (λ i hi=>by omega) (λ i hi hk=>by omega);generalize go lt (kas_place p k k 0 k)=l at h1 h2 h3;have hs:=u.size;have ek:k-(k-l)=l:=by omega
  have lo:=u.lo;have hk:=u.hi k (Nat.le_refl _) (by omega);have G:∀ i,g (bubble p k (k-l)) i=if i=l then g p k else if l<i/\i<=k then g p (i-1) else g p i:=λ i=>by rw[ahV (by omega) (by omega),ek]
  have r:=abU h (N:=N) f (bubble p k (k-l)) (k+1) (by omega) ⟨(bubble_size _ _ _).trans hs,λ i hi=>?_,λ i hi hi2=>?_⟩ ((Array.perm_iff_toList_perm.mp (bubble_perm p k _)).trans hp) λ i j hij hj=>?_
  ·rw[show k+1+f=k+(f+1) by omega] at r;exact r
  ·rw[G]
   split
   ·omega
   ·split
    ·have:=lo (i-1) (by omega);omega
    ·have:=lo i (by omega);omega
  ·rw[G,if_neg (by omega),if_neg (by omega)];exact u.hi i (by omega) hi2
  ·have bk:∀ i,i<l->B lt (g p i) (g p k):=λ i hi=>B.of_le (h2 i hi) (by have:=lo i (by omega);omega);rw[G,G]
   by_cases i1:i=l
   ·rw[if_pos i1,if_neg (by omega),if_pos (by omega)];exact .inl (h3 _ (by omega) (by omega))
   ·rw[if_neg i1]
    by_cases i2:l<i/\i<=k
    ·rw[if_pos i2,if_neg (by omega),if_pos (by omega)];exact x _ _ (by omega) (by omega)
    ·rw[if_neg i2]
     by_cases j1:j=l
     ·rw[if_pos j1];exact bk i (by omega)
     ·rw[if_neg j1]
      by_cases j2:l<j/\j<=k
      ·rw[if_pos j2];exact x _ _ (by omega) (by omega)
      ·rw[if_neg j2];exact x _ _ hij (by omega)
theorem acu(h:l9 lt){N:Nat}(hN:1<=N):(go lt (kas_sort N)).toList.Perm (List.range N)/\Up lt (go lt (kas_sort N)) N:=by
 unfold kas_sort;rw[iy];have e:∀ i,i<N->g (List.toArray (List.range N)) i=i:=λ i hi=>by rw[vy];simp[hi]
 obtain⟨c1,c2,c3,c4,c5⟩:=zA h hN (p:=List.toArray (List.range N)) ⟨by simp,λ i hi=>by rw[e i (by omega)];exact hi,λ i _ hi=>e i hi⟩ (by simp);generalize go lt (kas_count N (List.toArray (List.range N)))=r at c1 c2 c3 c4 c5
 by_cases z:r.1<N
 ·rw[if_pos z];have em:max r.1 1=r.1:=by omega
  rw[em];have b:=abU h (N-r.1) r.2 r.1 (by omega) c3 c4 c5;rw[show r.1+(N-r.1)=N by omega] at b;exact b
 ·rw[if_neg z];have em:r.1=N:=by omega
  rw[em] at c5;exact⟨c4,c5⟩
def jj(N:Nat)(R:α->Prop):KasT α->Prop
 | .ret a=>R a
 | .ask i j k=>i<N/\j<N/\∀ b,jj N R (k b)
theorem jj.bind{α β:Type}{N:Nat}{R:α->Prop}{R':β->Prop}{f:α->KasT β}(hf:∀ a,R a->jj N R' (f a)):∀ {t:KasT α},jj N R t->jj N R' (t.bind f)
 | .ret a,h=>hf a h
 | .ask i j k,h=>⟨h.1,h.2.1,λ b=>jj.bind hf (h.2.2 b)⟩
theorem vZ(hc:∀ i j,i<N->j<N->∀ (C:Bool->Shared->Prop),C (lt i j) s->cmp i j C s) :
  ∀ t:KasT α,jj N R t->Q (go lt t) s->t.kasWp cmp Q s
 | .ret _,_,h=>h
 | .ask i j k,a,h=>hc i j a.1 a.2.1 _ (vZ hc (k (lt i j)) (a.2.2 _) h)
def Low(N:Nat)(p:Array Nat):Prop:=∀ i,g p i<N
theorem Low.of(hN:1<=N)(h:∀ x∈p.toList,x<N):Low N p:=λ i=>by
 rw[vy];cases e:p[i]? with
 | none=>simp;omega
 | some x=>exact h x (by rw[Array.mem_toList_iff];exact Array.mem_of_getElem? e)
theorem Low.mem(h:Low N p):∀ x∈p.toList,x<N:=λ x hx=>by rw[Array.mem_toList_iff] at hx;obtain⟨i,hi,e⟩:=Array.mem_iff_getElem.mp hx;have:=h i;rw[vy] at this;simp[hi] at this;omega
theorem Low.perm(hN:1<=N)(h:Low N p)(e:q.Perm p):Low N q:=.of hN λ x hx=>h.mem x ((Array.perm_iff_toList_perm.mp e).mem_iff.mp hx)
theorem Low.rev(hN:1<=N)(h:Low N p):Low N (kas_rev p i j):=h.perm hN (mirror_perm _ _ _ _)
theorem iq(h:Low N p):∀ f n,jj N (λ _=>True) (kas_asc p f n)
 | 0,_=>trivial
 | f+1,n=>⟨h _,h _,λ b=>by
  cases b with
  | true=>exact trivial
  | false=>exact iq h f (n+1)⟩
theorem ip(hN:1<=N):∀ (f:Nat) {p:Array Nat} (n q:Nat),Low N p->jj N (λ r=>Low N r.1) (kas_desc f p n q)
 | 0,p,n,q,h=>h
 | f+1,p,n,q,h=>⟨h _,h _,λ b=>by
  cases b with
  | true =>
   simp only[if_true]
   split
   ·exact ip hN f (n+1) 0 (h.rev hN)
   ·exact ip hN f (n+1) 0 h
  | false =>
   simp only[Bool.false_eq_true,if_false];refine⟨h _,h _,λ b=>?_⟩;cases b with
   | true=>exact h
   | false=>exact ip hN f (n+1) (q+1) h⟩
theorem ma(hN:1<=N){p:Array Nat}{n m:Nat}(h:Low N p):jj N (λ(r:Nat×Array Nat)=>Low N r.2) (kas_tail3 n m p):=by
 unfold kas_tail3;refine jj.bind (λ k _=>?_) (iq (h.rev hN) _ _);exact(h.rev hN:Low N (kas_rev p 0 n))
theorem ie(hN:1<=N){p:Array Nat}{n m:Nat}(h:Low N p):jj N (λ r=>Low N r.2) (kas_descPart n m p):=(ip hN _ _ _ h).bind λ r hr=>by
 split
 ·exact ma hN (hr.rev hN)
 ·exact ma hN hr
theorem uQ(hN:1<=N){p:Array Nat}{m:Nat}(h:Low N p):jj N (λ r=>Low N r.2) (kas_count m p):=(iq h _ _).bind λ n _=>by
 split
 ·exact h
 ·split
  ·refine⟨h _,h _,λ b=>?_⟩;cases b with
   | true=>exact h
   | false=>exact ie hN (h.rev hN)
  ·exact ie hN h
theorem fW{p:Array Nat}{k:Nat}(h:Low N p):∀ f l r,jj N (λ _=>True) (kas_place p k f l r)
 | 0,_,_=>trivial
 | f+1,l,r=>by
  simp only[kas_place]
  split
  ·exact trivial
  ·refine⟨h _,h _,λ b=>?_⟩;cases b with
   | true=>exact fW h f _ _
   | false=>exact fW h f _ _
theorem sk(hN:1<=N):∀ (f:Nat) {p:Array Nat} (k:Nat),Low N p->jj N (λ _=>True) (kas_bin f p k)
 | 0,_,_,_=>trivial
 | f+1,p,k,h=>(fW h _ _ _).bind λ l _=>sk hN f (k+1) (h.perm hN (bubble_perm _ _ _))
theorem oH(hN:1<=N):jj N (λ _=>True) (kas_sort N):=(uQ hN (.of hN λ x hx=>by simpa using hx)).bind λ r hr=>by
 split
 ·exact sk hN _ _ hr
 ·exact trivial
def bP(lt:Nat->Nat->Bool)(n:Nat):List Nat:=if n<2 then List.range n else (go lt (kas_sort n)).toList
theorem ig(h:l9 lt)(n:Nat):(bP lt n).Perm (List.range n)/\(bP lt n).Pairwise (B lt):=by
 unfold bP
 by_cases z:n<2
 ·rw[if_pos z];refine⟨List.Perm.refl _,?_⟩
  match n,z with
  | 0,_=>exact List.Pairwise.nil
  | 1,_=>exact List.pairwise_singleton _ _
 ·rw[if_neg z];obtain⟨a,b⟩:=acu h (N:=n) (by omega);refine⟨a,?_⟩;rw[List.pairwise_iff_getElem];intro i j hi hj hij;have hl:=a.length_eq;rw[List.length_range] at hl;have r:=b i j hij (by omega);rw[vy,vy] at r;have hi':i<(go lt (kas_sort n)).size:=by simpa using hi
  have hj':j<(go lt (kas_sort n)).size:=by simpa using hj
  simpa [hi',hj'] using r
def cW(h:Heap)(a:Addr)(vs:List Value):Heap:=((h.update a (Obj.mapSeq λ _=>#[])).push (seqObj "tuple" vs.toArray 0)).push (seqObj "list" #[] 0)
def kX(h:Heap)(vs:List Value):Heap:=((h.push (seqObj "list" #[] 0)).update h.objs.size (Obj.mapSeq (· ++ vs.toArray))).push (seqObj "list" vs.toArray 0)
theorem uY(hb:h.get? b=some o):(kX h vs).get? b=some o:=by have q:b<h.objs.size:=Heap.lt_size hb;have q1:=Nat.ne_of_lt q;have q2:=Nat.ne_of_lt (Nat.lt_succ_of_lt q);unfold kX;rw[Heap.get?_push_ne _ _ _ (by rw[Heap.size_update,size_push'];exact q2),Heap.get?_update_ne _ _ _ _ q1,Heap.get?_push_ne _ _ _ q1];exact hb
theorem jB{h:Heap}{vs:List Value}:((h.push (seqObj "list" #[] 0)).update h.objs.size (Obj.mapSeq (· ++ vs.toArray))).objs.size=h.objs.size+1:=by rw[Heap.size_update,size_push']
theorem qT(hb:h.get? b=some o)(hne:b≠a):(cW h a vs).get? b=some o:=by have q:b<h.objs.size:=Heap.lt_size hb;have q1:=Nat.ne_of_lt q;have q2:=Nat.ne_of_lt (Nat.lt_succ_of_lt q);unfold cW;rw[Heap.get?_push_ne _ _ _ (by rw[size_push',Heap.size_update];exact q2),Heap.get?_push_ne _ _ _ (by rw[Heap.size_update];exact q1),Heap.get?_update_ne _ _ _ _ hne];exact hb
theorem vk{vs us:List Value}{n:Nat}(ho:h.get? a=some (seqObj "list" us.toArray n)):∃ e,(h.update a (Obj.mapSeq λ _=>(#[]:Array Value))).get? a=some (seqObj "list" #[] e)/\(cW h a vs).get? a=some (seqObj "list" #[] e):=by have q:a<h.objs.size:=Heap.lt_size ho;have q1:=Nat.ne_of_lt q;have q2:=Nat.ne_of_lt (Nat.lt_succ_of_lt q);refine⟨_,get?_update_seq ho λ _=>#[],?_⟩;unfold cW;rw[Heap.get?_push_ne _ _ _ (by rw[size_push',Heap.size_update];exact q2),Heap.get?_push_ne _ _ _ (by rw[Heap.size_update];exact q1)];exact get?_update_seq ho λ _=>#[]
theorem yV(ho:s.heap.get? a=some (seqObj "list" vs.toArray n))(h64:vs.length<64)
  (hk:2<=vs.length->∀ (Q:SortKind->Shared->Prop),Q κ {s with heap:=cW s.heap a vs}->wpAny (model prog w) A (keyKind' vs.toArray) Q E {s with heap:=cW s.heap a vs})
  (hc:∀ i j,i<vs.length->j<vs.length->∀ (C:Bool->Shared->Prop),C (lt i j) {s with heap:=cW s.heap a vs}->kas_ask prog w A κ vs i j C {s with heap:=cW s.heap a vs})
  (h:P (.done (.ret .none)) {s with heap:=sortedHeap s.heap a vs ((bP lt vs.length).map λ i=>vs.getD i Value.none).toArray}) :
  wpAny (model prog w) A (Builtin.«list.sort» ⟨[.ref a],[]⟩) P E s:=by
 have hz:vs.toArray.size=vs.length:=by simp
 obtain⟨e1,o1,o2⟩:=vk (vs:=vs) ho;rw[list_sort_plain];refine wpAny_bind (listItems_at ho rfl (wpAny_bind (listUpdate_at ho rfl (wpAny_bind (seqEpoch_at o1 rfl (wpAny_bind (wpAny_newTuple (wpAny_bind (wpAny_newList (wpAny_holding ?_))))))))));show wpAny _ _ _ P E {s with heap:=cW s.heap a vs};dsimp only;have fits:∀ {p:Array Nat},p.size=vs.length->(List.toArray (p.toList.map λ i=>vs.getD i Value.none)).size<=sizeLine+1:=λ {p} hp=>by rw[List.size_toArray,List.length_map,Array.length_toList,hp,sizeLine_eq];omega
 by_cases h2:vs.length<2
 ·rw[if_pos (by rw[hz];exact h2),if_pos (by rw[hz];exact h2)];refine wpAny_bind (wpAny_pure ?_);rw[StateT.run_pure];refine wpAny_bind (wpAny_pure ?_);dsimp only;have out:=kat_snds (ks:=vs) (vs:=vs) rfl (st:=SortSt.mk' general' (vs.toArray.zip vs.toArray) #[] 7 none) (p:=List.toArray (List.range vs.length)) (by have e:=kas_range (vs.toArray.zip vs.toArray);rw[show(vs.toArray.zip vs.toArray).size=vs.length by simp] at e;exact e.symm)
  rw[out];refine wpAny_bind (seqEpoch_at o2 rfl (wpAny_bind (listUpdate_at o2 rfl ?_ (hsz2:=fits (by simp)))));simp only[bne_self_eq_false,Bool.false_eq_true,if_false];unfold bP at h;rw[if_pos h2] at h;exact wpAny_pure h
 ·rw[if_neg (by rw[hz];exact h2),if_neg (by rw[hz];exact h2)];refine wpAny_bind (hk (by omega) _ (wpAny_bind (wpAny_mono (kat_run (ks:=vs) (vs:=vs) (κ:=κ) (Q:=λ st' s'=>s'={s with heap:=cW s.heap a vs}/\failedOf st'=none/\(arrOf st').map (·.2)=List.toArray ((bP lt vs.length).map λ i=>vs.getD i Value.none)/\(bP lt vs.length).length=vs.length)
   (G:=λ p s'=>s'={s with heap:=cW s.heap a vs}/\p=go lt (kas_sort vs.length)) rfl (by omega) h64 (λ p st' s' a1 a2 a3 a4=>⟨a4.1,a3,?_,?_⟩) (vZ hc _ (oH (by omega)) ⟨rfl,rfl⟩)) ?_ λ _ _ e=>e)))
  ·unfold bP;rw[if_neg h2,<- a4.2];exact kat_snds rfl a2
  ·unfold bP;rw[if_neg h2,<- a4.2,Array.length_toList,a1]
  ·rintro⟨⟨⟩,st'⟩ s' ⟨rfl,hf,har,hln⟩;dsimp only;rw[har];refine wpAny_bind (seqEpoch_at o2 rfl (wpAny_bind (listUpdate_at o2 rfl ?_ (hsz2:=by rw[List.size_toArray,List.length_map,hln,sizeLine_eq];omega))));rw[hf];simp only[bne_self_eq_false,Bool.false_eq_true,if_false];exact wpAny_pure h
theorem qA{l:Addr}{vs:List Value}{κ:SortKind}{lt:Nat->Nat->Bool}{Q:VP}(hl:s.heap.IsList l vs.toArray)(h64:vs.length<64)
  (hk:∀ (A':Around) (h':Heap),(∀ b o,s.heap.get? b=some o->h'.get? b=some o)->2<=vs.length->∀ (Q':SortKind->Shared->Prop) E',Q' κ {s with heap:=h'}->wpAny (model prog w) A' (keyKind' vs.toArray) Q' E' {s with heap:=h'})
  (hc:∀ (A':Around) (h':Heap),(∀ b o,s.heap.get? b=some o->h'.get? b=some o)->∀ i j,i<vs.length->j<vs.length->∀ (C:Bool->Shared->Prop),C (lt i j) {s with heap:=h'}->kas_ask prog w A' κ vs i j C {s with heap:=h'})
  (h:Q (.ref (s.heap.objs.size+1)) {s with heap:=sortedAll s.heap vs ((bP lt vs.length).map λ i=>vs.getD i Value.none).toArray}) :
  wpAny (model prog w) A (call (.builtin "sorted") [.ref l]) Q E s:=by
 refine Calls.call_function_entry kind_sorted plain_sorted entry_sorted (args_sorted1 _) ?_;unfold Builtin.«sorted»;refine wpAny_bind (m:=checkCount "sorted" 1 1 _) (wpAny_pure (wpAny_bind (collect_list hl (wpAny_bind (wpAny_newList ?_)) (by rw[sizeLine_eq];omega))));have at1:(kX s.heap vs).get? (s.heap.objs.size+1)=some (seqObj "list" vs.toArray 0):=by
  unfold kX;rw[<- jB (h:=s.heap) (vs:=vs)];exact Heap.get?_push_size _ rfl
 show wpAny _ _ _ _ _ {s with heap:=kX s.heap vs};rw[jB];have old:∀ b o,s.heap.get? b=some o->(cW (kX s.heap vs) (s.heap.objs.size+1) vs).get? b=some o:=λ b o e=>qT (uY e) (Nat.ne_of_lt (Nat.lt_succ_of_lt (Heap.lt_size e)));refine wpAny_bind (wpAny_holding (wpAny_call_entry slot_list_sort ⟨_,at1,rfl⟩ entry_list_sort (yV (κ:=κ) (lt:=lt) (s:={s with heap:=kX s.heap vs}) at1 h64 (λ h2 Q' q=>hk _ _ old h2 Q' _ q) (λ i j hi hj C q=>hc _ _ old i j hi hj C q) ⟨_,rfl,wpAny_pure ⟨_,rfl,h⟩⟩) (args_list_sort _)))
def Shape:List Bool->List PyData->Prop
 | [],[]=>True
 | true::bs,d::ds=>(∃ x,d=.str x)/\Shape bs ds
 | false::bs,d::ds=>(∃ i,d=.int i)/\Shape bs ds
 | _,_=>False
def sEq:PyData->PyData->Bool
 | .int x,.int y=>x==y
 | .str x,.str y=>x==y
 | _,_=>false
def sLt:PyData->PyData->Bool
 | .int x,.int y=>decide (x<y)
 | .str x,.str y=>decide (x.cps.toList<y.cps.toList)
 | _,_=>false
def cG:List PyData->List PyData->Bool
 | a::as,b::bs=>if sEq a b=true then cG as bs else sLt a b
 | [],_::_=>true
 | _,_=>false
theorem ad3{x y:Str}(h:x.cps.toList=y.cps.toList):x=y:=by
 cases x;cases y;simp only[Str.mk.injEq];exact Array.toList_inj.mp h
theorem dJ(ha:Shape (t::sh) (a::as))(hb:Shape (t::sh) (b::bs)) :
  Shape sh as/\Shape sh bs/\((a=b/\cG (a::as) (b::bs)=cG as bs)\/(a≠b/\sLt a b=true/\sLt b a=false/\cG (a::as) (b::bs)=true)\/(a≠b/\sLt a b=false/\sLt b a=true/\cG (a::as) (b::bs)=false)):=by
 cases t with
 | true =>
  obtain⟨⟨x,rfl⟩,h⟩:=ha;obtain⟨⟨y,rfl⟩,h'⟩:=hb;refine⟨h,h',?_⟩
  by_cases e:x=y
  ·subst e;exact .inl ⟨rfl,by simp[cG,sEq]⟩
  ·have ne:PyData.str x≠PyData.str y:=λ z=>e (by injection z);have e2:sEq (.str x) (.str y)=false:=by simp[sEq,e]
   have hl:cG (.str x::as) (.str y::bs)=sLt (.str x) (.str y):=by simp[cG,e2]
   rw[hl];have nl:x.cps.toList≠y.cps.toList:=λ z=>e (ad3 z);simp only[sLt]
   by_cases q:x.cps.toList<y.cps.toList
   ·have:¬ y.cps.toList<x.cps.toList:=λ z=>List.lt_irrefl _ (List.lt_trans q z);exact .inr (.inl ⟨ne,by simp[q],by simp[this],by simp[q]⟩)
   ·have:y.cps.toList<x.cps.toList:=by
     apply Classical.byContradiction;intro z;exact nl (List.le_antisymm (List.not_lt.mp z) (List.not_lt.mp q))
    exact .inr (.inr ⟨ne,by simp[q],by simp[this],by simp[q]⟩)
 | false =>
  obtain⟨⟨x,rfl⟩,h⟩:=ha;obtain⟨⟨y,rfl⟩,h'⟩:=hb;refine⟨h,h',?_⟩
  by_cases e:x=y
  ·subst e;exact .inl ⟨rfl,by simp[cG,sEq]⟩
  ·have ne:PyData.int x≠PyData.int y:=λ z=>e (by injection z);have e2:sEq (.int x) (.int y)=false:=by simp[sEq,e]
   have hl:cG (.int x::as) (.int y::bs)=sLt (.int x) (.int y):=by simp[cG,e2]
   rw[hl];simp only[sLt]
   by_cases q:x<y
   ·exact .inr (.inl ⟨ne,by simp[q],by simp;omega,by simp[q]⟩)
   ·exact .inr (.inr ⟨ne,by simp[q],by simp;omega,by simp[q]⟩)
theorem af7(ha:Shape (t::sh) (a::as))(hb:Shape (t::sh) (b::bs))(hc:Shape (t::sh) (c::cs))(h1:sLt a b=true)(h2:sLt b c=true):sLt a c=true:=by
 cases t with
 | true =>
  obtain⟨⟨x,rfl⟩,_⟩:=ha;obtain⟨⟨y,rfl⟩,_⟩:=hb;obtain⟨⟨z,rfl⟩,_⟩:=hc;simp only[sLt,decide_eq_true_eq] at *;exact List.lt_trans h1 h2
 | false =>
  obtain⟨⟨x,rfl⟩,_⟩:=ha;obtain⟨⟨y,rfl⟩,_⟩:=hb;obtain⟨⟨z,rfl⟩,_⟩:=hc;simp only[sLt,decide_eq_true_eq] at *;omega
theorem sN:∀ {sh:List Bool} {xs ys:List PyData},Shape sh xs->Shape sh ys->cG xs ys=true->cG ys xs=false
 | [],[],[],_,_,h=>by simp[cG] at h
 | t::sh,a::as,b::bs,ha,hb,h=>by
  obtain⟨h1,h2,c⟩:=dJ ha hb;obtain⟨_,_,c'⟩:=dJ hb ha;rcases c with ⟨e,l⟩ | ⟨ne,l1,l2,l⟩ | ⟨ne,l1,l2,l⟩
  ·subst e;rcases c' with ⟨_,l'⟩ | ⟨ne,_⟩ | ⟨ne,_⟩
   ·rw[l'];rw[l] at h;exact sN h1 h2 h
   ·exact absurd rfl ne
   ·exact absurd rfl ne
  ·rcases c' with ⟨e,_⟩ | ⟨_,l3,_,_⟩ | ⟨_,_,_,l'⟩
   ·exact absurd e.symm ne
   ·rw[l2] at l3;cases l3
   ·exact l'
  ·rw[l] at h;cases h
 | [],a::as,_,h,_,_=>by cases h
 | [],[],b::bs,_,h,_=>by cases h
 | t::sh,[],_,h,_,_=>by cases t<;>cases h
 | t::sh,a::as,[],_,h,_=>by cases t<;>cases h
theorem nq:∀ {sh:List Bool} {xs ys:List PyData},Shape sh xs->Shape sh ys->cG xs ys=false->cG ys xs=false->xs=ys
 | [],[],[],_,_,_,_=>rfl
 | t::sh,a::as,b::bs,ha,hb,h,h'=>by
  obtain⟨h1,h2,c⟩:=dJ ha hb;obtain⟨_,_,c'⟩:=dJ hb ha;rcases c with ⟨e,l⟩ | ⟨ne,l1,l2,l⟩ | ⟨ne,l1,l2,l⟩
  ·subst e;rcases c' with ⟨_,l'⟩ | ⟨ne,_⟩ | ⟨ne,_⟩
   ·rw[l'] at h';rw[l] at h;rw[nq h1 h2 h h']
   ·exact absurd rfl ne
   ·exact absurd rfl ne
  ·rw[l] at h;cases h
  ·rcases c' with ⟨e,_⟩ | ⟨_,_,_,l'⟩ | ⟨_,l3,_,_⟩
   ·exact absurd e.symm ne
   ·rw[l'] at h';cases h'
   ·rw[l2] at l3;cases l3
 | [],a::as,_,h,_,_,_=>by cases h
 | [],[],b::bs,_,h,_,_=>by cases h
 | t::sh,[],_,h,_,_,_=>by cases t<;>cases h
 | t::sh,a::as,[],_,h,_,_=>by cases t<;>cases h
theorem abE:∀ {sh:List Bool} {xs ys zs:List PyData},Shape sh xs->Shape sh ys->Shape sh zs->cG xs ys=true->cG ys zs=true->cG xs zs=true
 | [],[],[],[],_,_,_,h,_=>by simp[cG] at h
 | t::sh,a::as,b::bs,c::cs,ha,hb,hc,h,h'=>by
  obtain⟨h1,h2,k1⟩:=dJ ha hb;obtain⟨_,h3,k2⟩:=dJ hb hc;obtain⟨_,_,k3⟩:=dJ ha hc;rcases k1 with ⟨e,l⟩ | ⟨ne,l1,l2,l⟩ | ⟨ne,l1,l2,l⟩
  ·subst e;rcases k2 with ⟨e,m⟩ | ⟨ne,m1,m2,m⟩ | ⟨ne,m1,m2,m⟩
   ·subst e;rcases k3 with ⟨_,n⟩ | ⟨ne,_⟩ | ⟨ne,_⟩
    ·rw[n];rw[l] at h;rw[m] at h';exact abE h1 h2 h3 h h'
    ·exact absurd rfl ne
    ·exact absurd rfl ne
   ·rcases k3 with ⟨e,_⟩ | ⟨_,_,_,n⟩ | ⟨_,n1,_,_⟩
    ·exact absurd e ne
    ·exact n
    ·rw[m1] at n1;cases n1
   ·rw[m] at h';cases h'
  ·rcases k2 with ⟨e,m⟩ | ⟨ne',m1,m2,m⟩ | ⟨ne',m1,m2,m⟩
   ·subst e;rcases k3 with ⟨e,_⟩ | ⟨_,_,_,n⟩ | ⟨_,n1,_,_⟩
    ·exact absurd e ne
    ·exact n
    ·rw[l1] at n1;cases n1
   ·have q:=af7 ha hb hc l1 m1;rcases k3 with ⟨e,_⟩ | ⟨_,_,_,n⟩ | ⟨_,n1,_,_⟩
    ·subst e;rw[l2] at m1;cases m1
    ·exact n
    ·rw[q] at n1;cases n1
   ·rw[m] at h';cases h'
  ·rw[l] at h;cases h
 | [],a::as,_,_,h,_,_,_,_=>by cases h
 | [],[],b::bs,_,_,h,_,_,_=>by cases h
 | [],[],[],c::cs,_,_,h,_,_=>by cases h
 | t::sh,[],_,_,h,_,_,_,_=>by cases t<;>cases h
 | t::sh,a::as,[],_,_,h,_,_,_=>by cases t<;>cases h
 | t::sh,a::as,b::bs,[],_,_,h,_,_=>by cases t<;>cases h
theorem vU(hx:Shape sh xs)(hy:Shape sh ys)(hz:Shape sh zs)(h:cG ys xs=false)(h':cG zs ys=false):cG zs xs=false:=by
 cases e:cG zs xs with
 | false=>rfl
 | true =>
  cases e2:cG xs ys with
  | true=>have:=abE hz hx hy e e2;rw[h'] at this;cases this
  | false =>
   have:=nq hx hy e2 h;subst this;rw[h'] at e;cases e
theorem rH{sh:List Bool}{as bs:List (List PyData)}(hs:∀ r∈as,Shape sh r)(p:as.Perm bs)(h1:as.Pairwise λ x y=>cG y x=false)(h2:bs.Pairwise λ x y=>cG y x=false):as=bs:=
 List.Perm.eq_of_pairwise (λ x y hx hy a b=>nq (hs x hx) (hs y (p.mem_iff.mpr hy)) b a) h1 h2 p
def rowAt(rows:List (List PyData))(i:Nat):List PyData:=rows.getD i (rows.headD [])
theorem dO(hne:rows≠[])(h:∀ r∈rows,Shape sh r)(i:Nat):Shape sh (rowAt rows i):=by
 unfold rowAt
 match rows,hne with
 | r::rs,_ =>
  by_cases hi:i<(r::rs).length
  ·rw[List.getD_eq_getElem?_getD,List.getElem?_eq_getElem hi];exact h _ (List.getElem_mem hi)
  ·rw[List.getD_eq_getElem?_getD,List.getElem?_eq_none (by omega)];exact h r (by simp)
theorem fT(hne:rows≠[])(h:∀ r∈rows,Shape sh r):l9 λ i j=>cG (rowAt rows i) (rowAt rows j):=
 ⟨λ a b=>sN (dO hne h a) (dO hne h b),λ a b c=>vU (dO hne h a) (dO hne h b) (dO hne h c)⟩
theorem lB(d:α)(l:List α):(List.range l.length).map (λ i=>l.getD i d)=l:=by
 apply List.ext_getElem
 ·simp
 ·intro i h1 h2;simp at h1;simp[h1]
theorem kP(rows:List (List PyData)):(List.range rows.length).map (rowAt rows)=rows:=lB _ rows
theorem si(hne:rows≠[])(h:∀ r∈rows,Shape sh r) :
  ((bP (λ i j=>cG (rowAt rows i) (rowAt rows j)) rows.length).map (rowAt rows)).Perm rows/\((bP (λ i j=>cG (rowAt rows i) (rowAt rows j)) rows.length).map (rowAt rows)).Pairwise λ x y=>cG y x=false:=by
 obtain⟨p,q⟩:=ig (fT hne h) rows.length;refine⟨?_,?_⟩
 ·have:=p.map (rowAt rows)
  rwa[kP] at this
 ·rw[List.pairwise_map];exact q.imp λ {a b} z=>B.le (fT hne h) z
def vC:List PyData->List Value->Prop:=Paired λ d u=>(∃ i t,d=.int i/\u=.int i t)\/∃ x t,d=.str x/\u=.str x t
theorem sj:∀ {sh:List Bool} {xs ys:List PyData} {us vs:List Value} (i:Nat) (s:Shared),Shape sh xs->Shape sh ys->vC xs us->vC ys vs->Q (cG xs ys) s->KatLex prog w A true false Q (us.zip vs) i s
 | [],[],[],us,vs,i,s,_,_,h1,h2,q=>by
  cases h1;exact q
 | t::sh,a::as,b::bs,us,vs,i,s,ha,hb,h1,h2,q=>by
  cases h1 with
  | cons r1 t1 =>
   cases h2 with
   | cons r2 t2 =>
    cases t with
    | true =>
     obtain⟨⟨x,rfl⟩,sa⟩:=ha;obtain⟨⟨y,rfl⟩,sb⟩:=hb;rcases r1 with ⟨_,_,e,_⟩ | ⟨x',tx,e,e'⟩
     ·cases e
     ·cases e;subst e';rcases r2 with ⟨_,_,e,_⟩ | ⟨y',ty,e,e'⟩
      ·cases e
      ·cases e;subst e';refine kat_cons (eqBool_str ?_)
       by_cases e:x=y
       ·subst e;have:(x==x)=true:=by simp
        rw[this];refine kat_yes (sj (i+1) s sa sb t1 t2 ?_)
        simpa [cG,sEq] using q
       ·have e1:(x==y)=false:=by simp[e]
        rw[e1];refine kat_no ?_;have q':Q (decide (x.cps.toList<y.cps.toList)) s:=by simpa [cG,sEq,e,sLt] using q
        cases hb:(true&&i==0) with
        | true=>exact oneLt_str q'
        | false=>exact kat_one _ _ (lt_str q')
    | false =>
     obtain⟨⟨x,rfl⟩,sa⟩:=ha;obtain⟨⟨y,rfl⟩,sb⟩:=hb;rcases r1 with ⟨x',tx,e,e'⟩ | ⟨_,_,e,_⟩
     ·cases e;subst e';rcases r2 with ⟨y',ty,e,e'⟩ | ⟨_,_,e,_⟩
      ·cases e;subst e';refine kat_cons (wpAny_eqBool_int ?_)
       by_cases e:x=y
       ·subst e;have:(x==x)=true:=by simp
        rw[this];refine kat_yes (sj (i+1) s sa sb t1 t2 ?_)
        simpa [cG,sEq] using q
       ·have e1:(x==y)=false:=by simp[e]
        rw[e1];refine kat_no ?_;have q':Q (decide (x<y)) s:=by simpa [cG,sEq,e,sLt] using q
        cases hb:(true&&i==0) with
        | true=>exact oneLt_int q'
        | false=>exact kat_one _ _ (lt_int q')
      ·cases e
     ·cases e
 | [],a::as,_,_,_,_,_,h,_,_,_,_=>by cases h
 | [],[],b::bs,_,_,_,_,_,h,_,_,_=>by cases h
 | t::sh,[],_,_,_,_,_,h,_,_,_,_=>by cases t<;>cases h
 | t::sh,a::as,[],_,_,_,_,_,h,_,_,_=>by cases t<;>cases h
end S
namespace D
open L2 S
section
variable {K:FG}
theorem nE:∀ {sh:List Bool} {ds:List PyData} {vs:List V} {us:List Value},Shape sh ds->aT K H ds vs->Vals vs us->vC ds us
 | [],[],vs,us,_,h,r=>by simp only[aT] at h;subst h;cases r;exact .nil
 | t::sh,d::ds,vs,us,hs,h,r=>by
  simp only[aT] at h;obtain⟨v,rs,e,h1,h2⟩:=h;subst e;cases r with
  | cons r1 r2 =>
   cases t with
   | true =>
    obtain⟨⟨x,rfl⟩,hs⟩:=hs;simp only[ay] at h1;subst h1;obtain⟨tk,e⟩:=(show ∃ t,_=Value.str x t from r1);exact .cons (.inr ⟨x,tk,rfl,e⟩) (nE hs h2 r2)
   | false =>
    obtain⟨⟨x,rfl⟩,hs⟩:=hs;simp only[ay] at h1;subst h1;obtain⟨tk,e⟩:=(show ∃ t,_=Value.int x t from r1);exact .cons (.inl ⟨x,tk,rfl,e⟩) (nE hs h2 r2)
 | [],d::ds,_,_,h,_,_=>by cases h
 | t::sh,[],_,_,h,_,_=>by cases t<;>cases h
theorem vC.len:∀ {ds:List PyData} {us:List Value},vC ds us->us.length=ds.length:=λ h=>(Paired.length h).symm
theorem eE:∀ {sh:List Bool} {ds:List PyData},Shape sh ds->ds.length=sh.length
 | [],[],_=>rfl
 | true::sh,d::ds,h=>by simp[eE h.2]
 | false::sh,d::ds,h=>by simp[eE h.2]
 | [],_::_,h=>by cases h
 | t::sh,[],h=>by cases t<;>cases h
def fc(h:Heap)(sh:List Bool)(rows:List (List PyData))(its:List Value):Prop:=Paired (λ row u=>Shape sh row/\∃ a o us n,u=Value.ref a/\h.get? a=some o/\o.cls=.type "tuple" /\ o.data=.seq us n/\vC row us.toList) rows its
theorem fc.keep(k:∀ b o,h.get? b=some o->h'.get? b=some o)(r:fc h sh rows its):fc h' sh rows its:=
 Paired.iu r λ row u ⟨s,a,o,us,n,e,g,c,d,q⟩=>⟨s,a,o,us,n,e,k _ _ g,c,d,q⟩
theorem fc.get:∀ {rows:List (List PyData)} {its:List Value} (i:Nat),i<rows.length->fc h sh rows its->∃ a o us n,its.getD i Value.none=.ref a/\h.get? a=some o/\o.cls=.type "tuple" /\ o.data=.seq us n/\Shape sh (rowAt rows i)/\vC (rowAt rows i) us.toList:=by
 have main:∀ {rows:List (List PyData)} {its:List Value} (i:Nat) (dflt:List PyData),i<rows.length->fc h sh rows its->∃ a o us n,its.getD i Value.none=.ref a/\h.get? a=some o/\o.cls=.type "tuple" /\ o.data=.seq us n/\Shape sh (rows.getD i dflt)/\vC (rows.getD i dflt) us.toList:=by
  intro rows
  induction rows with
  | nil=>intro its i d hi _;simp at hi
  | cons row rows ih =>
   intro its i d hi r;cases r with
   | cons r1 r2 =>
    cases i with
    | zero =>
     obtain⟨s,a,o,us,n,e,g,c,dd,q⟩:=r1;exact⟨a,o,us,n,e,g,c,dd,s,q⟩
    | succ i =>
     obtain⟨a,o,us,n,e,z⟩:=ih i d (by simpa using hi) r2;exact⟨a,o,us,n,by simpa using e,by simpa using z⟩
 exact λ {rows its} i hi r=>main i _ hi r
theorem fc.lg:∀ {rows:List (List PyData)} {its:List Value},fc h (t::sh) rows its->∃ fs,W.KatTups h its fs/\fs.length=its.length/\∀ v∈fs,(t=true/\∃ x k,v=Value.str x k)\/(t=false/\∃ i k,v=Value.int i k)
 | [],its,r=>by
  cases r;exact⟨[],.nil,rfl,λ v hv=>by simp at hv⟩
 | row::rows,its,r=>by
  cases r with
  | cons r1 r2 =>
   obtain⟨fs,h1,h2,h3⟩:=fc.lg r2;obtain⟨s,a,o,us,n,e,g,c,dd,q⟩:=r1;subst e
   match row,s with
   | d::ds,s =>
    obtain⟨f,us2,eu,hf⟩:∃ f us2,us.toList=f::us2/\((t=true/\∃ x k,f=Value.str x k)\/(t=false/\∃ i k,f=Value.int i k)):=by
     generalize us.toList=ul at q;cases q with
     | @cons _ u _ ul2 q1 q2 =>
      refine⟨u,ul2,rfl,?_⟩;cases t with
      | true =>
       obtain⟨⟨x,rfl⟩,_⟩:=s;rcases q1 with ⟨_,_,e,_⟩ | ⟨_,k,e,e'⟩
       ·cases e
       ·exact .inl ⟨rfl,_,_,e'⟩
      | false =>
       obtain⟨⟨x,rfl⟩,_⟩:=s;rcases q1 with ⟨_,k,e,e'⟩ | ⟨_,_,e,_⟩
       ·exact .inr ⟨rfl,_,_,e'⟩
       ·cases e
    have e0:us[0]? =some f:=by
     have:us.toList[0]? =some f:=by rw[eu];rfl
     simpa using this
    refine⟨f::fs,.cons g c dd e0 h1,by simp[h2],λ v hv=>?_⟩;rcases List.mem_cons.mp hv with rfl | hv
    ·exact hf
    ·exact h3 v hv
   | [],s=>cases t<;>cases s
end
section
variable {X:Cx}{K:FG}
theorem qI(I:Inv X pins σ H s):∀ {rows:List (List PyData)} {vs:List V} {its:List Value},(∀ r∈rows,Shape sh r)->aT X.K H (rows.map PyData.tuple) vs->Vals vs its->fc s.heap sh rows its
 | [],vs,its,_,h,r=>by simp only[List.map_nil,aT] at h;subst h;cases r;exact .nil
 | row::rows,vs,its,hs,h,r=>by
  simp only[List.map_cons,aT] at h;obtain⟨v,rs,e,h1,h2⟩:=h;subst e;cases r with
  | cons r1 r2 =>
   simp only[ay] at h1;obtain⟨a,us,ev,hq,ra⟩:=h1;subst ev;cases r1;obtain⟨uts,ru,⟨o,ho,hc,n,hd⟩,_⟩:=I.tuple hq;have s1:=hs row (by simp);exact .cons ⟨s1,a,o,uts.toArray,n,rfl,ho,hc,hd,by simpa using nE s1 ra ru⟩ (qI I (λ r hr=>hs r (by simp[hr])) h2 r2)
theorem i6:dk X (.builtin "sorted") (λ xs H Q=>∃ p vs rows t sh,xs=[.ref p]/\SqL X.K H p vs/\aT X.K H (rows.map PyData.tuple) vs/\(∀ r∈rows,Shape (t::sh) r)/\rows.length<64 /\
  ∀ l,H l=none->Q (.ref l) (upd H l (.lst ((bP (λ i j=>cG (rowAt rows i) (rowAt rows j)) rows.length).map λ i=>vs.getD i .non)))):=by
 intro pins s σ H xs us Q I r h;obtain⟨p,vs,rows,t,sh,rfl,hq,ra,hs,hz,q⟩:=h;obtain⟨u,rfl,rx⟩:=vals1 r;cases rx;obtain⟨its,rv,pl,_⟩:=I.list hq;have hl:=rv.length;have hl2:=ra.length;rw[List.length_map] at hl2;have R:=qI I hs ra rv;refine qA (κ:=tuples' true) (lt:=λ i j=>cG (rowAt rows i) (rowAt rows j)) pl.isList (by omega) (λ A' h' k h2 Q' E' q'=>?_) (λ A' h' k i j hi hj C c=>?_) ?_
 ·obtain⟨fs,t1,t2,t3⟩:=fc.lg (R.keep k);cases t with
  | true=>exact W.kat_kind (s:={s with heap:=h'}) (T:=.type "str") t1 (by omega) (λ v hv=>by rcases t3 v hv with ⟨_,x,k,rfl⟩ | ⟨e,_⟩;exact .now;cases e) rfl q'
  | false=>exact W.kat_kind (s:={s with heap:=h'}) (T:=.type "int") t1 (by omega) (λ v hv=>by rcases t3 v hv with ⟨e,_⟩ | ⟨_,x,k,rfl⟩;cases e;exact .now) rfl q'
 ·obtain⟨a,oa,xa,na,e1,g1,c1,d1,s1,w1⟩:=(R.keep k).get i (by omega);obtain⟨b,ob,xb,nb,e2,g2,c2,d2,s2,w2⟩:=(R.keep k).get j (by omega);unfold W.kas_ask;rw[e1,e2];refine W.kat_lt (s:={s with heap:=h'}) g1 d1 g2 d2 ?_;have hn:decide (xa.size<xb.size)=false:=by have z1:=vC.len w1;have z2:=vC.len w2;rw[eE s1] at z1;rw[eE s2] at z2;simp only[Array.length_toList] at z1 z2;simp;omega
  rw[hn];exact sj 0 _ s1 s2 w1 w2 c
 ·obtain⟨n,e⟩:=sortedAll_at s.heap its ((bP (λ i j=>cG (rowAt rows i) (rowAt rows j)) its.length).map λ i=>its.getD i Value.none).toArray;have hfr:H (s.heap.objs.size+1)=none:=I.hok.fresh (Nat.le_succ _);have hlen:its.length=rows.length:=by omega
  rw[hlen] at e;rw[hlen];have olen:(bP (λ i j=>cG (rowAt rows i) (rowAt rows j)) rows.length).length<=64:=by
   by_cases z:rows=[]
   ·subst z;simp[bP]
   ·have:=(ig (fT z hs) rows.length).1.length_eq;rw[List.length_range] at this;omega
  refine⟨.ref _,_,I.laid (a:=s.heap.objs.size+1) (o:=.lst ((bP (λ i j=>cG (rowAt rows i) (rowAt rows j)) rows.length).map λ i=>vs.getD i .non)) (t':=s.toks) (λ b o z=>sortedAll_old z) (Nat.le_succ _) ⟨?_,_,n,?_,e⟩,rfl,q _ hfr⟩
  ·rw[List.length_map];have:=s16;omega
  ·have main:∀ is:List Nat,(∀ i∈is,i<rows.length)->Vals (is.map λ i=>vs.getD i .non) (is.map λ i=>its.getD i Value.none):=by
    intro is
    induction is with
    | nil=>intro _;exact .nil
    | cons i is ih =>
     intro hi;refine .cons ?_ (ih λ j hj=>hi j (by simp[hj]));have h1:=hi i (by simp);obtain⟨u,e1,e2⟩:=Vals.get (i:=i) (x:=vs.getD i .non) rv (by simp[List.getD_eq_getElem?_getD,List.getElem?_eq_getElem (show i<vs.length by omega)]);have e3:its.getD i Value.none=u:=by rw[List.getD_eq_getElem?_getD,e1];rfl
     show RelV (vs.getD i .non) (its.getD i Value.none);rw[e3];exact e2
   refine main _ λ i hi=>?_
   by_cases z:rows=[]
   ·subst z;simp[bP] at hi
   ·simpa using (ig (fT z hs) rows.length).1.mem_iff.mp hi
def acY(rows:List (List PyData)):List W:=rows.map λ r=>.d (.tuple r)
def nO(ws:List W)(M:MH)(Q:QD):Prop:=∃ w rows t sh,ws=[w]/\xx M w (rows.map PyData.tuple)/\(∀ r∈rows,Shape (t::sh) r)/\rows.length<64/\∀ rows',rows'.Perm rows->(rows'.Pairwise λ x y=>cG y x=false)->∀ p,M p=none->Q (.m p) (bN M p (.lst (acY rows')))
theorem tD:eB K (λ xs H Q=>∃ p vs rows t sh,xs=[.ref p]/\SqL K H p vs/\aT K H (rows.map PyData.tuple) vs/\(∀ r∈rows,Shape (t::sh) r)/\rows.length<64 /\
  ∀ l,H l=none->Q (.ref l) (upd H l (.lst ((bP (λ i j=>cG (rowAt rows i) (rowAt rows j)) rows.length).map λ i=>vs.getD i .non)))) nO:=by
 intro vs H ws M Qd Q r m ⟨w,rows,t,sh,e,g,hs,hz,q⟩ k;subst e;obtain⟨v,e1,r1⟩:=cZ r;obtain⟨p,ys,ev,hq,ra⟩:=g.sound r1 m;subst ev;refine⟨p,ys,rows,t,sh,e1,hq,ra,hs,hz,λ l hl=>?_⟩;have hl2:=ra.length;rw[List.length_map] at hl2;obtain⟨pp,pw⟩:((bP (λ i j=>cG (rowAt rows i) (rowAt rows j)) rows.length).map (rowAt rows)).Perm rows/\((bP (λ i j=>cG (rowAt rows i) (rowAt rows j)) rows.length).map (rowAt rows)).Pairwise λ x y=>cG y x=false:=by
  by_cases z:rows=[]
  ·subst z;simp[bP]
  ·exact si z hs
 have mem:∀ i∈bP (λ i j=>cG (rowAt rows i) (rowAt rows j)) rows.length,i<rows.length:=λ i hi=>by
  by_cases z:rows=[]
  ·subst z;simp[bP] at hi
  ·simpa using (ig (fT z hs) rows.length).1.mem_iff.mp hi
 generalize bP (λ i j=>cG (rowAt rows i) (rowAt rows j)) rows.length=is at pp pw mem;have kp:Kp H (upd H l (.lst (is.map λ i=>ys.getD i .non))):=Kp.new hl;refine k _ _ (.m l) _ kp rfl (m.put (mo:=.lst (acY (is.map (rowAt rows)))) kp ⟨_,aq,?_⟩) (q _ pp pw l (m.free hl));clear pp pw
 induction is with
 | nil=>exact .nil
 | cons i is ih =>
  have hi:=mem i (by simp);obtain⟨v,e1,e2⟩:=ra.get (i:=i) (d:=.tuple (rowAt rows i)) (by rw[List.getElem?_map,List.getElem?_eq_getElem hi];simp[rowAt,List.getD_eq_getElem?_getD,List.getElem?_eq_getElem hi])
  have e3:ys.getD i .non=v:=by rw[List.getD_eq_getElem?_getD,e1];rfl
  refine .cons ?_ ?_
  ·show aB K _ (.d (.tuple (rowAt rows i))) (ys.getD i .non);rw[e3];exact ay.keep kp e2
  ·have:=ih (λ j hj=>mem j (by simp[hj])) (Kp.new hl);exact Paired.iu this λ a b z=>aB.keep ⟨λ b' xs' e'=>by
    by_cases y:b'=l
    ·subst y;rw[aq] at e';cases e'
    ·rw[aj y] at e' ⊢;exact e',λ b' o' u' e'=>by
    by_cases y:b'=l
    ·subst y;rw[aq] at e';cases e'
    ·rw[aj y] at e' ⊢;exact e'⟩ z
end
theorem afN(x:bY P w H h a o):∃ ob,h.get? a=some ob:=by
 induction o with
 | lst xs=>obtain⟨_,_,_,_,e⟩:=x;exact⟨_,e⟩
 | tup xs=>obtain⟨_,_,_,ob,e,_⟩:=x;exact⟨_,e⟩
 | dK kvs=>obtain⟨_,_,_,_,o,_,_,e,_⟩:=x;exact⟨_,e⟩
 | dT kvs=>obtain⟨_,_,_,_,o,_,_,e,_⟩:=x;exact⟨_,e⟩
 | set S n=>obtain⟨o,_,_,_,e,_⟩:=x;exact⟨_,e⟩
 | ins C dx fs=>obtain⟨_,_,_,e,_⟩:=x;exact⟨_,e⟩
 | own y=>obtain⟨_,e⟩:=x;exact⟨_,e⟩
 | xd fs=>obtain⟨_,⟨_,_,_,e,_⟩,_⟩:=x;exact⟨_,e⟩
 | rng lo hi=>obtain⟨_,_,_,e⟩:=x;exact⟨_,e⟩
 | frz ob u ih=>obtain⟨e,_⟩:=x;exact⟨_,e⟩
 | tbl ps=>exact⟨_,show h.get? a=some _ from x⟩
 | met f y=>exact⟨_,show h.get? a=some _ from x⟩
 | ext φ=>obtain⟨_,⟨_,e⟩,_⟩:=x;exact⟨_,e⟩
theorem xk(x:HOk P w H h)(e:h.get? a=none):H a=none:=by
 cases q:H a with
 | none=>rfl
 | some u =>
  obtain⟨ob,z⟩:=afN (x a u q);rw[e] at z;cases z
theorem Inv.ah3(I:Inv X pins σ H s)(k:∀ b u,s.heap.get? b=some u->h'.get? b=some u)(hp:s.heap.get? a=none)(new:bY X.prog X.w (upd H a o) h' a o) :
  Inv X pins σ (upd H a o) {s with heap:=h',toks:=t'}:=by
 have hn:=xk I.hok hp;have ne:∀ b u,s.heap.get? b=some u->b≠a:=λ b u e z=>by rw[z,hp] at e;cases e
 refine I.un ⟨λ b ob e _ _ _=>k b ob e,λ b ob e _ _ _=>⟨ob.slots,k b ob e⟩,λ b ob e n _=>by rw[aj (ne b ob e)];exact n,λ b ob e _=>⟨ob,k b ob e⟩,λ b xs e=>by rw[aj (aF e hn)];exact e,λ b ob u e=>by rw[aj (aF e hn)];exact e,λ b ps e=>⟨#[],by rw[aj (aF e hn),e];simp⟩⟩ λ b u e=>?_
 by_cases hb:b=a
 ·subst hb;rw[aq] at e;cases e;exact new
 ·rw[aj hb] at e;exact(I.hok b u e).qh (λ c v _ q=>k c v q) (λ c q=>by rw[aj (aF q hn)];exact q) λ c xs q=>by rw[aj (aF q hn)];exact q
section
variable {X:Cx}{K:FG}
theorem oR:∀ {zs:List Str} {vs:List (Key×Value)} {us:List Value},vs.map (·.1)=zs.map Sum.inr->us.length=vs.length->(∀ (j:Nat) v,us[j]? =some v->∃ k x,vs[j]? =some (k,x)/\(aN P w).is k v=true)->StrsAre us zs
 | [],vs,us,h,hl,hp=>by
  have e:vs=[]:=by simpa using h
  subst e;have e:us=[]:=by simpa using hl
  subst e;exact .nil
 | z::zs,vs,us,h,hl,hp=>by
  match vs,us,h,hl,hp with
  | (k,x)::vs,u::us,h,hl,hp =>
   simp only[List.map_cons,List.cons.injEq] at h;obtain⟨k',x',e,hk⟩:=hp 0 u rfl;simp at e;obtain⟨e1,e2⟩:=e;subst e1 e2;rw[h.1,vp] at hk;obtain⟨t,e⟩:∃ t,u=.str z t:=by
    rcases bE hk with ⟨i,t,e,_⟩ | ⟨y,t,e,e'⟩
    ·cases e
    ·cases e;exact⟨t,e'⟩
   subst e;exact .cons z t (oR h.2 (by simpa using hl) λ j v hj=>by simpa using hp (j+1) v (by simpa using hj))
  | [],_,h,_,_=>simp at h
  | _::_,[],_,hl,_=>simp at hl
def isNone:W->Bool
 | .d .none=>true
 | _=>false
theorem lH(r:aB K H w v):decide (v=.non)=isNone w:=by
 cases w with
 | m a=>cases (show v=.ref a from r);rfl
 | t n=>cases (show v=.ty n from r);rfl
 | d x =>
  cases x<;>simp only[aB,ay] at r
  ·subst r;rfl
  ·subst r;rfl
  ·subst r;rfl
  ·subst r;rfl
  all_goals first
   | (obtain⟨a,vs,e,_⟩:=r;subst e;rfl)
   | (obtain⟨a,o,l,e,_⟩:=r;subst e;rfl)
def pf(neg:Bool)(w:W)(w':W)(M:MH)(Q:QD):Prop:=w'=.d .none/\Q (.d (.bool (xor neg (isNone w)))) M
theorem nC:OpD K (λ x y H Q=>y=.non/\Q (.bl (decide (x=.non))) H) (pf false):=by intro x y H w w' M Qd Q r1 r2 m ⟨e,q⟩ k;subst e;simp only[aB,ay] at r2;refine⟨r2,k _ _ (.d (.bool (isNone w))) M (Kp.refl _) ?_ m (by simpa using q)⟩;rw[lH r1];simp[aB,ay]
theorem sd:OpD K (λ x y H Q=>y=.non/\Q (.bl (!decide (x=.non))) H) (pf true):=by intro x y H w w' M Qd Q r1 r2 m ⟨e,q⟩ k;subst e;simp only[aB,ay] at r2;refine⟨r2,k _ _ (.d (.bool (!isNone w))) M (Kp.refl _) ?_ m (by simpa using q)⟩;rw[lH r1];simp[aB,ay]
end
theorem Inv.ac5(I:Inv X pins σ H s)(k:∀ b o,b≠it->b≠e->s.heap.get? b=some o->h'.get? b=some o)(f:iE X pins H it)(g:iE X pins H e):Inv X pins σ H {s with heap:=h',toks:=t'}:=by
 obtain⟨f0,f1,f2,f3,f4,f5⟩:=f;obtain⟨g0,g1,g2,g3,g4,g5⟩:=g;have nit:∀ b u,H b=some u->b≠it:=λ b u q z=>by rw[z,f0] at q;cases q
 have ne:∀ b u,H b=some u->b≠e:=λ b u q z=>by rw[z,g0] at q;cases q
 refine I.step (g':=s.gens) (d':=s.drawn) (ch:=[it,e]) (λ b hb=>?_) (λ b o _ _ hc q _=>k b o (λ z=>hc (by simp[z])) (λ z=>hc (by simp[z])) q) (λ b o _ _ hc q _=>⟨o.slots,k b o (λ z=>hc (by simp[z])) (λ z=>hc (by simp[z])) q⟩) (λ _ _ _ _ n=>n)
  (λ b o hc q=>⟨o,k b o (λ z=>hc (by simp[z])) (λ z=>hc (by simp[z])) q⟩) (λ _ _ q=>q) (λ _ _ _ q=>q) (λ b ps q=>⟨#[],by rw[q];simp⟩) (λ m hm=>?_) (λ b u q=>?_) I.bare
 ·have z:b=it\/b=e:=by simpa using hb
  rcases z with rfl | rfl
  ·exact⟨f3,f1,f4,f5⟩
  ·exact⟨g3,g1,g4,g5⟩
 ·obtain⟨o,es,ep,ho,r⟩:=hm;exact⟨o,es,ep,k _ o (Ne.symm f1) (Ne.symm g1) ho,r⟩
 ·refine(I.hok b u q).qh (λ c v hc z=>k c v ?_ ?_ z) (λ _ z=>z) λ _ _ z=>z
  ·rcases hc with z | z
   ·rw[z];exact nit b u q
   ·exact nit c _ z
  ·rcases hc with z | z
   ·rw[z];exact ne b u q
   ·exact ne c _ z
def Ite(K:FG)(a:Addr):It:=
 ⟨λ i H=>∃ xs x,SqL K H a xs/\xs[i]? =some x,λ i H x H'=>∃ T v,H T=none/\x=.ref T/\H'=upd H T (.tup [.int i,v])/\∀ xs,SqL K H a xs->xs[i]? =some v,λ i H=>∃ xs,SqL K H a xs/\xs.length<=i⟩
theorem yM{P:Program}{w:World}{K:FG}{elts:List Expr}{x1:Nat}{tpos:Pos}(a e it:Addr)(hne:e≠it) :
  Turn P w K (.Tuple elts x1 tpos) (Ite K a) [e,it] e (λ i h=>(∃ old,IsEnum h e it (i:Nat) old)/\h.IsListIter it a i) where
 mem:=by simp
 obj:=λ i h ⟨⟨old,st⟩,⟨oi,ei,ci,di⟩⟩ b hb=>by
  have z:b=e\/b=it:=by simpa using hb
  rcases z with rfl | rfl
  ·exact⟨_,st,λ v z=>by cases z⟩
  ·exact⟨oi,ei,λ v z=>by rw[di] at z;cases z⟩
 keep:=λ i h h' ⟨⟨old,st⟩,li⟩ k=>⟨⟨old,k e (by simp) _ st⟩,li.at λ o q=>k it (by simp) o q⟩
 item:=by
  intro X hP hw hK hc i pins s σ H E I hf ⟨⟨old,st⟩,li⟩ ⟨xs,x,hq,hx⟩;subst hP hw hK;have fe:=hf e (by simp);have fi:=hf it (by simp);obtain⟨its,rv,p,hz⟩:=I.list hq;obtain⟨u,hu,ru⟩:=rv.get hx;refine wpAny_pyNext_enum_item st li p.isList (x:=u) (by simpa using hu) hne λ h' st' li' ht hsz kp=>?_;refine⟨_,rfl,wpAny_letOwnedTupleGo_enum st' λ h'' st'' sb=>?_⟩;obtain⟨t0,t1,t2,t3,t4,t5⟩:=I.nU (Nat.le_refl _) (I.hok.fresh (Nat.le_refl _));have nT:s.heap.objs.size≠e:=Nat.ne_of_gt (Heap.lt_size st);have I1:Inv X pins σ H {s with heap:=h'',toks:=s.toks+1}:=Inv.ac5 I (λ b ob h1 h2 q=>(sb.2 b h2).trans (kp b ob h2 h1 q)) fi fe;have eT:h''.get? s.heap.objs.size=some {cls:=.type "tuple",data:=.seq #[.int (i:Nat) s.toks,u]}:=(sb.2 _ nT).trans ht;have I2:=Inv.abx (us:=[.int (i:Nat) s.toks,u]) (ys:=[.int i,x]) I1 eT t0 (.cons ⟨_,rfl⟩ (.cons ru .nil)) (by simp;have:=s16;omega) t3 t1 t4 t5;have li'':h''.IsListIter it a (i+1):=li'.at λ o q=>(sb.2 it hne.symm).trans q;have hit:it<s.heap.objs.size:=by obtain⟨oi,ei,_⟩:=li;exact Heap.lt_size ei
  refine⟨.ref s.heap.objs.size,_,I2,rfl,⟨_,x,t0,rfl,rfl,λ ys hy=>by rw[I.sH hy hq];exact hx⟩,⟨⟨_,st''⟩,li''⟩,λ b hb=>?_⟩;have z:b=e\/b=it:=by simpa using hb
  rcases z with rfl | rfl
  ·rw[aj nT.symm];exact fe.1
  ·rw[aj (Nat.ne_of_lt hit)];exact fi.1
 done:=by intro X hP hw hK hc i pins s σ H E I hf ⟨⟨old,st⟩,li⟩ ⟨xs,hq,hx⟩;subst hP hw hK;obtain⟨f0,f1,f2,f3,f4,f5⟩:=hf it (by simp);obtain⟨its,rv,p,hz⟩:=I.list hq;have hl:=rv.length;exact wpAny_pyNext_enum_end (I.ok.hd hc) st li p.isList (by simp;omega) λ h' eb=>⟨rfl,I.turned (t':=s.toks) (λ b o hb q=>eb b o hb q) f0 f1 f3 f4 f5⟩
 self:=λ _ _ _ _ _ ⟨⟨old,st⟩,li⟩ h=>wpAny_pyIter_enum st h
theorem qa:bootBuiltins "enumerate" = some (.type "enumerate"):=by decide +kernel
def aid(K:FG)(ta:TA):TI:=λ σ H R=>ta σ H λ vs H1=>∃ b xs,vs=[.ref b]/\SqL K H1 b xs/\R (Ite K b) H1
theorem adS{elts:List Expr}{x1:Nat}{tpos:Pos}(hg:Gl X "enumerate")(hm:X.mg "enumerate" = none)(ha:PA X [a] ta)(hs:starEach [a] X.env=[(false,eval a X.env)]:=by rfl) :
  PI X (.Tuple elts x1 tpos) (.Call (.Name "enumerate" p) [a] [] pos) (aid X.K ta):=by
 intro pins s σ H R I h;refine Call_ (fD I hg hm qa (PyProof.Rows.callWith_type1 (thn (ha pos pins s σ H _ I h) λ us s1 ⟨vs,H1,I1,r1,q1⟩=>?_) hs rfl));obtain⟨b,xs,e,hq,q⟩:=q1;subst e;cases r1 with
 | cons r rr =>
  cases rr;cases (show _=Value.ref b from r);obtain⟨its,rv,pl,hz⟩:=I1.list hq;refine call_enumerate_list pl.isList λ h' st li hsz kp=>?_;have I2:Inv X pins σ H1 {s1 with heap:=h'}:=I1.kept (t':=s1.toks) kp;refine wpAny_pyIter_enum st ?_;refine⟨_,[_,_],_,_,H1,rfl,I2,yM b _ _ (Nat.succ_ne_self _),⟨⟨_,st⟩,li⟩,λ c hc=>?_,q⟩;have z:c=s1.heap.objs.size+1\/c=s1.heap.objs.size:=by simpa using hc
  rcases z with rfl | rfl
  ·exact I1.nU (Nat.le_succ _) (I1.hok.fresh (Nat.le_succ _))
  ·exact I1.nU (Nat.le_refl _) (I1.hok.fresh (Nat.le_refl _))
def nL(ds:List PyData):List W:=(List.range ds.length).map λ i=>.d (.tuple [.int (i:Nat),ds.getD i .none])
def aaK(t:TAd)(τ:DS)(M:MH)(R:List W->MH->Prop):Prop:=t τ M λ ws M1=>∃ ds,ws=[.d (.list ds)]/\R (nL ds) M1
theorem su:bootBuiltins "sum" = some (.builtin "sum"):=by decide +kernel
theorem xo:bootBuiltins "min" = some (.builtin "min"):=by decide +kernel
theorem kj(f:Nat->Int)(k:Nat):preSum f (k+1)=preSum f k+f k:=rfl
theorem gx(ps:List (Int×Tok)):∀ k,k<=ps.length->preSum (numAt ps.toArray) k=((ps.map (·.1)).take k).sum
 | 0,_=>by simp[preSum]
 | k+1,h=>by
  rw[kj,gx ps k (by omega),List.take_succ,List.sum_append];have hk:k<ps.length:=by omega
  simp[numAt,List.getElem?_eq_getElem hk]
theorem sum_bound:∀ (ns:List Int),(∀ n∈ns,0<=n/\n<=1000000)->0<=ns.sum/\ns.sum<=1000000 * ns.length
 | [],_=>by simp
 | n::ns,h=>by have h1:=h n (by simp);have h2:=sum_bound ns λ x hx=>h x (by simp[hx]);simp only[List.sum_cons,List.length_cons];omega
section
variable {X:Cx}{K:FG}
theorem kK(hc:X.calm=true):dk X (.builtin "sum") (λ xs H Q=>∃ p,∃ ns:List Int,xs=[.ref p]/\SqL X.K H p (ns.map V.int)/\ns.length<=1000/\(∀ n∈ns,0<=n/\n<=1000000)/\Q (.int ns.sum) H):=by
 intro pins s σ H xs us Q I r h;obtain⟨p,ns,rfl,hq,hlen,hb,q⟩:=h;obtain⟨u,rfl,rx⟩:=vals1 r;cases rx;obtain⟨its,rv,pl,hz⟩:=I.list hq;obtain⟨ps,e1,e2⟩:=sD rv;subst e1;have hl:s.heap.IsList p (intItems ps.toArray):=by
  have e:(ps.map λ p=>Value.int p.1 p.2).toArray=intItems ps.toArray:=by simp[intItems]
  rw[<- e];exact pl.isList
 have hpl:ps.length=ns.length:=by rw[<- e2,List.length_map]
 refine sum_intList (I.ok.hd hc) hl (λ j hj=>?_) λ h' tk t' kk=>?_
 ·have hj':j<ps.length:=by simpa using hj
  have hn:numAt ps.toArray j=(ps[j]).1:=by simp[numAt,List.getElem?_eq_getElem hj']
  have hm:(ps[j]).1∈ns:=by rw[<- e2];exact List.mem_map.mpr ⟨_,List.getElem_mem hj',rfl⟩
  have b1:=hb _ hm;have b2:=sum_bound (ns.take (j+1)) λ n hn=>hb n (List.mem_of_mem_take hn);rw[List.length_take] at b2;refine⟨by rw[hn];exact⟨by omega,by omega⟩,?_⟩;rw[gx ps (j+1) (by omega),e2];exact⟨by omega,by omega⟩
 ·refine⟨.int _,H,I.kept kk,⟨_,rfl⟩,?_⟩;have:preSum (numAt ps.toArray) ps.toArray.size=ns.sum:=by rw[List.size_toArray,gx ps ps.length (Nat.le_refl _),e2,hpl,List.take_length]
  rw[this];exact q
def xI(ws:List W)(M:MH)(Q:QD):Prop:=∃ w,∃ ns:List Int,ws=[w]/\xx M w (ns.map PyData.int)/\ns.length<=1000/\(∀ n∈ns,0<=n/\n<=1000000)/\Q (.d (.int ns.sum)) M
theorem xF:eB K (λ xs H Q=>∃ p,∃ ns:List Int,xs=[.ref p]/\SqL K H p (ns.map V.int)/\ns.length<=1000/\(∀ n∈ns,0<=n/\n<=1000000)/\Q (.int ns.sum) H) xI:=by intro vs H ws M Qd Q r m ⟨w,ns,e,g,hl,hb,q⟩ k;subst e;obtain⟨v,e1,r1⟩:=cZ r;obtain⟨p,ys,ev,hs,ra⟩:=g.sound r1 m;have ey:=pN ra;subst ev ey;exact⟨p,ns,e1,hs,hl,hb,k _ H (.d (.int _)) M (Kp.refl H) (by simp[aB,ay]) m q⟩
def rV(ws:List W)(M:MH)(Q:QD):Prop:=∃ i j,ws=[.d (.int i),.d (.int j)]/\Q (.d (.int (if j<i then j else i))) M
theorem qB:eB K (λ xs H Q=>∃ i j,xs=[V.int i,V.int j]/\Q (V.int (if j<i then j else i)) H) rV:=by intro vs H ws M Qd Q r m ⟨i,j,e,q⟩ k;subst e;obtain⟨v,v',e1,r1,r2⟩:=tX r;simp only[aB,ay] at r1 r2;subst r1 r2;exact⟨i,j,e1,k _ H (.d (.int _)) M (Kp.refl H) (by simp[aB,ay]) m q⟩
theorem qx:dk X (.type "dict") (λ xs H Q=>∃ a kvs,xs=[.ref a]/\Rd H a (.dK kvs)/\∀ p,H p=none->Q (.ref p) (upd H p (.dK kvs))):=by intro pins s σ H xs us Q I r h;obtain⟨a,kvs,rfl,hr,q⟩:=h;obtain⟨u,rfl,rx⟩:=vals1 r;cases rx;exact aab I hr λ p s' hp I'=>⟨.ref p,_,I',rfl,q p hp⟩
def sY(ws:List W)(M:MH)(Q:QD):Prop:=∃ a kvs,ws=[.m a]/\M a=some (.dic kvs)/\∀ p,M p=none->Q (.m p) (bN M p (.dic kvs))
theorem yO:eB K (λ xs H Q=>∃ a kvs,xs=[.ref a]/\Rd H a (.dK kvs)/\∀ p,H p=none->Q (.ref p) (upd H p (.dK kvs))) sY:=by intro vs H ws M Qd Q r m ⟨a,kvs,e,hm,q⟩ k;subst e;obtain⟨v,e1,r1⟩:=cZ r;have e2:v=.ref a:=r1;subst e2;obtain⟨l,e,pr⟩:=m _ _ hm;refine⟨a,l,e1,.inl e,λ p hp=>?_⟩;have kp:Kp H (upd H p (.dK l)):=Kp.new hp;exact k _ _ (.m p) _ kp rfl (m.put (mo:=.dic kvs) kp ⟨l,aq,Paired.iu pr λ p q z=>⟨z.1,z.2.keep kp⟩⟩) (q p (m.free hp))
end
end D
namespace Rc
open L2 D
section
variable {α:Type}(nm:α->Str)
def rk(g:α->PyData)(L:List α):List (Key×PyData):=L.map λ a=>(.inr (nm a),g a)
def fd(L:List α)(n:Str):Option α:=L.find? λ a=>decide (nm a=n)
def pt(L:List α)(z:α):List α:=match fd nm L (nm z) with
 | none=>L++[z]
 | some _=>L.map λ y=>if nm y=nm z then z else y
variable {nm}
theorem xf(b:α)(L:List α)(n:Str):fd nm (b::L) n=if nm b=n then some b else fd nm L n:=by
 by_cases e:nm b=n<;>simp[fd,List.find?_cons,e]
theorem abC(h:fd nm L n=some x):x∈L/\nm x=n:=by
 unfold fd at h;have h1:=List.find?_some h;exact⟨List.mem_of_find?_eq_some h,by simpa using h1⟩
theorem fd_none(h:fd nm L n=none):∀ b∈L,nm b≠n:=by
 unfold fd at h;intro b hb e;have:=List.find?_eq_none.mp h b hb;simp[e] at this
theorem zD(g:α->PyData)(L:List α):aR (rk nm g L)=L.map λ b=>((.inr (nm b):Key),W.d (g b)):=by simp[aR,rk]
theorem yI(g:α->PyData):∀ (L:List α) (n:Str),gJ (aR (rk nm g L)) (.inr n)=(fd nm L n).map λ b=>.d (g b):=by
 intro L n;rw[zD]
 induction L with
 | nil=>rfl
 | cons b L ih =>
  rw[List.map_cons,pO,xf,ih]
  by_cases e:nm b=n
  ·simp[e]
  ·have e':¬ (Sum.inr (nm b):Key)=.inr n:=λ z=>e (Sum.inr.inj z);simp[e,e']
theorem ad5(g:α->PyData)(L:List α)(z:α)(hn:nm z=n):lQ (aR (rk nm g L)) (.inr n) (.d (g z))=aR (rk nm g (pt nm L z)):=by
 subst hn;unfold lQ;rw[sJ,yI,zD,zD];unfold pt;cases e:fd nm L (nm z) with
 | none=>rw[if_neg (by simp)];simp
 | some x =>
  rw[if_pos (by rfl),List.map_map,List.map_map];refine List.map_congr_left λ b _=>?_
  by_cases e:nm b=nm z
  ·simp[e]
  ·have e':¬ (Sum.inr (nm b):Key)=.inr (nm z):=λ z=>e (Sum.inr.inj z);simp[e,e']
theorem aaG(L:List α)(z:α):(pt nm L z).map nm=match fd nm L (nm z) with | none=>L.map nm++[nm z] | some _=>L.map nm:=by
 unfold pt;cases e:fd nm L (nm z) with
 | none=>simp
 | some x =>
  dsimp only;rw[List.map_map];refine List.map_congr_left λ b _=>?_
  by_cases e:nm b=nm z
  ·simp[e]
  ·simp[e]
theorem ah2(nd:(L.map nm).Nodup):((pt nm L z).map nm).Nodup:=by
 rw[aaG];cases e:fd nm L (nm z) with
 | some x=>exact nd
 | none =>
  show(L.map nm++[nm z]).Nodup;rw[List.nodup_append];refine⟨nd,by simp,λ x hx y hy=>?_⟩;simp at hy;obtain⟨b,hb,rfl⟩:=List.mem_map.mp hx;rw[hy];exact fd_none e b hb
theorem afd(L:List α)(z:α):(pt nm L z).length<=L.length+1:=by
 unfold pt;cases fd nm L (nm z) with
 | none=>simp
 | some x=>simp
theorem abz(h:y∈pt nm L z):y=z\/y∈L:=by
 unfold pt at h;cases e:fd nm L (nm z) with
 | none =>
  rw[e] at h;rcases List.mem_append.mp h with h | h
  ·exact .inr h
  ·exact .inl (by simpa using h)
 | some x =>
  rw[e] at h;obtain⟨b,hb,eb⟩:=List.mem_map.mp h
  by_cases e:nm b=nm z
  ·rw[if_pos e] at eb;exact .inl eb.symm
  ·rw[if_neg e] at eb;exact .inr (eb ▸ hb)
theorem ain(nd:(L.map nm).Nodup)(h:b∈L):fd nm L (nm b)=some b:=by
 induction L with
 | nil=>cases h
 | cons x L ih =>
  rw[List.map_cons,List.nodup_cons] at nd;rw[xf];rcases List.mem_cons.mp h with rfl | h
  ·rw[if_pos rfl]
  ·have:nm x≠nm b:=λ e=>nd.1 (List.mem_map.mpr ⟨b,h,e.symm⟩);rw[if_neg this];exact ih nd.2 h
end
mutual
def okD:Nat->PyData->Bool
 | _,.none=>true
 | _,.bool _=>true
 | _,.int i=>decide (i.natAbs<2 ^ 100)
 | _,.str z=>acp z
 | k+1,.list ds=>okA k ds
 | k+1,.tuple ds=>okA k ds
 | _,_=>false
def okA:Nat->List PyData->Bool
 | _,[]=>true
 | k,d::ds=>okD k d&&okA k ds
end
theorem rZ:∀ {ds:List PyData},(∀ d∈ds,okD k d=true)->okA k ds=true
 | [],_=>by simp[okA]
 | d::ds,h=>by simp only[okA,Bool.and_eq_true];exact⟨h d (by simp),rZ λ x hx=>h x (by simp[hx])⟩
theorem aaJ(h:acp z=true):Asc z:=adY h
theorem vQ(h:Asc z):PyData.strOk z=true:=by
 unfold PyData.strOk;rw[Array.all_eq_true_iff_forall_mem];intro c hc;exact decide_eq_true (by have:=h c (by simpa using hc);omega)
theorem acm(h:acp z=true):PyData.strOk z=true:=vQ (aaJ h)
mutual
theorem vI:∀ (k:Nat) (d:PyData),okD k d=true->fj d=true
 | _,.none,_=>rfl
 | _,.bool _,_=>rfl
 | _,.int i,h=>by
  cases ‹Nat› <;> simp only[okD,decide_eq_true_eq] at h<;>exact decide_eq_true (log2_small h)
 | _,.str z,h=>by
  cases ‹Nat› <;> simp only[okD] at h<;>exact h
 | k+1,.list ds,h=>by simp only[okD] at h;simp only[fj];exact mZ k ds h
 | k+1,.tuple ds,h=>by simp only[okD] at h;simp only[fj];exact mZ k ds h
 | 0,.list ds,h=>by simp[okD] at h
 | 0,.tuple ds,h=>by simp[okD] at h
 | k,.dict kvs,h=>by cases k<;>simp[okD] at h
theorem mZ:∀ (k:Nat) (ds:List PyData),okA k ds=true->lz ds=true
 | _,[],_=>by simp[lz]
 | k,d::ds,h=>by simp only[okA,Bool.and_eq_true] at h;simp only[lz,vI k d h.1,mZ k ds h.2,Bool.and_self]
end
mutual
theorem yB:∀ (k:Nat) (d:PyData),okD k d=true->PyData.canLay0 d=true
 | _,.none,_=>by simp[PyData.canLay0]
 | _,.bool _,_=>by simp[PyData.canLay0]
 | _,.int i,h=>by simp[PyData.canLay0]
 | _,.str z,h=>by
  cases ‹Nat› <;> simp only[okD] at h<;>simp[PyData.canLay0,acm h]
 | k+1,.list ds,h=>by simp only[okD] at h;simp only[PyData.canLay0];exact rn k ds h
 | k+1,.tuple ds,h=>by simp only[okD] at h;simp only[PyData.canLay0];exact rn k ds h
 | 0,.list ds,h=>by simp[okD] at h
 | 0,.tuple ds,h=>by simp[okD] at h
 | k,.dict kvs,h=>by cases k<;>simp[okD] at h
theorem rn:∀ (k:Nat) (ds:List PyData),okA k ds=true->PyData.canLayAll0 ds=true
 | _,[],_=>by simp[PyData.canLayAll0]
 | k,d::ds,h=>by simp only[okA,Bool.and_eq_true] at h;simp only[PyData.canLayAll0,yB k d h.1,rn k ds h.2,Bool.and_self]
end
mutual
theorem nu:∀ (k:Nat) (d:PyData),okD k d=true->PyData.depth d<=k+1
 | _,.none,_=>by simp[PyData.depth]
 | _,.bool _,_=>by simp[PyData.depth]
 | _,.int i,h=>by simp[PyData.depth]
 | _,.str z,h=>by simp[PyData.depth]
 | k+1,.list ds,h=>by simp only[okD] at h;have:=jO k ds h;simp only[PyData.depth];omega
 | k+1,.tuple ds,h=>by simp only[okD] at h;have:=jO k ds h;simp only[PyData.depth];omega
 | 0,.list ds,h=>by simp[okD] at h
 | 0,.tuple ds,h=>by simp[okD] at h
 | k,.dict kvs,h=>by cases k<;>simp[okD] at h
theorem jO:∀ (k:Nat) (ds:List PyData),okA k ds=true->PyData.depthAll ds<=k+1
 | _,[],_=>by simp[PyData.depthAll]
 | k,d::ds,h=>by simp only[okA,Bool.and_eq_true] at h;have h1:=nu k d h.1;have h2:=jO k ds h.2;simp only[PyData.depthAll];omega
end
mutual
theorem yU:∀ (k:Nat) (d:PyData),okD k d=true->PyData.hasDict d=false
 | _,.none,_=>by simp[PyData.hasDict]
 | _,.bool _,_=>by simp[PyData.hasDict]
 | _,.int i,h=>by simp[PyData.hasDict]
 | _,.str z,h=>by simp[PyData.hasDict]
 | k+1,.list ds,h=>by simp only[okD] at h;simp only[PyData.hasDict];exact rf k ds h
 | k+1,.tuple ds,h=>by simp only[okD] at h;simp only[PyData.hasDict];exact rf k ds h
 | 0,.list ds,h=>by simp[okD] at h
 | 0,.tuple ds,h=>by simp[okD] at h
 | k,.dict kvs,h=>by cases k<;>simp[okD] at h
theorem rf:∀ (k:Nat) (ds:List PyData),okA k ds=true->PyData.hasDictAll ds=false
 | _,[],_=>by simp[PyData.hasDictAll]
 | k,d::ds,h=>by simp only[okA,Bool.and_eq_true] at h;simp only[PyData.hasDictAll,yU k d h.1,rf k ds h.2,Bool.or_self]
end
theorem iJ(hk:k<=50)(h:okD k d=true):k7 d=true:=by have h1:=yB k d h;have h2:=nu k d h;have h3:=yU k d h;simp only[k7,SeqAt.shaped,h1,h3,Bool.true_and,Bool.not_false,Bool.and_true];exact decide_eq_true (by omega)
theorem mU(hk:k<=50)(h:okD k d=true)(h':okD k d'=true):d9 d d'=true:=by have h1:=iJ hk h;have h2:=iJ hk h';cases d<;>cases d'<;>simp[d9,h1,h2]
theorem mP(h:okD k d=true):PyData.eqv d d=true:=SeqAt.eqv_refl _ (yB k d h)
theorem nY(hk:k<=50)(h:okD k d=true)(hb:big d<=1000000):fG d=true:=
 ad1 (vI k d h) hb (by have:=nu k d h;omega) (yU k d h)
theorem mR(x y:Int):PyData.eqv (.int x) (.int y)=decide (x=y):=by
 rw[PyData.eqv]
 by_cases e:x=y
 ·subst e;simp
 ·simp[e]
theorem yd{M:MH}{a b:Addr}{o:MO}(ha:M a=some o)(hb:M b=none):a≠b:=λ e=>by rw[e,hb] at ha;cases ha
theorem adx{M:MH}{a b:Addr}{o u:MO}(h:M a=some o)(hb:M b=none):bN M b u a=some o:=by rw[aw (yd h hb)];exact h
end Rc
namespace Stc
open L2 D Rc
theorem ahD(h0:0<=r)(h1:r<ds.length):∃ d,ixW M (.d (.list ds)) r=some (.d d)/\d∈ds:=by
 have hn:r.toNat<ds.length:=by omega
 refine⟨ds[r.toNat],?_,List.getElem_mem hn⟩;simp only[ixW,atI,wL h0 h1,Option.bind_some,List.getElem?_eq_getElem hn,Option.map_some]
theorem yJ{zs:List Str}{r:Int}(h0:0<=r)(h1:r<zs.length):∃ z,ixW M (.d (.list (zs.map PyData.str))) r=some (.d (.str z))/\z∈zs:=by obtain⟨d,e,hd⟩:=ahD (M:=M) (ds:=zs.map PyData.str) h0 (by simpa using h1);obtain⟨i,hi,rfl⟩:=List.mem_map.mp hd;exact⟨i,e,hi⟩
theorem afp(h:Bag M p):∃ o,M p=some o:=by obtain⟨a,b,c,ns,e,_⟩:=h;exact⟨_,e⟩
theorem nF(h:Bag M p)(e:M' p=M p):Bag M' p:=by obtain⟨a,b,c,ns,h1,h2⟩:=h;exact⟨a,b,c,ns,e.trans h1,h2⟩
end Stc
namespace D
open L2
def afx(i:Nat)(te:TD)(f:Int->Int->Int)(D:Ed)(τ:DS)(M:MH):Prop:=∃ a,τ[i]? =some (some (.d (.int a)))/\te τ M λ w M1=>∃ b,w=.d (.int b)/\D.nx (τ.set i (some (.d (.int (f a b))))) M1
def aiI(lo:Int)(n:Nat):It:=⟨λ i _=>i<n,λ i H x H'=>H'=H/\x=.int (lo+i * (-1)),λ i _=>n<=i⟩
theorem rO{P:Program}{w:World}{K:FG}{tg:Expr}(it:Addr)(lo:Int)(n:Nat):Turn P w K tg (aiI lo n) [it] it (λ i h=>IsRangeIter h it (lo+(i:Nat) * (-1)) ((n:Int)-(i:Nat)) (-1)) where
 mem:=by simp
 obj:=λ i h st b hb=>by
  have e:b=it:=by simpa using hb
  subst e;exact⟨_,st,λ v z=>by have z':Data.fields _=Data.cell v:=z;cases z'⟩
 keep:=λ i h h' st k=>k it (by simp) _ st
 item:=by intro X hP hw hK hc i pins s σ H E I hf st hg;subst hP hw hK;obtain⟨f0,f1,f2,f3,f4,f5⟩:=hf it (by simp);have W:=Walks.range (prog:=X.prog) (w:=X.w) (I.ok.hd hc) it lo (-1) n;refine W.item i s _ _ hg st λ v h' tk hv st' kk=>?_;obtain⟨t,rfl⟩:=hv;have I1:Inv X pins σ H {s with heap:=h',toks:=tk}:=I.turned (λ b o hb e=>kk b o (by simpa using hb) e) f0 f1 f3 f4 f5;exact⟨_,rfl,uh (s:={s with heap:=h',toks:=tk}) (n:= "range_iterator") st' rfl rfl (by decide) ⟨.int (lo+i * (-1)),H,I1,⟨t,rfl⟩,⟨rfl,rfl⟩,st',λ b hb=>(hf b hb).1⟩⟩
 done:=by intro X hP hw hK hc i pins s σ H E I hf st hg;subst hP hw hK;obtain⟨f0,f1,f2,f3,f4,f5⟩:=hf it (by simp);exact wpAny_pyNext_range_end (I.ok.hd hc) st (by have:n<=i:=hg;omega) λ h' eb=>⟨rfl,I.turned (t':=s.toks) (λ b o hb e=>eb b o hb e) f0 f1 f3 f4 f5⟩
 self:=λ _ _ _ _ _ st h=>wpAny_pyIter_rangeiter st h
theorem om(h0:0<=n):Builtin.Range.rangeSize n 0 (-1)=n:=by
 unfold Builtin.Range.rangeSize;rw[if_neg (by decide)]
 split
 ·simp
 ·omega
theorem u9(h0:0<=n)(h1:n<=1000):Builtin.Range.small n 0 (-1)=true:=by
 have hm:(1000:Int)<2 ^ 62:=by decide
 unfold Builtin.Range.small;rw[om h0];simp only[Builtin.Range.rangeFitsLong,Bool.and_eq_true,Bool.or_eq_true,decide_eq_true_eq,beq_iff_eq];exact⟨⟨⟨⟨⟨by omega,by omega⟩,by decide,by decide⟩,by decide,by decide⟩,by omega,by omega⟩,.inr (by decide)⟩
def ah1(ta:TA):TI:=λ σ H R=>ta σ H λ vs H1=>∃ n:Int,vs=[.int n,.int 0,.int (-1)]/\0<=n/\n<=1000/\R (aiI n n.toNat) H1
theorem vL(hg:Gl X "range")(hm:X.mg "range" = none)(ha:PA X [a,b,c] ta)(hs:starEach [a,b,c] X.env=(false,eval a X.env)::starEach [b,c] X.env:=by rfl)(hpl:(backTo pos (starEach [b,c] X.env)).any (·.1)=false:=by rfl) :
  PI X tg (.Call (.Name "range" p) [a,b,c] [] pos) (ah1 ta):=by
 intro pins s σ H R I h;refine Call_ (fD I hg hm boot_range (PyProof.Rows.callWith_type1 (thn (ha pos pins s σ H _ I h) λ us s1 ⟨vs,H1,I1,r1,q1⟩=>?_) hs hpl));obtain⟨n,e,q1,q2,q⟩:=q1;subst e;cases r1 with
 | cons r rr =>
  cases rr with
  | cons r' rr =>
   cases rr with
   | cons r'' rr =>
    cases rr;obtain⟨t,rfl⟩:=r;obtain⟨t',rfl⟩:=r';obtain⟨t'',rfl⟩:=r'';refine call_range_3 (by decide) ?_ (Or.inl (PyProof.noPylong_small (by decide)));refine wpAny_pyIter_range (IsRange.new ..) (u9 q1 q2) ?_;have I2:Inv X pins σ H1 {s1 with heap:=s1.heap.push {cls:=.type "range",data:=.fields #[.int n t,.int 0 t',.int (-1) t'']}}:=I1.kept (t':=s1.toks) λ b o e=>Heap.get?_push_of_some _ e;refine⟨_,[_],_,_,H1,rfl,I2.kept (t':=s1.toks) λ b o e=>Heap.get?_push_of_some _ e,rO _ n n.toNat,?_,λ b hb=>?_,q⟩
    ·have e1:n+((0:Nat):Int) * (-1)=n:=by simp
     have e2:((n.toNat:Nat):Int)-((0:Nat):Int)=Builtin.Range.rangeSize n 0 (-1):=by rw[om q1];omega
     show IsRangeIter _ _ (n+((0:Nat):Int) * (-1)) (((n.toNat:Nat):Int)-((0:Nat):Int)) (-1);rw[e1,e2];exact Heap.get?_push_size _ rfl
    ·rw[List.mem_singleton] at hb;rw[hb];exact I2.nU (Nat.le_refl _) (I2.hok.fresh (Nat.le_refl _))
def pK(n:Int):List W:=(List.range n.toNat).map λ i=>.d (.int (n-(i:Nat)))
def agj(t:TAd)(τ:DS)(M:MH)(R:List W->MH->Prop):Prop:=t τ M λ ws M1=>∃ n:Int,ws=[.d (.int n),.d (.int 0),.d (.int (-1))]/\0<=n/\n<=1000/\R (pK n) M1
section
variable {K:FG}
def ag3(di:TId)(g:TGd)(tt:TTd)(te:TD)(k:Nat)(fr:List Nat)(τ:DS)(M:MH)(Q:QD):Prop:=di τ M λ ws M1=>∃ P:Nat->List PyData->DS->MH->Prop,P 0 [] (aaF k fr τ) M1 /\
 (∀ i w acc τ M,ws[i]? =some w->P i acc τ M->acc.length<sizeLine/\g w τ M λ τ2 M2=>tt τ2 M2 λ b M3=>if b=true then te τ2 M3 λ y M4=>∃ d,y=.d d/\P (i+1) (acc++[d]) τ2 M4 else P (i+1) acc τ2 M3) /\
 ∀ acc τ M,P ws.length acc τ M->∀ p,M p=none->Q (.m p) (bN M p (.lst (acc.map W.d)))
theorem acT(h:up K (ag3 di g tt te k fr) σ H Q) :
  tLC (upI K di) (upG K g) (upT K tt) (up K te) k fr σ H Q:=by
 obtain⟨τ,M,Qd,A,h,kk⟩:=h;refine⟨τ,M,_,A,h,λ J H1 ws M1 kp m1 it hq86=>?_⟩;obtain⟨P,p0,pt,pe⟩:=hq86;refine⟨λ i n ys σ' H'=>n=ws.length-i/\i<=ws.length/\Kp H1 H'/\∃ acc τ M,aT K H' acc ys/\Abs K H' σ' τ M/\P i acc τ M,⟨ws.length,by simp,Nat.zero_le _,Kp.refl _,[],_,M1,by simp[aT],sO (A.go kp m1) k fr,p0⟩,?_⟩;rintro i n ys σ2 H2 ⟨rfl,hi,kp2,acc,τ2,M2,ra,A2,p2⟩;obtain⟨go,stop,yld⟩:=it H2 kp2 i
 by_cases hlt:i<ws.length
 ·have hlen:=ra.length;refine .inr ⟨go hlt,?_,λ x H3 y=>?_⟩
  ·obtain⟨w,hw⟩:∃ w,ws[i]? =some w:=⟨ws[i],by simp[hlt]⟩;have:=(pt i w acc τ2 M2 hw p2).1;omega
  obtain⟨kp3,mk,w,ew,rw⟩:=yld x H3 hlt y;refine⟨w,τ2,M2,_,rw,A2.go kp3 (mk _ A2.mem),(pt i w acc τ2 M2 ew p2).2,λ σ4 H4 τ4 M4 kp4 A4 q4=>⟨τ4,M4,_,A4,q4,λ b H5 M5 kp5 m5 q5=>?_⟩⟩;have kq:=(kp3.trans kp4).trans kp5;cases b with
  | false =>
   rw[if_neg Bool.false_ne_true] at q5;show(if false=true then _ else _);rw[if_neg Bool.false_ne_true];exact⟨ws.length-(i+1),by omega,rfl,hlt,kp2.trans kq,acc,τ4,M5,ra.keep kq,A4.go kp5 m5,q5⟩
  | true =>
   rw[if_pos rfl] at q5;show(if true=true then _ else _);rw[if_pos rfl];refine⟨τ4,M5,_,A4.go kp5 m5,q5,λ v H6 wv M6 kp6 r6 m6 hq87=>?_⟩;obtain⟨d,e6,q6⟩:=hq87;subst e6;refine⟨ws.length-(i+1),by omega,rfl,hlt,kp2.trans (kq.trans kp6),acc++[d],τ4,M6,aT.append (ra.keep (kq.trans kp6)) ?_,A4.go (kp5.trans kp6) m6,q6⟩;simp only[aT];exact⟨v,[],rfl,r6,rfl⟩
 ·have hl:i=ws.length:=by omega
  subst hl;refine .inl ⟨stop (Nat.le_refl _),λ p hp=>?_⟩;have kp9:Kp H2 (upd H2 p (.lst ys)):=Kp.new hp;exact kgo kk (kp.trans kp2) _ _ (.m p) _ kp9 rfl (A2.mem.put (mo:=.lst (acc.map W.d)) kp9 ⟨_,aq,(ra.keep kp9).ws⟩) (pe acc τ2 M2 p2 p (A2.mem.free hp))
variable {X:Cx}{sc:Scope}{own:List Str}{fr:List Nat}{di:TId}{g:TGd}{tt:TTd}{te:TD}{tg iter elt:Expr}{ifs:List Expr}{pos:Pos}
theorem ad0(hc:X.calm=true)(L:mq X sc own fr)(hi:PId X tg iter di)
  (hg:∀ cl C s H ex pl,PGd (blk X sc (lcN X own fr) cl C s H ex pl) tg g)(ht:∀ cl C s H ex pl,yN (blk X sc (lcN X own fr) cl C s H ex pl) ifs tt)(he:∀ cl C s H ex pl,PD (blk X sc (lcN X own fr) cl C s H ex pl) elt te)
  (hs:∀ x,foldedSetIterable iter X.env x=pure x:=by intro _;rfl):PD X (.ListComp elt [⟨tg,iter,ifs,0⟩] sc pos) (ag3 di g tt te own.length fr):=
 fN (afi hc L hi hg ht he hs) λ σ H Q h=>acT h
end
section
variable {X:Cx}{K:FG}
def agz:R2:=λ x y H Q=>∃ z n,x=.str z/\y=.int n/\z.length=1/\1<=n/\n<=1000/\Q (.str (Txt.mul z n)) H
theorem ab7:OpR X (binaryOp .Mult) agz:=by
 intro pins s σ H x y v u Q I rx ry h;obtain⟨z,n,rfl,rfl,hz,h1,h2,q⟩:=h;obtain⟨t,rfl⟩:=rx;obtain⟨t',rfl⟩:=ry;have hm:(1000:Int)<2 ^ 62:=by decide
 refine SB.mul ⟨?_,λ _ _=>?_,λ _ _=>?_⟩ λ t' k=>⟨.str (Txt.mul z n),H,I.tok _,⟨_,rfl⟩,q⟩
 ·simp;omega
 ·rw[hz];have:1<=(2 ^ 63-1:Int) / n:=by rw[Int.le_ediv_iff_mul_le (by omega)];omega
  omega
 ·rw[hz];have s16':=s16;unfold PySem.Builtin.Str.tooLong;exact decide_eq_false (by omega)
def abQ(w:W)(w':W)(M:MH)(Q:QD):Prop:=∃ z n,w=.d (.str z)/\w'=.d (.int n)/\z.length=1/\1<=n/\n<=1000/\Q (.d (.str (Txt.mul z n))) M
theorem aao:OpD K agz abQ:=by intro x y H w w' M Qd Q r1 r2 m ⟨z,n,e1,e2,hz,h1,h2,q⟩ k;subst e1 e2;simp only[aB,ay] at r1 r2;exact⟨z,n,r1,r2,hz,h1,h2,k _ _ (.d (.str _)) M (Kp.refl _) (by simp[aB,ay]) m q⟩
end
def zz(to:TE):TE:=λ σ H Q=>to σ H λ x H1=>∃ a kvs,x=.ref a/\Rd H1 a (.dK kvs)/\∀ v,H1 v=none->Q (.ref v) (upd H1 v (.ext λ h=>h.IsValuesView v a))
theorem zg(ho:PE X o to)(hbase:attributeBase o "values" X.env (eval o X.env)=eval o X.env:=by rfl)(hline:(apos.endLine==cpos.line)=true:=by rfl):PE X (.Call (.Attribute o "values" apos) [] [] cpos) (zz to):=by
 intro pins s σ H Q I h;refine wpAny_Call_method0_late hbase hline (thn (ho pins s σ H _ I h) λ v s1 hq88=>?_);obtain⟨x,H1,I1,r1,a,kvs,ex,hr,q⟩:=hq88;subst ex;cases r1;obtain⟨hsz,hsys,vs,rel,oo,es,ep,hd⟩:=hr.ok I1.hok;have dd:s1.heap.DictOf (aN X.prog X.w) a vs:=⟨oo,es,ep,hd⟩;have hnd:∀ b,Value.ref a=.ref b->∃ ob,s1.heap.get? b=some ob/\ob.dict=none:=λ b e=>by
  cases e;exact⟨oo,hd.1,hd.2.1.2.1⟩
 refine⟨"dict", "dict.values",PySem.F.plainAttrs_dict,PySem.F.slot_dict_values,PySem.F.type_dict_values,dd.typeIs,hnd,Calls.callWith_builtin rfl (PySem.evalArgs_none ?_)⟩;refine call_meetsIn PySem.F.slot_dict_values dd.typeIs PySem.F.entry_dict_values (PySem.F.args_dict_values_1 _) (meets_dict_values (aN X.prog X.w) a hsys) ⟨⟨vs,dd⟩,?_⟩;have hv:(s1.heap.push {cls:=.type "dict_values",data:=.fields #[.ref a]}).get? s1.heap.objs.size=some {cls:=.type "dict_values",data:=.fields #[.ref a]}:=Heap.get?_push_size _ rfl;refine⟨.ref _,_,I1.laid (a:=s1.heap.objs.size) (o:=.ext λ h=>h.IsValuesView s1.heap.objs.size a) (t':=s1.toks) (λ b ob e=>Heap.get?_push_of_some _ e) (Nat.le_refl _) ⟨⟨_,hv,rfl,rfl⟩,⟨_,hv⟩,λ h1 h2 ⟨ob,e1,e2⟩ k=>⟨ob,k ob e1,e2⟩⟩,rfl,q _ (I1.hok.fresh (Nat.le_refl _))⟩
theorem d6:∀ {ns:List Int} {kvs:List (Key×V)} {vs:List (Key×Value)} {us:List Value},KV kvs vs->kvs.map (·.2)=ns.map V.int->us.length=vs.length->(∀ (i:Nat) v,us[i]? =some v->∃ k,vs[i]? =some (k,v))->IntsAre us ns
 | [],kvs,vs,us,r,h,hl,hp=>by
  have e:kvs=[]:=by simpa using h
  subst e;cases r;have e:us=[]:=by simpa using hl
  subst e;exact .nil
 | n::ns,kvs,vs,us,r,h,hl,hp=>by
  match kvs,us,r,h,hl,hp with
  | (k,x)::kvs,u::us,.cons (b:=b) r1 r2,h,hl,hp =>
   simp only[List.map_cons,List.cons.injEq] at h;obtain⟨k',e⟩:=hp 0 u rfl;simp at e;have hx:=r1.2;rw[h.1,e] at hx;obtain⟨t,et⟩:=(show ∃ t,u=Value.int n t from hx);subst et;exact .cons n t (d6 r2 h.2 (by simpa using hl) λ i v hi=>by simpa using hp (i+1) v (by simpa using hi))
  | [],_,r,h,_,_=>simp at h
  | _::_,[],.cons _ _,_,hl,_=>simp at hl
theorem lW:∀ {ns:List Int} {us:List Value},IntsAre us ns->Vals (ns.map V.int) us
 | _,_,.nil=>.nil
 | _,_,.cons n t h=>.cons ⟨t,rfl⟩ (lW h)
def adO(to:TE):TE:=λ σ H Q=>zz to σ H λ x H2=>∃ v a kvs,∃ ns:List Int,x=.ref v/\H2 v=some (.ext λ h=>h.IsValuesView v a)/\Rd H2 a (.dK kvs)/\kvs.map (·.2)=ns.map V.int/\ns.length<64 /\
 ∀ ns':List Int,ns'.Perm ns->(ns'.Pairwise (· >= ·))->∀ l,H2 l=none->Q (.ref l) (upd H2 l (.lst (ns'.map V.int)))
theorem xO(hc:X.calm=true)(hg:Gl X "sorted")(hm:X.mg "sorted" = none)(ho:PE X o to)(hbase:attributeBase o "values" X.env (eval o X.env)=eval o X.env:=by rfl)(hline:(apos.endLine==cpos.line)=true:=by rfl) :
  PE X (.Call (.Name "sorted" p) [.Call (.Attribute o "values" apos) [] [] cpos] [⟨some "reverse",.Constant (.bool true) j kp,kpos⟩] pos) (adO to):=by
 intro pins s σ H Q I h;have pa:PA X [.Call (.Attribute o "values" apos) [] [] cpos] (n5 (zz to) abV):=fL (zg ho hbase hline) km;have pk:PK X [⟨some "reverse",.Constant (.bool true) j kp,kpos⟩] (n5 (tC (.bl true)) abV):=yC afH ab3;refine wpAny_Call_Name_kw (fD I hg hm ef (callWith_kw ?_));refine thn (pa pos pins s σ H (λ vs H2=>match vs with
  | [x]=>∃ v a kvs,∃ ns:List Int,x=.ref v/\H2 v=some (.ext λ h=>h.IsValuesView v a)/\Rd H2 a (.dK kvs)/\kvs.map (·.2)=ns.map V.int/\ns.length<64/\∀ ns':List Int,ns'.Perm ns->(ns'.Pairwise (· >= ·))->∀ l,H2 l=none->Q (.ref l) (upd H2 l (.lst (ns'.map V.int)))
  | _=>False) I h) λ us s1 ⟨vs,H2,I1,r1,hx⟩=>?_
 match vs,r1,hx with
 | [x],r1,⟨v,a,kvs,ns,ex,hv,hr,hk,h64,q⟩ =>
  subst ex;obtain⟨u,rfl,ru⟩:=vals1 r1;cases ru;refine thn (pk pos pins s1 σ H2 (λ ks H3=>ks=[.bl true]/\H3=H2) I1 ⟨rfl,rfl⟩) λ kus s2 hq89=>?_;obtain⟨ks,H3,I2,r2,ek,eH⟩:=hq89;subst ek eH;obtain⟨ku,rfl,rk⟩:=vals1 r2;cases (show ku=Value.bool true from rk);show wpAny _ _ (call (.builtin "sorted") [.ref v] [(Str.ofString "reverse",.bool true)]) _ _ s2;refine call_function_entry_kw kind_sorted plain_sorted entry_sorted (args_sorted_rev _ _) ?_;obtain⟨hsz,hsys,vs',rel,oo,es,ep,hd⟩:=hr.ok I2.hok;obtain⟨hview,_⟩:=(show bY X.prog X.w H3 s2.heap v (.ext λ h=>h.IsValuesView v a) from I2.hok v _ hv);have hln:vs'.length=ns.length:=by have h1:=rel.length;have h2:=congrArg List.length hk;rw[List.length_map,List.length_map] at h2;omega
  have at1:∀ (h':Heap) (l:List Value),(h'.push (seqObj "list" l.toArray 0)).get? h'.objs.size=some (seqObj "list" l.toArray 0):=λ h' l=>Heap.get?_push_size _ rfl;unfold Builtin.«sorted»;refine wpAny_bind (m:=checkCount "sorted" 1 1 _) (wpAny_pure (wpAny_bind (W.kdu_collect (A:=X.A.in1) (W.kdl_values (knd:=aN X.prog X.w) (r:=v) (d:=a) (kvs:=vs') (ep:=ep)) (I.ok.hd hc) ⟨hview,⟨oo,es,hd⟩⟩ (by rw[sizeLine_eq];omega) λ h' tk acc old hacc=>?_)));have hla:acc.toList.length=vs'.length:=by rw[Array.length_toList];exact hacc.1
  have hI:IntsAre acc.toList ns:=d6 rel hk hla λ i w hi=>hacc.2 i w (by rw[<- Array.getElem?_toList];exact hi);refine wpAny_bind (wpAny_newList ?_ (by rw[hla,sizeLine_eq];omega));refine wpAny_bind (wpAny_holding (wpAny_call_entry_kw slot_list_sort ⟨_,at1 h' acc.toList,rfl⟩ entry_list_sort (list_sort_tree_rev (s:={s2 with heap:=h'.push (seqObj "list" acc.toList.toArray 0),toks:=tk}) (at1 h' acc.toList) hI (by omega) λ out ns' a1 a2 a3=>⟨_,rfl,wpAny_pure ⟨_,rfl,?_⟩⟩) (args_list_sort_rev _ _)));obtain⟨n,e⟩:=sortedHeap_at (h:=h'.push (seqObj "list" acc.toList.toArray 0)) (vs:=acc.toList) (out:=out) (at1 h' acc.toList);have hge:s2.heap.get? h'.objs.size=none:=by
   cases q1:s2.heap.get? h'.objs.size with
   | none=>rfl
   | some ob =>
    have:=Heap.lt_size (old _ _ q1);exact absurd this (Nat.lt_irrefl _)
  have keep:∀ b ob,s2.heap.get? b=some ob->(sortedHeap (h'.push (seqObj "list" acc.toList.toArray 0)) h'.objs.size acc.toList out).get? b=some ob:=λ b ob eb=>by have l1:b<h'.objs.size:=Heap.lt_size (old b ob eb);rw[sortedHeap_old (Nat.ne_of_lt l1) (by rw[size_push'];exact Nat.lt_succ_of_lt l1),Heap.get?_push_of_some _ (old b ob eb)]
  have I':Inv X pins σ (upd H3 h'.objs.size (.lst (ns'.map V.int))) {s2 with heap:=sortedHeap (h'.push (seqObj "list" acc.toList.toArray 0)) h'.objs.size acc.toList out,toks:=tk}:=by refine Inv.ah3 I2 keep hge ⟨?_,out.toList,n,lW a1,by rw[Array.toArray_toList];exact e⟩;rw[List.length_map,a2.length_eq];have:=s16;omega
  exact⟨.ref _,_,I',rfl,q ns' a2 (by unfold Ordered at a3;rw[if_pos rfl] at a3;exact a3) _ (xk I2.hok hge)⟩
 | [],_,hx=>exact hx.elim
 | _::_::_,_,hx=>exact hx.elim
def fE(ns:List Int):List W:=ns.map λ n=>.d (.int n)
def qF(td:TD)(τ:DS)(M:MH)(Q:QD):Prop:=td τ M λ w M1=>∃ a kvs,∃ ns:List Int,w=.m a/\M1 a=some (.dic kvs)/\kvs.map (·.2)=fE ns/\ns.length<64/\∀ ns':List Int,ns'.Perm ns->(ns'.Pairwise (· >= ·))->∀ l,M1 l=none->Q (.m l) (bN M1 l (.lst (fE ns')))
theorem rD{K:FG}{H:Hp}:∀ {ns:List Int} {kvs:List (Key×W)} {l:List (Key×V)},kvs.map (·.2)=fE ns->Paired (λ(p:Key×W) (q:Key×V)=>p.1=q.1/\aB K H p.2 q.2) kvs l->l.map (·.2)=ns.map V.int
 | [],kvs,l,h,pr=>by
  have e:kvs=[]:=by simpa [fE] using h
  subst e;cases pr;rfl
 | n::ns,kvs,l,h,pr=>by
  match kvs,pr,h with
  | (k,x)::kvs,.cons r t,h =>
   simp only[fE,List.map_cons,List.cons.injEq] at h;have hx:=r.2;rw[h.1] at hx;simp only[aB,ay] at hx;rw[List.map_cons,hx,rD h.2 t];rfl
  | [],_,h=>simp[fE] at h
theorem oV{K:FG}{H:Hp}:∀ (ns:List Int),bF K H (fE ns) (ns.map V.int)
 | []=>.nil
 | n::ns=>.cons (by simp[aB,ay]) (oV ns)
theorem yg(hN:X.N.Nodup)(hi:X.N[i]? =some x)(hx:Loc X.env.scope x)(he:Jd (PD X e te))(hp:PIp X op (ipI f))(hf:X.fn x=true\/X.env.scope.names.lookup x=some .local:=by first | exact .inl rfl | exact .inr rfl | assumption) :
  Jd (PSd X (.AugAssign (.Name x pos') op e pos) (afx i te f)):=⟨have he:=he.h;tH (age hN hi hx he hp hf) λ D σ H hq82=>by
 obtain⟨τ,M,Dd,A,⟨a,ea,h⟩,k1,_⟩:=hq82;obtain⟨v,ev,rv⟩:=A.val i _ ea;simp only[aB,ay] at rv;subst rv;refine⟨_,ev,τ,M,_,A,h,λ u H1 w M1 kp r m hq83=>?_⟩;obtain⟨b,eb,q⟩:=hq83;subst eb;simp only[aB,ay] at r;subst r;exact⟨a,b,rfl,rfl,k1 _ H1 _ M1 kp ((A.go kp m).set i (w:=.d (.int (f a b))) (by simp[aB,ay])) q⟩⟩
theorem ou(hg:Gl X "range")(hm:X.mg "range" = none)(ha:Jd (PAd X [a,b,c] t))(h1:fh a=false:=by rfl)(h2:([b,c].all λ e=>!fh e)=true:=by rfl):Jd (PId X tg (.Call (.Name "range" p) [a,b,c] [] pos) (agj t)):=⟨have ha:=ha.h;
 abi (vL hg hm ha (bT a [b,c] X.env h1) (cC pos X.env [b,c] h2)) λ σ H R ⟨τ,M,Rd,A,h,k⟩=>⟨τ,M,_,A,h,λ vs H1 ws M1 kp r m hq84=>by
  obtain⟨n,e,q1,q2,q⟩:=hq84;subst e;obtain⟨v1,v2,v3,e1,r1,r2,r3⟩:∃ v1 v2 v3,vs=[v1,v2,v3]/\aB X.K H1 (.d (.int n)) v1/\aB X.K H1 (.d (.int 0)) v2/\aB X.K H1 (.d (.int (-1))) v3:=by
   cases r with
   | cons r1 rr =>
    cases rr with
    | cons r2 rr =>
     cases rr with
     | cons r3 rr =>
      cases rr;exact⟨_,_,_,rfl,r1,r2,r3⟩
  simp only[aB,ay] at r1 r2 r3;subst r1 r2 r3;refine⟨n,e1,q1,q2,k _ H1 _ M1 kp m (λ H2 kp2 i=>?_) q⟩;have hl:(pK n).length=n.toNat:=by simp[pK]
  refine⟨λ hi=>by rw[hl] at hi;exact hi,λ hi=>by rw[hl] at hi;exact hi,λ x H' hi hq85=>?_⟩;obtain⟨eH,ex⟩:=hq85;subst ex eH;rw[hl] at hi;refine⟨Kp.refl _,λ M m=>m,.d (.int (n-(i:Nat))),by simp[pK,hi],?_⟩;simp only[aB,ay];congr 1;omega⟩⟩
theorem adQ(hc:X.calm=true)(L:mq X sc own fr)(hi:Jd (PId X tg iter di))
  (hg:∀ cl C s H ex pl,Jd (PGd (blk X sc (lcN X own fr) cl C s H ex pl) tg g))(ht:∀ cl C s H ex pl,Jd (yN (blk X sc (lcN X own fr) cl C s H ex pl) ifs tt))(he:∀ cl C s H ex pl,Jd (PD (blk X sc (lcN X own fr) cl C s H ex pl) elt te))
  (hs:∀ x,foldedSetIterable iter X.env x=pure x:=by intro _;rfl):Jd (PD X (.ListComp elt [⟨tg,iter,ifs,0⟩] sc pos) (ag3 di g tt te own.length fr)):=
 ⟨D.ad0 hc L hi.h (λ cl C s H ex pl=>(hg cl C s H ex pl).h) (λ cl C s H ex pl=>(ht cl C s H ex pl).h) (λ cl C s H ex pl=>(he cl C s H ex pl).h) hs⟩
theorem mr(hc:X.calm=true)(hg:Gl X "sorted")(hm:X.mg "sorted" = none)(ho:Jd (PD X o td))(hbase:attributeBase o "values" X.env (eval o X.env)=eval o X.env:=by rfl)(hline:(apos.endLine==cpos.line)=true:=by rfl) :
  Jd (PD X (.Call (.Name "sorted" p) [.Call (.Attribute o "values" apos) [] [] cpos] [⟨some "reverse",.Constant (.bool true) j kp,kpos⟩] pos) (qF td)):=⟨have ho:=ho.h;fN (xO hc hg hm ho hbase hline) λ σ H Q hq90=>by
 obtain⟨τ,M,Qd,A,h,k⟩:=hq90;refine⟨τ,M,_,A,h,λ x H1 w M1 kp1 r1 m1 hq91=>?_⟩;obtain⟨a,kvs,ns,ew,hmm,hk,h64,q⟩:=hq91;subst ew;obtain⟨l,e,pr⟩:=m1 _ _ hmm;refine⟨a,l,r1,.inl e,λ v hv=>?_⟩;have na:a≠v:=λ z=>by rw[z,hv] at e;cases e
 refine⟨v,a,l,ns,rfl,aq,.inl (by rw[aj na];exact e),rD hk pr,h64,λ ns' h1 h2 c hcc=>?_⟩;have kp2:Kp H1 (upd H1 v (.ext λ h=>h.IsValuesView v a)):=Kp.new hv;have m2:=m1.new (o:=.ext λ h=>h.IsValuesView v a) hv;have kp3:Kp (upd H1 v (.ext λ h=>h.IsValuesView v a)) (upd (upd H1 v (.ext λ h=>h.IsValuesView v a)) c (.lst (ns'.map V.int))):=Kp.new hcc;exact kgo k kp1 _ _ (.m c) _ (kp2.trans kp3) rfl (m2.put (mo:=.lst (fE ns')) kp3 ⟨_,aq,oV ns'⟩) (q ns' h1 h2 c (m2.free hcc))⟩
theorem jW(hg:Gl X "enumerate")(hm:X.mg "enumerate" = none)(ha:Jd (PAd X [a] t))(h1:fh a=false:=by rfl):Jd (PId X (.Tuple elts x1 tpos) (.Call (.Name "enumerate" p) [a] [] pos) (aaK t)):=⟨have ha:=ha.h;abi (adS hg hm ha (by rw[bT a [] X.env h1];rfl)) λ σ H R hq79=>by
 obtain⟨τ,M,Rd,A,h,k⟩:=hq79;refine⟨τ,M,_,A,h,λ vs H1 ws M1 kp r m hq80=>?_⟩;obtain⟨ds,ew,q⟩:=hq80;subst ew;obtain⟨v,ev,r1⟩:=cZ r;simp only[aB,ay] at r1;obtain⟨b,xs,e1,hs,ra⟩:=r1;subst ev e1;have hl:=ra.length;refine⟨b,xs,rfl,hs.sq,k _ H1 _ M1 kp m (λ H2 kp2 i=>?_) q⟩;have hs2:=(hs.keep kp2).sq;have hlw:(nL ds).length=xs.length:=by simp[nL,hl]
 refine⟨λ hi=>⟨xs,xs[i]'(by omega),hs2,by simp⟩,λ hi=>⟨xs,hs2,by omega⟩,λ x H' hi hq81=>?_⟩;obtain⟨T,v,hT,ex,eH,hv⟩:=hq81;subst ex eH;have hxv:=hv xs hs2;obtain⟨d,e3,rd⟩:=(ra.keep kp2).get' hxv;have kpn:Kp H2 (upd H2 T (.tup [.int i,v])):=Kp.new hT;have hid:i<ds.length:=by rw[hlw] at hi;omega
 refine⟨kpn,λ M m=>m.new hT,.d (.tuple [.int (i:Nat),ds.getD i .none]),by simp[nL,hid],?_⟩;have ed:ds.getD i .none=d:=by simp[List.getD,e3]
 rw[ed];simp only[aB,ay,aT];exact⟨T,_,rfl,.inl (.inl aq),_,_,rfl,rfl,_,_,rfl,rd.keep kpn,rfl⟩⟩
structure aiB(K:FG)(x qual:Str)(st:Stmt)(f:Addr)(fd:FuncData):Prop where
 ex:∃ (oc:Value) (od:Option Addr) (dV kV doc pm:Value) (an:Option Addr) (cdv ct:Value) (osl:Array (Option Value)),
  fd=W.fnOf x qual (bh st) (aM st) (ao st) dV kV doc pm an cdv ct/\K.lookup f=some ⟨oc,od,.func fd,osl⟩/\W.codeIn K cdv qual=true
 kp:W.keepIn K (.ref f)=true
structure FnD(K:FG)(mg:Str->Option Value)(x:Str)(st:Stmt)(ps:List Str)(d:Int)(f:Addr)(fd:FuncData):Prop where
 fn:aiB K x x st f fd
 mg:mg x=some (.ref f)
 bd:∃ t,Binds K fd ps [.int d t]
section
variable {P:Program}{w:World}{K:FG}{mg:Str->Option Value}{base h:Heap}
theorem acV{x qual:Str}{st:Stmt}{N ps:List Str}{k:Nat}{sp:SpD}{t:TSd}(F:aiB K x qual st f fd)(S:aH N ps (ao st))(len:∀ ws M Q,sp ws M Q->ws.length=ps.length)
  (hbody:∀ (cdv:Value) (A:Around) (outer:List Env) (s:Shared) (H:Hp) (E:XK),cY k (A.deeper (envOfC qual (ao st) s.heap.objs.size f cdv)) ->
   lb (uV CX0 P w K mg base N qual (ao st) f cdv A outer s H E).nox (aM st) t)
  (read:∀ ws M Q,sp ws M Q->t {nx:=λ _ M'=>Q (.d .none) M',rt:=Q} (bw N ws) M):cy P w K mg base CX0 (k+1) f fd ps (dg K sp):=by
 obtain⟨oc,od,dV,kV,doc,pm,an,cdv,ct,osl,rfl,lk,hcd⟩:=F.ex;refine aap lk hcd S (λ vs H Q E h=>?_) (λ A outer s H vs Q E hr h=>?_)
 ·obtain⟨ws,M,Qd,r,_,q,_⟩:=h;rw[<- r.length];exact len _ _ _ q
 ·obtain⟨ws,M,Qd,r,m,q,kk⟩:=h;refine⟨_,L2.PSs.nox (hbody cdv A outer s H E hr),bw N ws,M,_,gO r m,read ws M Qd q,λ σ' H' τ' M' kp A' q'=>?_,λ v H' w' M' kp r' m' q'=>?_,λ σ' H' τ' M' kp A' q'=>q'.elim,λ σ' H' τ' M' kp A' q'=>q'.elim⟩
  ·exact kk _ H' _ M' kp (by simp[aB,ay]) A'.mem q'
  ·exact kk v H' w' M' kp r' m' q'
theorem afr{st:Stmt}{ps:List Str}{d:Int}{f T:Addr}{oc oc2:Value}{od od2 an:Option Addr}{osl osl2:Array (Option Value)}{kV doc pm cdv ct:Value}{tk:Tok}{n:Nat}(X:K.In h)(G:h.Ns mainGlobals mg)(a:W.nsIn K mainGlobals x=some (some (.ref f)))
  (l:K.lookup f=some ⟨oc,od,.func (W.fnOf x x (bh st) (aM st) (ao st) (.ref T) kV doc pm an cdv ct),osl⟩)(c:W.codeIn K cdv x=true)(k:W.keepIn K (.ref f)=true)
  (lt:K.lookup T=some ⟨oc2,od2,.seq #[.int d tk] n,osl2⟩)
  (b:∀ (us:List Value),us.length+1=ps.length->∃ kk:Option (Array Value)->Sem (List (Str×Value)),bindArgs (W.fnOf x x (bh st) (aM st) (ao st) (.ref T) kV doc pm an cdv ct) ⟨us,[]⟩=seqItems? (.ref T) >>= kk/\kk (some #[.int d tk])=pure (ps.zip (us++[.int d tk]))) :
  FnD K mg x st ps d f (W.fnOf x x (bh st) (aM st) (ao st) (.ref T) kV doc pm an cdv ct):=
 ⟨⟨⟨oc,od,.ref T,kV,doc,pm,an,cdv,ct,osl,rfl,l,c⟩,k⟩,W.mg_of X G a,tk,λ s us hK hl=>by obtain⟨kk,h1,h2⟩:=b us (by simpa using hl);exact BindsTo.of_defaults rfl (hK T _ lt) rfl h1 h2⟩
end
def wx(sp:SpD)(d:Int)(t:TAd)(τ:DS)(M:MH)(Q:QD):Prop:=t τ M λ ws M1=>sp (ws++[.d (.int d)]) M1 Q
theorem ajb(F:cy X.prog X.w X.K X.mg X.base CX0 k f fd ps (dg X.K sp))(hr:cY k X.A)(hg:Gl X x)(hm:X.mg x=some (.ref f))(hk:W.keepIn X.K (.ref f)=true)(hb:∃ tk,Binds X.K fd ps [.int d tk])
  (ha:PAd X (e::es) t)(hdb:ND x:=by decide)(h1:fh e=false:=by rfl)(h2:(es.all λ e=>!fh e)=true:=by rfl) :
  PD X (.Call (.Name x p) (e::es) [] pos) (wx sp d t):=by
 obtain⟨tk,hb⟩:=hb;refine fN (xU (E:=E0) (dvs:=[.int d]) F hr hg hm hk hb (.cons ⟨tk,rfl⟩ .nil) aeW ha hdb (bT e es X.env h1) (cC pos X.env es h2)) λ σ H Q h=>?_;obtain⟨τ,M,Qd,A,h,k⟩:=h;exact⟨τ,M,_,A,h,λ vs H1 ws M1 kp r1 m1 q1=>⟨ws++[.d (.int d)],M1,Qd,bF.append r1 (.cons (by simp[aB,ay]) .nil),m1,q1,kgo k kp⟩⟩
theorem ai9(F:cy X.prog X.w X.K X.mg X.base CX0 k f fd ps (dg X.K sp))(hr:cY k X.A)(hg:Gl X x)(hm:X.mg x=some (.ref f))(hk:W.keepIn X.K (.ref f)=true)(hb:∃ tk,Binds X.K fd ps [.int d tk])
  (ha:Jd (PAd X (e::es) t))(hdb:ND x:=by decide)(h1:fh e=false:=by rfl)(h2:(es.all λ e=>!fh e)=true:=by rfl) :
  Jd (PD X (.Call (.Name x p) (e::es) [] pos) (wx sp d t)):=⟨ajb F hr hg hm hk hb ha.h hdb h1 h2⟩
end D
open L2 D
namespace Stc
open L2 D Rc
abbrev mh:List Str:=["_law_bag_here", "_law_most", "_law_top", "_law_many", "_law_word"]
def mv(ba:SpD):TSd:=
  bI (cq (bG ba (ag (au 0) (ag (dOp cI (au 1) (dC (.d (.int 1)))) (aO)))) (gN 3)) <|
  bI (cq (dOp dP (aa3 (ag (dC (.d (.str "m"))) (ag (dC (.d (.str "ab"))) (ag (dC (.d (.str "zz"))) (aO))))) (bG ba (ag (au 0) (ag (dC (.d (.int 3))) (aO))))) (gN 4)) <|
  dR (dLC (u3 (ag (au 3) (aO))) (gN 0) (pE) (mL (ag (dOp cI (au 1) (dOp abQ (dOp dP (dC (.d (.str "abcdefgh"))) (au 0)) (dOp cI (dC (.d (.int 1))) (dOp d5 (au 0) (dC (.d (.int 2))))))) (ag (bG ba (ag (au 2) (ag (dOp cI (au 3) (dC (.d (.int 1)))) (aO)))) (aO)))) 1 [4,0,2])
abbrev o8:List Str:=["_law_bag_here", "_law_most", "_law_top", "_law_many", "_law_turn", "_law_kinds", "_law_found", "_law_k", "_law_name"]
def pU(ba:SpD):TSd:=
  bI (cq (bG ba (ag (au 0) (ag (dOp cI (au 1) (dC (.d (.int 1)))) (aO)))) (gN 3)) <|
  bI (cq (bG ba (ag (au 0) (ag (dC (.d (.int 8))) (aO)))) (gN 4)) <|
  bI (cq (dSl (aa3 (ag (dC (.d (.str "front"))) (ag (dC (.d (.str "ma"))) (ag (dC (.d (.str "side"))) (ag (dC (.d (.str "front"))) (ag (dC (.d (.str "k"))) (ag (dC (.d (.str "mbb"))) (ag (dC (.d (.str "aba"))) (ag (dC (.d (.str "back"))) (ag (dC (.d (.str "wish"))) (aO))))))))))) (eF) (lu (dOp cI (dC (.d (.int 1))) (bG ba (ag (au 0) (ag (dC (.d (.int 9))) (aO))))))) (gN 5)) <|
  bI (cq (uA (aO)) (gN 6)) <|
  bI (kG (u3 (ag (au 3) (aO))) (gN 7)
   (bI (cq (dOp dP (aa3 (ag (dOp cI (dC (.d (.str "w"))) (dOp dP (dC (.d (.str "hgfedcba"))) (dOp d5 (dOp cI (au 7) (au 4)) (dC (.d (.int 8)))))) (ag (dC (.d (.str "ma"))) (aO)))) (dCB agF (ag (dOp yF (au 7) (dC (.d (.int 3)))) (aO)))) (gN 8)) <|
   j9 (ix (au 6) (mL (ag (au 8) (ag (dOp dP (au 5) (bG ba (ag (au 0) (ag (dCB lD (ag (au 5) (aO))) (aO))))) (ag (bG ba (ag (au 0) (ag (dOp cI (au 2) (dC (.d (.int 1)))) (aO)))) (aO)))))))) <|
  dR (au 6)
abbrev sx:List Str:=["_law_berths_here", "_law_demands_here", "_law_greatest", "_law_i", "_law_room", "_law_machine", "_law_many"]
def tW:TSd:=
  bI (cq (fk (qF (au 1))) (gN 2)) <|
  bI (kG (aca (ag (dC (.d (.int 1))) (ag (dOp cI (dCB lD (ag (au 2) (aO))) (dC (.d (.int 1)))) (aO)))) (gN 3)
   (bI (cq (dC (.d (.int 0))) (gN 4)) <|
   bI (kG (cm (au 0)) (gT 2 (aU (gN 5) (aU (gN 6) (fm))))
    (cq (dOp cI (au 4) (dCB rV (ag (au 6) (ag (au 3) (aO))))) (gN 4))) <|
   dIf (bH (dOp zV (dCB xI (ag (dSl (au 2) (eF) (lu (au 3))) (aO))) (au 4)))
    (dR (mL (ag (au 3) (ag (dCB xI (ag (dSl (au 2) (eF) (lu (au 3))) (aO))) (ag (au 4) (aO))))))
    (cU))) <|
  dR (dC (.d .none))
abbrev pM:List Str:=["thing"]
def o7:TSd:=
  bI (dIf (dOr (vw (bH (dCB i9 (ag (au 0) (ag (dC (.t "str")) (aO)))))) (vw (bH (i7 abp abp (dC (.d (.int 1))) (dCB lD (ag (au 0) (aO))) (dC (.d (.int 8)))))))
   (dR (dC (.d (.bool false))))
   (cU)) <|
  dR (dCB acJ (ag (dLC (cm (au 0)) (gN 0) (pE) (i7 abp abp (dC (.d (.str "a"))) (au 0) (dC (.d (.str "z")))) 1 []) (aO)))
abbrev lU:List Str:=["thing"]
def lX:TSd:=
  dR (jC (dCB i9 (ag (au 0) (ag (dC (.t "int")) (aO)))) (aaw (dCB i9 (ag (au 0) (ag (dC (.t "bool")) (aO))))))
abbrev jR:List Str:=["thing", "low", "high"]
def jZ(bW:SpD):TSd:=
  dR (jC (bG bW (ag (au 0) (aO))) (i7 abp abp (au 1) (au 0) (au 2)))
abbrev fg:List Str:=["row", "least"]
def eX(bx aW:SpD):TSd:=
  dR (jC (dCB i9 (ag (au 0) (ag (dC (.t "tuple")) (aO)))) (jC (dOp yF (dCB lD (ag (au 0) (aO))) (dC (.d (.int 2)))) (jC (bG bx (ag (dOp dP (au 0) (dC (.d (.int 0)))) (aO))) (bG aW (ag (dOp dP (au 0) (dC (.d (.int 1)))) (ag (au 1) (ag (dC (.d (.int 6))) (aO))))))))
abbrev fF:List Str:=["berths", "least", "at", "row"]
def fJ(aP:SpD):TSd:=
  bI (dIf (vw (bH (dCB i9 (ag (au 0) (ag (dC (.t "list")) (aO))))))
   (jD)
   (cU)) <|
  kG (aaK (ag (au 0) (aO))) (gT 2 (aU (gN 2) (aU (gN 3) (fm))))
   (dIf (dOr (bH (dOp aeB (au 2) (dC (.d (.int 8))))) (dOr (vw (bH (bG aP (ag (au 3) (ag (au 1) (aO)))))) (aev (bH (dOp zV (au 2) (dC (.d (.int 0))))) (bH (dOp abp (dOp dP (au 3) (dC (.d (.int 0)))) (dOp dP (dOp dP (au 0) (dOp qN (au 2) (dC (.d (.int 1))))) (dC (.d (.int 0)))))))))
    (jD)
    (cU))
abbrev gm:List Str:=["row"]
def fY(bx aW:SpD):TSd:=
  bI (dIf (dOr (vw (bH (dCB i9 (ag (au 0) (ag (dC (.t "tuple")) (aO)))))) (bH (dOp uW (dCB lD (ag (au 0) (aO))) (dC (.d (.int 3))))))
   (dR (dC (.d (.bool false))))
   (cU)) <|
  dR (jC (bG bx (ag (dOp dP (au 0) (dC (.d (.int 0)))) (aO))) (jC (bG bx (ag (dOp dP (au 0) (dC (.d (.int 1)))) (aO))) (bG aW (ag (dOp dP (au 0) (dC (.d (.int 2)))) (ag (dC (.d (.int 0))) (ag (dC (.d (.int 6))) (aO)))))))
abbrev gp:List Str:=["asked", "at", "row"]
def f7(bj:SpD):TSd:=
  bI (dIf (vw (bH (dCB i9 (ag (au 0) (ag (dC (.t "list")) (aO))))))
   (jD)
   (cU)) <|
  kG (aaK (ag (au 0) (aO))) (gT 2 (aU (gN 1) (aU (gN 2) (fm))))
   (dIf (dOr (bH (dOp aeB (au 1) (dC (.d (.int 8))))) (dOr (vw (bH (bG bj (ag (au 2) (aO))))) (bH (dOp (afU false) (dOp dP (au 2) (dC (.d (.int 0)))) (dLC (cm (dSl (au 0) (eF) (lu (au 1)))) (gN 0) (pE) (dOp dP (au 0) (dC (.d (.int 0)))) 1 [])))))
    (jD)
    (cU))
abbrev fZ:List Str:=["berths", "asked"]
def gb(aX bc:SpD):TSd:=
  bI (j9 (wx aX 0 (ag (au 0) (aO)))) <|
  j9 (bG bc (ag (au 1) (aO)))
abbrev qm:List Str:=["rooms", "demands", "demanded", "at", "many", "room"]
def n9:TSd:=
  bI (cq (dC (.d (.int 0))) (gN 2)) <|
  bI (kG (aaK (ag (fk (qF (au 1))) (aO))) (gT 2 (aU (gN 3) (aU (gN 4) (fm))))
   (bI (afx 2 (au 4) (λ i j=>i+j)) <|
   bI (cq (dCB xI (ag (dLC (cm (au 0)) (gN 0) (pE) (dCB rV (ag (au 0) (ag (dOp cI (au 1) (dC (.d (.int 1)))) (aO)))) 1 [3]) (aO))) (gN 5)) <|
   dIf (bH (dOp zV (au 2) (au 5)))
    (dR (mL (ag (dOp cI (au 3) (dC (.d (.int 1)))) (ag (au 2) (ag (au 5) (aO))))))
    (cU))) <|
  dR (dC (.d .none))
abbrev j0:List Str:=["demands", "kind", "many", "more"]
def jT:TSd:=
  bI (cq (dCB sY (ag (au 0) (aO))) (gN 3)) <|
  bI (rg (au 3) (au 1) (dOp cI (xW (au 3) (au 1) (dC (.d (.int 0)))) (au 2))) <|
  dR (au 3)
abbrev gq:List Str:=["rooms", "demands", "kind", "copies", "run"]
def gj(bz aV:SpD):TSd:=
  bI (kG (agj (ag (au 3) (ag (dC (.d (.int 0))) (ag (dUn acg (dC (.d (.int 1)))) (aO))))) (gN 4)
   (dIf (bH (dOp (pf false) (bG bz (ag (au 0) (ag (bG aV (ag (au 1) (ag (au 2) (ag (au 4) (aO))))) (aO)))) (dC (.d .none))))
    (dR (au 4))
    (cU))) <|
  dR (dC (.d (.int 0)))
abbrev pA:List Str:=["rooms", "asked", "demands", "ran", "wish", "kind", "copies", "run"]
def oN(bf aV:SpD):TSd:=
  bI (cq (ng) (gN 2)) <|
  bI (cq (uA (aO)) (gN 3)) <|
  bI (kG (cm (au 1)) (gT 3 (aU (gN 4) (aU (gN 5) (aU (gN 6) (fm)))))
   (bI (cq (bG bf (ag (au 0) (ag (au 2) (ag (au 5) (ag (au 6) (aO)))))) (gN 7)) <|
   bI (cq (bG aV (ag (au 2) (ag (au 5) (ag (au 7) (aO))))) (gN 2)) <|
   j9 (ix (au 3) (mL (ag (au 4) (ag (au 5) (ag (au 7) (aO)))))))) <|
  dR (au 3)
abbrev lZ:List Str:=["berths"]
def lS:TSd:=
  dR (dLC (cm (au 0)) (gT 2 (aU (gN 0) (aU (gN 1) (fm)))) (pE) (au 1) 2 [])
abbrev oX:List Str:=["berths", "asked"]
def qi(aG cA bb:SpD):TSd:=
  bI (j9 (bG aG (ag (au 0) (ag (au 1) (aO))))) <|
  dR (ag3 (cm (fk (bG cA (ag (bG bb (ag (au 0) (aO))) (ag (au 1) (aO)))))) (gT 3 (aU (gN 0) (aU (gN 1) (aU (gN 2) (fm))))) (pE) (mL (ag (au 0) (ag (au 2) (aO)))) 3 [])
def Ext(M M':MH):Prop:=∀ q o,M q=some o->M' q=some o
theorem Ext.refl(M:MH):Ext M M:=λ _ _ h=>h
theorem Ext.trans(h:Ext A B)(k:Ext B C):Ext A C:=λ q o e=>k q o (h q o e)
theorem Ext.new(h:M p=none):Ext M (bN M p o):=λ q u e=>adx e h
theorem Ext.del(h:Ext M M')(hp:M p=none):Ext M (jX M' p):=λ q u e=>by have hq:q≠p:=yd e hp;simp only[jX,if_neg hq];exact h q u e
theorem Ext.upd(h:Ext M M')(hp:M p=none):Ext M (bN M' p o):=λ q u e=>by rw[aw (yd e hp)];exact h q u e
theorem Ext.none(h:Ext M M')(hp:M' p=none):M p=none:=by
 cases e:M p with
 | none=>rfl
 | some o=>rw[h p o e] at hp;cases hp
theorem Ext.bag(h:Ext M M')(hb:Bag M p):Bag M' p:=by obtain⟨a,b,c,ns,e,z⟩:=hb;exact⟨a,b,c,ns,h _ _ e,z⟩
theorem eR{α:Type}{gt:TGd}{te:TD}{Q:List PyData->DS->MH->Prop}{τ0:DS}{M:MH}(L:List α)(g:α->W)(f:α->PyData)(S:DS->Prop)(hL:L.length<=1000)(h0:S τ0)
  (step:∀ a∈L,∀ τ,S τ->∀ R:PyData->DS->MH->Prop,(∀ τ2,S τ2->R (f a) τ2 M)->gt (g a) τ M λ τ2 M2=>te τ2 M2 λ y M4=>∃ d,y=.d d/\R d τ2 M4)
  (q:∀ τ,Q (L.map f) τ M) :
  ∃ P:Nat->List PyData->DS->MH->Prop,P 0 [] τ0 M /\
   (∀ i w acc τ M,(L.map g)[i]? =some w->P i acc τ M->acc.length<sizeLine/\gt w τ M λ τ2 M2=>pE τ2 M2 λ b M3=>if b=true then te τ2 M3 λ y M4=>∃ d,y=.d d/\P (i+1) (acc++[d]) τ2 M4 else P (i+1) acc τ2 M3) /\
   ∀ acc τ M,P (L.map g).length acc τ M->Q acc τ M:=by
 refine⟨λ i acc τ M'=>M'=M/\acc=(L.take i).map f/\S τ,⟨rfl,rfl,h0⟩,?_,?_⟩
 ·rintro i w acc τ M' hw ⟨rfl,rfl,hs⟩;rw[List.getElem?_map] at hw;cases e:L[i]? with
  | none=>rw[e] at hw;cases hw
  | some a =>
   rw[e] at hw;cases hw;have hi:=(List.getElem?_eq_some_iff.mp e).1;refine⟨by rw[List.length_map,List.length_take];have:=s16;omega,?_⟩;refine step a (List.mem_of_getElem? e) τ hs (λ d τ2 M4=>M4=M'/\(L.take i).map f++[d]=(L.take (i+1)).map f/\S τ2) λ τ2 h2=>⟨rfl,?_,h2⟩;rw[List.take_succ,e];simp
 ·rintro acc τ M' ⟨rfl,rfl,hs⟩;rw[List.length_map,List.take_length];exact q τ
abbrev Dm:=List (Str×Int)
def gI(r:Str×Int):PyData:=.int r.2
def Dc(M:MH)(a:Addr)(D:Dm):Prop:=M a=some (.dic (aR (rk Prod.fst gI D)))
def Sm(D:Dm)(c:Nat):Prop:=D.length<=c/\∀ r∈D,0<=r.2/\r.2<=6 * (c:Int)
def val(D:Dm)(k:Str):Int:=((fd Prod.fst D k).map (·.2)).getD 0
def more(D:Dm)(k:Str)(n:Int):Dm:=pt Prod.fst D (k,val D k+n)
theorem aik(h:Sm D c)(k:Str):0<=val D k/\val D k<=6 * (c:Int):=by
 unfold val;cases e:fd Prod.fst D k with
 | none=>simp only[Option.map_none,Option.getD_none];omega
 | some r=>exact h.2 r (abC e).1
theorem qz(h:Sm D c)(k:Str)(n0:0<=n)(n6:n<=6):Sm (more D k n) (c+1):=by
 have hv:=aik h k;refine⟨?_,λ r hr=>?_⟩
 ·have:=afd (nm:=Prod.fst) D (k,val D k+n);have h1:=h.1;unfold more;omega
 ·rcases abz (nm:=Prod.fst) hr with e | e
  ·subst e;dsimp only;omega
  ·have:=h.2 r e;omega
def vals(D:Dm):List Int:=D.map λ r=>r.2
theorem xS(D:Dm):(aR (rk Prod.fst gI D)).map (·.2)=fE (vals D):=by rw[zD,fE,vals,List.map_map,List.map_map];rfl
theorem abb(D:Dm):(aR (rk Prod.fst gI D)).length=D.length:=by simp[aR,rk]
def dsc(ns:List Int):List Int:=ns.mergeSort λ a b=>decide (a >= b)
theorem gQ(ns:List Int):(dsc ns).Perm ns:=List.mergeSort_perm _ _
theorem uv(ns:List Int):(dsc ns).Pairwise (· >= ·):=by have:=List.pairwise_mergeSort (le:=λ a b:Int=>decide (a >= b)) (λ a b c h1 h2=>by simp at *;omega) (λ a b=>by simp;omega) ns;exact this.imp λ h=>by simpa using h
theorem mM(p:ns'.Perm ns)(h:ns'.Pairwise (· >= ·)):ns'=dsc ns:=
 List.Perm.eq_of_pairwise (λ a b _ _ h1 h2=>by omega) h (uv ns) (p.trans (gQ ns).symm)
def room(rs:List Int)(i:Int):Int:=(rs.map λ m=>if i<m then i else m).sum
def abT(rs:List Int)(ns:List Int):Bool:=(List.range ns.length).all λ i=>decide ((ns.take (i+1)).sum<=room rs ((i:Int)+1))
def agb(rs:List Int)(D:Dm):Bool:=abT rs (dsc (vals D))
def OkR(rs:List Int):Prop:=rs.length<=8/\∀ m∈rs,0<=m/\m<=6
theorem aeQ{rs ns:List Int}{i:Nat}(hi:i<ns.length)(h:room rs ((i:Int)+1)<(ns.take (i+1)).sum):abT rs ns=false:=by
 unfold abT;rw[List.all_eq_false];exact⟨i,List.mem_range.mpr hi,by simp;omega⟩
theorem acz{rs ns:List Int}(h:∀ i<ns.length,(ns.take (i+1)).sum<=room rs ((i:Int)+1)):abT rs ns=true:=by
 unfold abT;rw[List.all_eq_true];exact λ i hi=>by simp;exact h i (List.mem_range.mp hi)
def gr(rs:List Int)(D:Dm)(k:Str):Nat->Int
 | 0=>0
 | n+1=>if agb rs (more D k ((n:Int)+1))=true then (n:Int)+1 else gr rs D k n
theorem ait(rs:List Int)(D:Dm)(k:Str):∀ n,0<=gr rs D k n/\gr rs D k n<=n
 | 0=>by simp[gr]
 | n+1=>by
  have:=ait rs D k n;unfold gr
  by_cases h:agb rs (more D k ((n:Int)+1))=true
  ·rw[if_pos h];omega
  ·rw[if_neg h];omega
def intD(ns:List Int):PyData:=.list (ns.map PyData.int)
theorem ints_map(ns:List Int):(ns.map PyData.int).map W.d=fE ns:=by rw[List.map_map];rfl
theorem sealed(hl:M l=none):Ext M (jX (bN M l o) l):=(Ext.new hl).del hl
theorem zW{ns:List Int}{i:Nat}{n:Int}(h:ns[i]? =some n):(ns.take (i+1)).sum=(ns.take i).sum+n:=by rw[List.take_succ,h,List.sum_append];simp
theorem ack{ns:List Int}{i:Nat}(h:(nL (ns.map PyData.int))[i]? =some w):∃ n,ns[i]? =some n/\w=.d (.tuple [.int (i:Nat),.int n]):=by
 unfold nL at h;rw[List.getElem?_map] at h;have hi:i<ns.length:=by
  by_cases q:i<ns.length
  ·exact q
  ·rw[List.getElem?_eq_none (by simpa using q)] at h;cases h
 rw[List.getElem?_range (by simpa using hi)] at h;cases h;refine⟨ns[i],List.getElem?_eq_getElem hi,?_⟩;simp[List.getD,List.getElem?_map,List.getElem?_eq_getElem hi]
def roomOf(i:Int)(m:Int):Int:=if i<m then i else m
theorem eI(rs:List Int)(i:Int):room rs i=(rs.map (roomOf i)).sum:=rfl
def nB(rs ns:List Int)(i:Nat):Bool:=decide (room rs ((i:Int)+1)<(ns.take (i+1)).sum)
def n8(rs ns:List Int)(i:Nat):PyData:=.tuple [.int ((i:Int)+1),.int (ns.take (i+1)).sum,.int (room rs ((i:Int)+1))]
def mQ(rs ns:List Int):PyData:=((List.range ns.length).find? (nB rs ns)).elim .none (n8 rs ns)
def dB(rs:List Int)(D:Dm):PyData:=mQ rs (dsc (vals D))
theorem vW{rs ns:List Int}{i:Nat}(hi:i<ns.length)(h:room rs ((i:Int)+1)<(ns.take (i+1)).sum)(hf:∀ j<i,(ns.take (j+1)).sum<=room rs ((j:Int)+1)):mQ rs ns=n8 rs ns i:=by
 have:(List.range ns.length).find? (nB rs ns)=some i:=by rw[List.find?_range_eq_some];refine⟨decide_eq_true h,List.mem_range.mpr hi,λ j hj=>?_⟩;have:=hf j hj;simp only[nB,Bool.not_eq_true',decide_eq_false_iff_not];omega
 unfold mQ;rw[this];rfl
theorem pj{rs ns:List Int}(hf:∀ j<ns.length,(ns.take (j+1)).sum<=room rs ((j:Int)+1)):mQ rs ns=.none:=by
 have:(List.range ns.length).find? (nB rs ns)=none:=by rw[List.find?_eq_none];intro j hj;have:=hf j (List.mem_range.mp hj);simp only[nB,decide_eq_true_eq];omega
 unfold mQ;rw[this];rfl
theorem tV(rs ns:List Int):isNone (.d (mQ rs ns))=abT rs ns:=by
 unfold mQ;cases e:(List.range ns.length).find? (nB rs ns) with
 | none =>
  rw[acz λ i hi=>?_]
  ·rfl
  ·have:=List.find?_eq_none.mp e i (List.mem_range.mpr hi);simp only[nB,decide_eq_true_eq] at this;omega
 | some i =>
  have h1:=List.find?_some e;have h2:=List.mem_of_find?_eq_some e;rw[aeQ (List.mem_range.mp h2) (of_decide_eq_true h1)];rfl
theorem xJ(rs:List Int)(D:Dm):isNone (.d (dB rs D))=agb rs D:=tV rs _
def bz:SpD:=λ ws M Q=>∃ (rs:List Int) (a:Addr) (D:Dm),ws=[.d (intD rs),.m a]/\Dc M a D/\D.length<=60/\OkR rs/\∀ M',Ext M M'->Q (.d (dB rs D)) M'
theorem rL:∀ ws M Q,bz ws M Q->ws.length=2:=by rintro ws M Q ⟨rs,a,D,rfl,_⟩;rfl
theorem ow:∀ ws M Q,bz ws M Q->n9 {nx:=λ _ M'=>Q (.d .none) M',rt:=Q} (bw qm ws) M:=by
 rintro ws M Q ⟨rs,a,D,rfl,hd,hl,hr,k⟩;refine⟨_,rfl,a,_,vals D,rfl,hd,xS D,by rw[vals,List.length_map];omega,λ ns' p h l hl'=>?_⟩;obtain rfl:=mM p h;refine⟨l,(dsc (vals D)).map PyData.int,rfl,by rw[ah,ints_map],?_⟩;have x1:=sealed (o:=.lst (fE (dsc (vals D)))) hl';generalize jX (bN M l (.lst (fE (dsc (vals D))))) l=M1 at x1;refine⟨_,rfl,?_⟩;dsimp only;unfold dB at k;generalize dsc (vals D)=ns at k;refine⟨λ i τ M'=>M'=M1/\(∀ j<i,(ns.take (j+1)).sum<=room rs ((j:Int)+1))/\∃ x3 x4 x5,τ=[some (.d (intD rs)),some (.m a),some (.d (.int ((ns.take i).sum))),x3,x4,x5],⟨rfl,λ j hj=>(nomatch hj),_,_,_,rfl⟩,?_,?_⟩
 ·rintro i w τ M' hw ⟨rfl,hf,x3,x4,x5,rfl⟩;obtain⟨n,hn,rfl⟩:=ack hw;have hi:=(List.getElem?_eq_some_iff.mp hn).1;refine⟨_,rfl,rfl,_,_,rfl,_,_,rfl,rfl,?_⟩;refine⟨_,rfl,_,rfl,_,rfl,?_⟩;refine⟨_,rfl,_,rfl,?_⟩;rw[show(rs.map PyData.int).map W.d=rs.map λ n=>W.d (.int n) from ints_map rs];refine eR rs (λ n=>W.d (.int n)) (λ m=>.int (roomOf ((i:Int)+1) m)) (λ τ=>∃ x,τ=[x,some (.d (.int (i:Nat)))]) (by have:=hr.1;omega) ⟨_,rfl⟩ (λ m hm τ hτ R h=>?_) (λ τ=>?_)
  ·obtain⟨x,rfl⟩:=hτ;exact⟨_,rfl,_,rfl,.inl ⟨_,_,rfl,rfl,_,_,rfl,_,rfl,h _ ⟨_,rfl⟩⟩⟩
  ·refine⟨_,rs.map (roomOf ((i:Int)+1)),rfl,by rw[show rs.map (λ m=>PyData.int (roomOf ((i:Int)+1) m))=(rs.map (roomOf ((i:Int)+1))).map PyData.int from by rw[List.map_map];rfl];exact .d,by rw[List.length_map];have:=hr.1;omega,λ m hm=>?_,?_⟩
   ·obtain⟨m',hm',rfl⟩:=List.mem_map.mp hm;have:=hr.2 m' hm';unfold roomOf
    split<;>omega
   ·rw[<- eI];refine⟨_,rfl,_,rfl,_,_,rfl,rfl,_,rfl,?_⟩;have ts:=zW hn;refine oP (λ h=>?_) (λ h=>?_)
    ·have hlt:room rs ((i:Int)+1)<(ns.take (i+1)).sum:=by rw[ts];exact of_decide_eq_true h
     refine⟨_,rfl,.inl ⟨_,_,rfl,rfl,_,rfl,_,rfl,_,rfl,few (by simp),?_⟩⟩;have:=k _ x1;rw[vW hi hlt hf] at this;unfold n8 at this;rw[ts] at this;exact this
    ·have hle:¬ room rs ((i:Int)+1)<(ns.take (i+1)).sum:=by rw[ts];exact of_decide_eq_false h
     refine⟨rfl,λ j hj=>?_,_,_,_,by rw[ts];rfl⟩
     by_cases q:j=i
     ·subst q;omega
     ·exact hf j (by omega)
 ·rintro τ M' ⟨rfl,hf,x3,x4,x5,rfl⟩;have:=k _ x1;rw[pj λ i hi=>hf i (by simpa [nL] using hi)] at this;exact this
abbrev Bs:=List (Str×Int)
abbrev As:=List (Str×Str×Int)
def bD(r:Str×Int):PyData:=.tuple [.str r.1,.int r.2]
def bsD(B:Bs):PyData:=.list (B.map bD)
def aD(r:Str×Str×Int):PyData:=.tuple [.str r.1,.str r.2.1,.int r.2.2]
def asD(A:As):PyData:=.list (A.map aD)
def rooms(B:Bs):List Int:=B.map (·.2)
theorem xl{B:Bs}{j:Nat}{r:Str×Int}(h:B[j]? =some r)(i:Int):room (rooms (B.take (j+1))) i=room (rooms (B.take j)) i+roomOf i r.2:=by
 unfold room rooms;rw[List.take_succ,h,List.map_append,List.map_append,List.sum_append];simp[roomOf]
theorem cS{α β:Type}{L:List α}{f:α->β}{i:Nat}{w:β}(h:(L.map f)[i]? =some w):∃ a,L[i]? =some a/\w=f a:=by
 rw[List.getElem?_map] at h;cases e:L[i]? with
 | none=>rw[e] at h;cases h
 | some a=>rw[e] at h;cases h;exact⟨a,rfl,rfl⟩
theorem tN{lo:Int}{n i:Nat}{w:W}(h:(pS lo n)[i]? =some w):i<n/\w=.d (.int (lo+(i:Int))):=by
 unfold pS at h;obtain⟨j,hj,rfl⟩:=cS h;obtain⟨h1,h2⟩:=List.getElem?_eq_some_iff.mp hj;simp at h1 h2;subst h2;exact⟨h1,rfl⟩
def cO:SpD:=λ ws M Q=>∃ (B:Bs) (a:Addr) (D:Dm),ws=[.d (bsD B),.m a]/\Dc M a D/\D.length<=60/\(∀ r∈D,0<=r.2/\r.2<=1000)/\∀ M',Ext M M'->Q (.d (dB (rooms B) D)) M'
theorem uf:∀ ws M Q,cO ws M Q->ws.length=2:=by rintro ws M Q ⟨rs,a,D,rfl,_⟩;rfl
theorem nN{α:Type}{xs:List α}{i:Nat}(hi:i<=xs.length):D.cutD xs none (some (i:Int))=xs.take i:=by
 unfold D.cutD;have e:HT.sIx xs.length 0 none=0:=rfl;have e2:HT.sIx xs.length xs.length (some (i:Int))=i:=by
  unfold HT.sIx;simp;rw[if_neg (by omega)];omega
 rw[e,e2];simp
theorem qU:∀ ws M Q,cO ws M Q->tW {nx:=λ _ M'=>Q (.d .none) M',rt:=Q} (bw sx ws) M:=by
 rintro ws M Q ⟨B,a,D,rfl,hd,hl,hv,k⟩;refine⟨_,rfl,a,_,vals D,rfl,hd,xS D,by rw[vals,List.length_map];omega,λ ns' p h l hl'=>?_⟩;obtain rfl:=mM p h;refine⟨l,(dsc (vals D)).map PyData.int,rfl,by rw[ah,ints_map],?_⟩;have x1:=sealed (o:=.lst (fE (dsc (vals D)))) hl';generalize jX (bN M l (.lst (fE (dsc (vals D))))) l=M1 at x1;have hdl:(dsc (vals D)).length=D.length:=by rw[(gQ _).length_eq,vals,List.length_map]
 have hvn:∀ n∈dsc (vals D),0<=n/\n<=1000:=λ n hn=>by obtain⟨r,hr,rfl⟩:=List.mem_map.mp ((gQ _).mem_iff.mp hn);exact hv r hr
 unfold dB at k;generalize dsc (vals D)=ns at k hdl hvn;refine⟨_,rfl,_,_,rfl,rfl,rfl,.inl ⟨_,_,rfl,rfl,1,_,rfl,⟨by decide,by decide,?_,?_⟩,?_⟩⟩
 ·rw[List.length_map];omega
 ·rw[List.length_map];omega
 have e0:((((ns.map PyData.int).length:Nat):Int)+1-1).toNat=ns.length:=by rw[List.length_map];omega
 rw[e0];have slice:∀ i:Nat,i<ns.length->∀ (τ:DS) (M':MH) (R:QD),(τ[2]? =some (some (.d (intD ns))))->(τ[3]? =some (some (.d (.int (1+(i:Int))))))->R (.d (.int ((ns.take (i+1)).sum))) M' ->
   dCB xI (ag (dSl (au 2) (eF) (lu (au 3))) (aO)) τ M' R:=by
  intro i hi τ M' R h2 h3 h;refine⟨_,h2,_,h3,_,rfl,_,rfl,rfl,_,ns.take (i+1),rfl,?_,by rw[List.length_take];omega,λ n hn=>?_,h⟩
  ·have e1:(1+(i:Int))=((i+1:Nat):Int):=by omega
   rw[e1,nN (by rw[List.length_map];omega),<- List.map_take];exact .d
  ·have:=hvn n (List.mem_of_mem_take hn);omega
 refine⟨λ i τ M'=>M'=M1/\(∀ j<i,(ns.take (j+1)).sum<=room (rooms B) ((j:Int)+1))/\∃ x3 x4 x5 x6,τ=[some (.d (bsD B)),some (.m a),some (.d (intD ns)),x3,x4,x5,x6],⟨rfl,λ j hj=>(nomatch hj),_,_,_,_,rfl⟩,?_,?_⟩
 ·rintro i w τ M' hw ⟨rfl,hf,x3,x4,x5,x6,rfl⟩;obtain⟨hi,rfl⟩:=tN hw;refine⟨_,rfl,_,rfl,?_⟩;dsimp only;refine⟨λ j τ M''=>M''=M'/\∃ x5 x6,τ=[some (.d (bsD B)),some (.m a),some (.d (intD ns)),some (.d (.int (1+(i:Int)))),some (.d (.int (room (rooms (B.take j)) (1+(i:Int))))),x5,x6],⟨rfl,_,_,rfl⟩,?_,?_⟩
  ·rintro j w τ M'' hw ⟨rfl,x5,x6,rfl⟩;obtain⟨d,hd',rfl⟩:=cS hw;obtain⟨r,hr,rfl⟩:=cS hd';refine⟨_,rfl,rfl,_,_,rfl,_,_,rfl,rfl,?_⟩;refine⟨_,rfl,_,rfl,_,rfl,_,_,rfl,.inl ⟨_,_,rfl,rfl,rfl,_,_,(by rw[xl hr];rfl)⟩⟩
  ·rintro τ M'' ⟨rfl,x5,x6,rfl⟩;have e1:(B.take ((B.map bD).map W.d).length)=B:=by rw[List.length_map,List.length_map,List.take_length]
   rw[e1];refine slice i hi _ _ _ rfl rfl ?_;refine⟨_,rfl,_,_,rfl,rfl,_,rfl,?_⟩;refine oP (λ h=>?_) (λ h=>?_)
   ·have hlt:room (rooms B) (1+(i:Int))<(ns.take (i+1)).sum:=of_decide_eq_true h;refine⟨_,rfl,slice i hi _ _ _ rfl rfl ⟨_,rfl,_,rfl,few (by simp),?_⟩⟩;have:=k _ x1;rw[Int.add_comm] at hlt;rw[vW hi hlt hf] at this;unfold n8 at this;rw[Int.add_comm (i:Int) 1] at this;exact this
   ·have hle:¬ room (rooms B) (1+(i:Int))<(ns.take (i+1)).sum:=of_decide_eq_false h;rw[Int.add_comm] at hle;refine⟨rfl,λ j hj=>?_,_,_,_,_,rfl⟩
    by_cases q:j=i
    ·subst q;omega
    ·exact hf j (by omega)
 ·rintro τ M' ⟨rfl,hf,x3,x4,x5,x6,rfl⟩;have:=k _ x1;rw[pj λ i hi=>hf i (by simpa [pS] using hi)] at this;exact this
theorem aiG(h:Dc M a D)(k:Str):∃ o,pP M (.m a) (.d (.str k)) o/\o.getD (.d (.int 0))=.d (.int (val D k)):=by refine⟨_,.k (k:=.inr k) h,?_⟩;rw[yI];unfold val;cases fd Prod.fst D k<;>rfl
theorem dput(D:Dm)(k:Str)(n:Int):lQ (aR (rk Prod.fst gI D)) (.inr k) (.d (.int (val D k+n)))=aR (rk Prod.fst gI (more D k n)):=
 ad5 (nm:=Prod.fst) gI D (k,val D k+n) rfl
def aV:SpD:=λ ws M Q=>∃ (a:Addr) (D:Dm) (k:Str) (n:Int),ws=[.m a,.d (.str k),.d (.int n)]/\Dc M a D/\D.length<=60/\∀ p M',M p=none->Dc M' p (more D k n)->Ext M M'->Q (.m p) M'
theorem mD:∀ ws M Q,aV ws M Q->ws.length=3:=by rintro ws M Q ⟨a,D,k,n,rfl,_⟩;rfl
theorem lE:∀ ws M Q,aV ws M Q->jT {nx:=λ _ M'=>Q (.d .none) M',rt:=Q} (bw j0 ws) M:=by
 rintro ws M Q ⟨a,D,k,n,rfl,hd,hl,K⟩;have s16':=s16;refine⟨_,rfl,a,_,rfl,hd,λ p hp=>?_⟩;have hd1:Dc (bN M p (.dic (aR (rk Prod.fst gI D)))) p D:=ah;obtain⟨o,h1,h2⟩:=aiG hd1 k;refine⟨_,rfl,.k hd1,_,rfl,o,h1,?_⟩;rw[h2];refine⟨_,rfl,.inl ⟨_,_,rfl,rfl,_,rfl,_,rfl,p,_,.inr k,rfl,hd1,rfl,by rw[abb];omega,?_⟩⟩;refine⟨_,rfl,K p _ hp ?_ ?_⟩
 ·show bN _ p _ p=_;rw[ah];exact congrArg (λ z=>some (MO.dic z)) (dput D k n)
 ·exact(Ext.new hp).upd hp
theorem acH(rs:List Int)(D:Dm)(k:Str)(n:Nat):gr rs D k (n+1)=if agb rs (more D k ((n:Int)+1))=true then (n:Int)+1 else gr rs D k n:=rfl
theorem adH{n:Int}{i:Nat}{w:W}(h:(pK n)[i]? =some w):i<n.toNat/\w=.d (.int (n-(i:Int))):=by
 unfold pK at h;obtain⟨j,hj,rfl⟩:=cS h;obtain⟨h1,h2⟩:=List.getElem?_eq_some_iff.mp hj;simp at h1 h2;subst h2;exact⟨by omega,rfl⟩
def bf:SpD:=λ ws M Q=>∃ (rs:List Int) (a:Addr) (D:Dm) (k:Str) (c:Int),ws=[.d (intD rs),.m a,.d (.str k),.d (.int c)]/\Dc M a D/\Sm D 9/\OkR rs/\0<=c/\c<=6/\∀ M',Ext M M'->Q (.d (.int (gr rs D k c.toNat))) M'
theorem jd:∀ ws M Q,bf ws M Q->ws.length=4:=by rintro ws M Q ⟨rs,a,D,k,n,rfl,_⟩;rfl
theorem iI:∀ ws M Q,bf ws M Q->gj bz aV {nx:=λ _ M'=>Q (.d .none) M',rt:=Q} (bw gq ws) M:=by
 rintro ws M Q ⟨rs,a,D,k,c,rfl,hd,hs,hr,c0,c6,K⟩;refine⟨_,rfl,1,rfl,c,rfl,c0,by omega,?_⟩;refine⟨λ i τ M'=>i<=c.toNat/\Ext M M'/\gr rs D k c.toNat=gr rs D k (c.toNat-i)/\∃ x,τ=[some (.d (intD rs)),some (.m a),some (.d (.str k)),some (.d (.int c)),x],⟨Nat.zero_le _,Ext.refl M,rfl,_,rfl⟩,?_,?_⟩
 ·rintro i w τ M' hw ⟨hi,x1,hg,x,rfl⟩;obtain⟨hlt,rfl⟩:=adH hw;refine⟨_,rfl,_,rfl,_,rfl,_,rfl,a,D,k,_,rfl,x1 _ _ hd,by have:=hs.1;omega,λ p M1 hp h1 x2=>?_⟩;have hm:=qz hs k (n:=c-(i:Int)) (by omega) (by omega);refine⟨rs,p,_,rfl,h1,by have:=hm.1;omega,hr,λ M2 x3=>⟨rfl,_,rfl,?_⟩⟩;have e1:c.toNat-i=(c.toNat-(i+1))+1:=by omega
  have e2:((c.toNat-(i+1):Nat):Int)+1=c-(i:Int):=by omega
  rw[e1,acH,e2] at hg;have e3:(xor false (isNone (.d (dB rs (more D k (c-(i:Int)))))))=agb rs (more D k (c-(i:Int))):=by rw[xJ];simp
  refine oP (λ h=>?_) (λ h=>?_)
  ·rw[if_pos (e3.symm.trans h)] at hg;have:=K M2 ((x1.trans x2).trans x3);rw[hg] at this;exact⟨_,rfl,this⟩
  ·rw[if_neg (by rw[<- e3,h];decide)] at hg;exact⟨by omega,(x1.trans x2).trans x3,hg,_,rfl⟩
 ·rintro τ M' ⟨hi,x1,hg,x,rfl⟩;have:=K M' x1;rw[hg,show(pK c).length=c.toNat from by simp[pK],Nat.sub_self] at this;exact this
def stp(rs:List Int)(s:Dm×As)(r:Str×Str×Int):Dm×As:=
 (more s.1 r.2.1 (gr rs s.1 r.2.1 r.2.2.toNat),s.2++[(r.1,r.2.1,gr rs s.1 r.2.1 r.2.2.toNat)])
def run(rs:List Int)(A:As):Dm×As:=A.foldl (stp rs) ([],[])
theorem gM{rs:List Int}{A:As}{i:Nat}{r:Str×Str×Int}(h:A[i]? =some r):run rs (A.take (i+1))=stp rs (run rs (A.take i)) r:=by
 unfold run;rw[List.take_succ,h,List.foldl_append];rfl
def OkC(A:As):Prop:=A.length<=8/\∀ r∈A,0<=r.2.2/\r.2.2<=6
theorem ub{rs:List Int}{A:As}(h:OkC A):∀ i,i<=A.length->Sm (run rs (A.take i)).1 i/\(run rs (A.take i)).2.length=i
 | 0,_=>by simp[run,Sm]
 | i+1,hi=>by
  have hlt:i<A.length:=by omega
  have e:A[i]? =some A[i]:=List.getElem?_eq_getElem hlt;obtain⟨h1,h2⟩:=ub (rs:=rs) h i (by omega);have hc:=h.2 A[i] (List.getElem_mem hlt);have hg:=ait rs (run rs (A.take i)).1 (A[i]).2.1 (A[i]).2.2.toNat;rw[gM e];refine⟨qz h1 _ (by omega) (by omega),?_⟩;show((run rs (A.take i)).2++[_]).length=_;rw[List.length_append,h2];rfl
theorem sm9{D:Dm}{i:Nat}(h:Sm D i)(hi:i<=9):Sm D 9:=⟨by have:=h.1;omega,λ r hr=>by have:=h.2 r hr;omega⟩
def cA:SpD:=λ ws M Q=>∃ (rs:List Int) (A:As),ws=[.d (intD rs),.d (asD A)]/\OkR rs/\OkC A/\∀ p M',M p=none->M' p=some (.lst (((run rs A).2.map aD).map W.d))->Ext M M'->Q (.m p) M'
theorem qV:∀ ws M Q,cA ws M Q->ws.length=2:=by rintro ws M Q ⟨rs,A,rfl,_⟩;rfl
theorem pQ:∀ ws M Q,cA ws M Q->oN bf aV {nx:=λ _ M'=>Q (.d .none) M',rt:=Q} (bw pA ws) M:=by
 rintro ws M Q ⟨rs,A,rfl,hr,hA,K⟩;have s16':=s16;have hA1:=hA.1;refine λ d hd=>⟨few (by simp),λ l hl=>?_⟩;have hl':bN M d (.dic []) l=none:=hl;have ld:l≠d:=λ e=>by rw[e,ah] at hl';cases hl'
 have hlM:M l=none:=by rw[aw ld] at hl';exact hl'
 have x0:Ext M (bN (bN M d (.dic [])) l (.lst [])):=((Ext.refl M).upd hd).upd hlM;refine⟨_,rfl,_,rfl,?_⟩;dsimp only;refine⟨λ i τ M'=>i<=A.length/\Ext M M'/\M' l=some (.lst (((run rs (A.take i)).2.map aD).map W.d))/\∃ a x4 x5 x6 x7,Dc M' a (run rs (A.take i)).1/\τ=[some (.d (intD rs)),some (.d (asD A)),some (.m a),some (.m l),x4,x5,x6,x7],⟨Nat.zero_le _,x0,ah,d,_,_,_,_,by unfold Dc;rw[aw ld.symm,ah];rfl,rfl⟩,?_,?_⟩
 ·rintro i w τ M' hw ⟨hi,x1,h1,a,x4,x5,x6,x7,h2,rfl⟩;obtain⟨d',hd',rfl⟩:=cS hw;obtain⟨r,hr',rfl⟩:=cS hd';have hlt:=(List.getElem?_eq_some_iff.mp hr').1;have hc:=hA.2 r (List.mem_of_getElem? hr');obtain⟨hsm,hlen⟩:=ub (rs:=rs) hA i (by omega);refine⟨_,rfl,rfl,_,_,rfl,_,_,rfl,_,_,rfl,rfl,?_⟩;refine⟨_,rfl,_,rfl,_,rfl,_,rfl,rs,a,_,r.2.1,r.2.2,rfl,h2,sm9 hsm (by omega),hr,hc.1,hc.2,λ M1 x2=>?_⟩;refine⟨_,rfl,_,rfl,_,rfl,a,_,r.2.1,_,rfl,x2 _ _ h2,by have:=hsm.1;omega,λ p M2 hp h3 x3=>?_⟩;have h4:=x3 _ _ (x2 _ _ h1);refine⟨_,rfl,l,_,rfl,h4,_,rfl,_,rfl,_,rfl,_,rfl,few (by simp),_,h4,by rw[List.length_map,List.length_map,hlen];omega,?_⟩;have pl:p≠l:=λ e=>by rw[e,x2 _ _ h1] at hp;cases hp
  refine⟨hlt,((x1.trans x2).trans x3).upd hlM,?_,p,_,_,_,_,?_,rfl⟩
  ·rw[ah,gM hr'];show _=some (MO.lst ((((run rs (A.take i)).2++[_]).map aD).map W.d));rw[List.map_append,List.map_append];rfl
  ·unfold Dc;rw[aw pl,gM hr'];exact h3
 ·rintro τ M' ⟨hi,x1,h1,a,x4,x5,x6,x7,h2,rfl⟩;have e1:A.take (((A.map aD).map W.d)).length=A:=by rw[List.length_map,List.length_map,List.take_length]
  rw[e1] at h1;exact⟨_,rfl,K l M' hlM h1 x1⟩
def bb:SpD:=λ ws M Q=>∃ B:Bs,ws=[.d (bsD B)]/\B.length<=8/\Q (.d (intD (rooms B))) M
theorem o6:∀ ws M Q,bb ws M Q->ws.length=1:=by rintro ws M Q ⟨B,rfl,_⟩;rfl
theorem nP:∀ ws M Q,bb ws M Q->lS {nx:=λ _ M'=>Q (.d .none) M',rt:=Q} (bw lZ ws) M:=by
 rintro ws M Q ⟨B,rfl,hB,K⟩;refine⟨_,rfl,_,rfl,?_⟩;dsimp only;rw[List.map_map];refine eR B (W.d ∘ bD) (λ r=>.int r.2) (λ τ=>∃ x y,τ=[x,y]) (by omega) ⟨_,_,rfl⟩ (λ r hr τ hτ R h=>?_) (λ τ=>?_)
 ·obtain⟨x,y,rfl⟩:=hτ;exact⟨_,rfl,rfl,_,_,rfl,_,_,rfl,rfl,_,rfl,_,rfl,h _ ⟨_,_,rfl⟩⟩
 ·unfold intD rooms at K;rw[List.map_map] at K;exact K
def due(rs:List Int)(A:As):Bs:=(run rs A).2.map λ r=>(r.1,r.2.2)
def ud(c:Nat):Bool:=decide (97<=c)&&decide (c<=122)
def wd(z:Str):Bool:=decide (1<=z.length)&&decide (z.length<=8)&&z.cps.toList.all ud
theorem afK(h:wd z=true):1<=z.length/\z.length<=8:=by simp[wd] at h;exact h.1
theorem abW(h:wd z=true):∀ c∈z.cps.toList,ud c=true:=by simp only[wd,Bool.and_eq_true,List.all_eq_true] at h;exact h.2
theorem og(h:wd z=true):acp z=true:=by have:=abW h;unfold acp;rw[<- Array.all_toList,List.all_eq_true];intro c hc;have:=this c hc;simp[ud] at this;simp;omega
theorem ae2{c:Bool}{A B:Prop}(e:c=true)(h:A):if c=true then A else B:=by rw[e];exact nV h
theorem pJ{c:Bool}{A B:Prop}(e:c=false)(h:B):if c=true then A else B:=by rw[e];exact jx h
theorem lt1(a b:Nat):decide ([a] < [b])=decide (a<b):=by
 by_cases h:a<b
 ·rw[decide_eq_true h];exact decide_eq_true (List.cons_lt_cons_iff.mpr (.inl h))
 ·rw[decide_eq_false h];refine decide_eq_false λ z=>?_;rcases List.cons_lt_cons_iff.mp z with q | ⟨_,q⟩
  ·exact h q
  ·exact absurd q (by simp)
theorem aim(i:Int):jP (.int i) "int" = true:=by simp[jP,tyD]
theorem aeO(i:Int):jP (.int i) "bool" = false:=by simp[jP,tyD]
theorem ahl(z:Str):jP (.str z) "str" = true:=by simp[jP,tyD]
theorem afv(ds:List PyData):jP (.list ds) "list" = true:=by simp[jP,tyD]
theorem afc(ds:List PyData):jP (.tuple ds) "tuple" = true:=by simp[jP,tyD]
def bW:SpD:=λ ws M Q=>∃ i:Int,ws=[.d (.int i)]/\Q (.d (.bool true)) M
theorem o9:∀ ws M Q,bW ws M Q->ws.length=1:=by rintro ws M Q ⟨d,rfl,_⟩;rfl
theorem m8:∀ ws M Q,bW ws M Q->lX {nx:=λ _ M'=>Q (.d .none) M',rt:=Q} (bw lU ws) M:=by
 rintro ws M Q ⟨i,rfl,k⟩;refine⟨_,rfl,_,_,_,rfl,.d,.int,_,rfl,?_⟩;rw[aim];refine nV ⟨_,rfl,_,_,_,rfl,.d,.bool,_,rfl,?_⟩;rw[aeO];exact k
def aW:SpD:=λ ws M Q=>∃ i lo hi:Int,ws=[.d (.int i),.d (.int lo),.d (.int hi)]/\lo<=i/\i<=hi/\Q (.d (.bool true)) M
theorem nM:∀ ws M Q,aW ws M Q->ws.length=3:=by rintro ws M Q ⟨i,lo,hi,rfl,_⟩;rfl
theorem lC:∀ ws M Q,aW ws M Q->jZ bW {nx:=λ _ M'=>Q (.d .none) M',rt:=Q} (bw jR ws) M:=by
 rintro ws M Q ⟨i,lo,hi,rfl,h1,h2,k⟩;refine⟨_,rfl,i,rfl,_,rfl,nV ⟨_,rfl,_,rfl,.inl ⟨_,_,rfl,rfl,_,rfl,?_⟩⟩⟩;rw[decide_eq_true h1];refine nV ⟨_,rfl,.inl ⟨_,_,rfl,rfl,?_⟩⟩;rw[show((λ i j:Int=>PyData.bool (decide (i<=j))) i hi)=.bool true from congrArg PyData.bool (decide_eq_true h2)];exact k
def bx:SpD:=λ ws M Q=>∃ z:Str,ws=[.d (.str z)]/\wd z=true/\Q (.d (.bool true)) M
theorem qt:∀ ws M Q,bx ws M Q->ws.length=1:=by rintro ws M Q ⟨d,rfl,_⟩;rfl
theorem nZ:∀ ws M Q,bx ws M Q->o7 {nx:=λ _ M'=>Q (.d .none) M',rt:=Q} (bw pM ws) M:=by
 rintro ws M Q ⟨z,rfl,hz,k⟩;have hl:=afK hz;have hfit:adJ (.d (.str z))=true:=decide_eq_true (few (by omega));refine⟨_,rfl,_,_,_,rfl,.d,.str,_,rfl,?_⟩;rw[ahl];refine jx ⟨_,rfl,_,_,rfl,rfl,hfit,.inl ⟨_,_,rfl,rfl,_,rfl,?_⟩⟩;rw[decide_eq_true (show(1:Int)<=(z.length:Nat) by omega)];refine nV (.inl ⟨_,_,rfl,rfl,_,rfl,?_⟩);rw[decide_eq_true (show((z.length:Nat):Int)<=8 by omega)];refine jx ⟨_,rfl,_,rfl,?_⟩;dsimp only;have ea:("a" : Str).cps.toList=[97]:=by decide +kernel
 have ez:("z" : Str).cps.toList=[122]:=by decide +kernel
 refine eR z.cps.toList (λ c=>W.d (.str ⟨#[c]⟩)) (λ c=>.bool true) (λ τ=>∃ x,τ=[x]) (by rw[str_len];omega) ⟨_,rfl⟩ (λ c hc τ hτ R h=>?_) (λ τ=>?_)
 ·obtain⟨x,rfl⟩:=hτ;have hs:=abW hz c hc;simp[ud] at hs;have q1:(!decide ((⟨#[c]⟩:Str).cps.toList<("a" : Str).cps.toList))=true:=by rw[ea,show(⟨#[c]⟩:Str).cps.toList=[c] from rfl,lt1];simp;omega
  have q2:(!decide (("z" : Str).cps.toList<(⟨#[c]⟩:Str).cps.toList))=true:=by rw[ez,show(⟨#[c]⟩:Str).cps.toList=[c] from rfl,lt1];simp;omega
  refine⟨_,rfl,.inr ⟨_,_,rfl,rfl,_,rfl,?_⟩⟩;refine ae2 q1 (.inr ⟨_,_,rfl,rfl,?_⟩);refine⟨_,rfl,?_⟩;have:=h [some (.d (.str ⟨#[c]⟩))] ⟨_,rfl⟩;rw[<- q2] at this;exact this
 ·refine⟨z.cps.toList.map λ _=>true,by rw[List.map_map];rfl,?_⟩;rw[show(z.cps.toList.map λ _=>true).all id=true from by rw[List.all_eq_true];intro b hb;obtain⟨_,_,rfl⟩:=List.mem_map.mp hb;rfl];exact k
def agh(r:Str×Int):Prop:=wd r.1=true/\0<=r.2/\r.2<=6
def aP:SpD:=λ ws M Q=>∃ r:Str×Int,ws=[.d (bD r),.d (.int 0)]/\agh r/\Q (.d (.bool true)) M
theorem h9:∀ ws M Q,aP ws M Q->ws.length=2:=by rintro ws M Q ⟨r,rfl,_⟩;rfl
theorem ajf:PyData.eqv (.int ((2:Nat):Int)) (.int 2)=true:=by decide +kernel
theorem gH:∀ ws M Q,aP ws M Q->eX bx aW {nx:=λ _ M'=>Q (.d .none) M',rt:=Q} (bw fg ws) M:=by
 rintro ws M Q ⟨r,rfl,hr,k⟩;refine⟨_,rfl,_,_,_,rfl,.d,.tuple,_,rfl,?_⟩;rw[show jP (bD r) "tuple" = true from afc _];refine nV ⟨_,rfl,_,_,rfl,rfl,rfl,_,_,.d,.d,(show d9 (.int ((2:Nat):Int)) (.int 2)=true by decide +kernel),_,rfl,?_⟩;rw[show PyData.eqv (.int (([PyData.str r.1,PyData.int r.2].length:Nat):Int)) (.int 2)=true from ajf];refine nV ⟨_,rfl,0,_,rfl,rfl,rfl,r.1,rfl,hr.1,_,rfl,nV ⟨_,rfl,1,_,rfl,rfl,rfl,_,rfl,r.2,0,6,rfl,hr.2.1,hr.2.2,k⟩⟩
def lsS(a b:Str):Bool:=decide (a.cps.toList<b.cps.toList)
structure OkB(B:Bs):Prop where
 len:B.length<=8
 row:∀ r∈B,agh r
 up:∀ i r s,B[i]? =some r->B[i+1]? =some s->lsS r.1 s.1=true
theorem tJ{α:Type}{L:List α}{f:α->PyData}{i:Nat}{w:W}(h:(nL (L.map f))[i]? =some w):∃ r,L[i]? =some r/\w=.d (.tuple [.int (i:Nat),f r]):=by
 unfold nL at h;rw[List.getElem?_map] at h;have hi:i<L.length:=by
  by_cases q:i<L.length
  ·exact q
  ·rw[List.getElem?_eq_none (by simpa using q)] at h;cases h
 rw[List.getElem?_range (by simpa using hi)] at h;cases h;refine⟨L[i],List.getElem?_eq_getElem hi,?_⟩;simp[List.getD,List.getElem?_map,List.getElem?_eq_getElem hi]
theorem afb{α:Type}{M:MH}{L:List α}{f:α->PyData}{i:Nat}{r:α}{j:Int}(hj:j=(i:Int))(h:L[i]? =some r):ixW M (.d (.list (L.map f))) j=some (.d (f r)):=by subst hj;have hi:=(List.getElem?_eq_some_iff.mp h).1;simp only[ixW,atI];rw[wL (by omega) (by rw[List.length_map];omega)];simp[h]
def aX:SpD:=λ ws M Q=>∃ B:Bs,ws=[.d (bsD B),.d (.int 0)]/\OkB B/\Q (.d .none) M
theorem iG:∀ ws M Q,aX ws M Q->ws.length=2:=by rintro ws M Q ⟨r,rfl,_⟩;rfl
theorem il:∀ ws M Q,aX ws M Q->fJ aP {nx:=λ _ M'=>Q (.d .none) M',rt:=Q} (bw fF ws) M:=by
 rintro ws M Q ⟨B,rfl,hB,k⟩;refine⟨_,rfl,_,_,_,rfl,.d,.list,_,rfl,?_⟩;rw[show jP (bsD B) "list" = true from afv _];refine jx ⟨_,rfl,_,rfl,?_⟩;refine⟨λ i τ M'=>M'=M/\∃ x2 x3,τ=[some (.d (bsD B)),some (.d (.int 0)),x2,x3],⟨rfl,_,_,rfl⟩,?_,?_⟩
 ·rintro i w τ M' hw ⟨rfl,x2,x3,rfl⟩;obtain⟨r,hr,rfl⟩:=tJ hw;have hi:=(List.getElem?_eq_some_iff.mp hr).1;have h8:=hB.len;refine⟨_,rfl,rfl,_,_,rfl,_,_,rfl,rfl,?_⟩;refine⟨_,rfl,_,_,rfl,rfl,_,rfl,?_⟩;rw[decide_eq_false (show ¬ (8:Int)<=(i:Nat) by omega)];refine jx ⟨_,rfl,_,rfl,r,rfl,hB.row r (List.mem_of_getElem? hr),_,rfl,jx ⟨_,rfl,_,_,rfl,rfl,_,rfl,?_⟩⟩;cases e:decide ((0:Int)<(i:Nat)) with
  | false=>exact⟨rfl,_,_,rfl⟩
  | true =>
   have h0:(0:Int)<(i:Nat):=of_decide_eq_true e;obtain⟨j,rfl⟩:∃ j,i=j+1:=⟨i-1,by omega⟩;have hj:j<B.length:=by omega
   have hjr:B[j]? =some B[j]:=List.getElem?_eq_getElem hj;refine nV ⟨_,rfl,0,_,rfl,rfl,rfl,_,rfl,_,rfl,_,_,rfl,rfl,_,_,rfl,afb (i:=j) (by omega) hjr,rfl,0,_,rfl,rfl,rfl,.inr ⟨_,_,rfl,rfl,_,rfl,?_⟩⟩;have hup:=hB.up j _ _ hjr hr;unfold lsS at hup;exact pJ (by show(!decide (B[j].1.cps.toList<r.1.cps.toList))=false;rw[hup];rfl) ⟨rfl,_,_,rfl⟩
 ·rintro τ M' ⟨rfl,x2,x3,rfl⟩;exact k
structure ag7(r:Str×Str×Int):Prop where
 w:wd r.1=true
 k:wd r.2.1=true
 c0:0<=r.2.2
 c6:r.2.2<=6
structure OkA(A:As):Prop where
 len:A.length<=8
 row:∀ r∈A,ag7 r
 nd:(A.map λ r=>r.1).Nodup
theorem OkA.c(h:OkA A):OkC A:=⟨h.len,λ r hr=>⟨(h.row r hr).c0,(h.row r hr).c6⟩⟩
theorem OkB.r(h:OkB B):OkR (rooms B):=⟨by unfold rooms;rw[List.length_map];exact h.len,λ m hm=>by obtain⟨r,hr,rfl⟩:=List.mem_map.mp hm;exact(h.row r hr).2⟩
theorem ajg:PyData.eqv (.int ((3:Nat):Int)) (.int 3)=true:=by decide +kernel
def bj:SpD:=λ ws M Q=>∃ r:Str×Str×Int,ws=[.d (aD r)]/\ag7 r/\Q (.d (.bool true)) M
theorem jf:∀ ws M Q,bj ws M Q->ws.length=1:=by rintro ws M Q ⟨r,rfl,_⟩;rfl
theorem iF:∀ ws M Q,bj ws M Q->fY bx aW {nx:=λ _ M'=>Q (.d .none) M',rt:=Q} (bw gm ws) M:=by
 rintro ws M Q ⟨r,rfl,hr,k⟩;refine⟨_,rfl,_,_,_,rfl,.d,.tuple,_,rfl,?_⟩;rw[show jP (aD r) "tuple" = true from afc _];refine jx ⟨_,rfl,_,_,rfl,rfl,rfl,_,_,.d,.d,(show d9 (.int ((3:Nat):Int)) (.int 3)=true by decide +kernel),_,rfl,?_⟩;rw[show PyData.eqv (.int (([PyData.str r.1,PyData.str r.2.1,PyData.int r.2.2].length:Nat):Int)) (.int 3)=true from ajg];refine jx ⟨_,rfl,0,_,rfl,rfl,rfl,r.1,rfl,hr.w,_,rfl,nV ⟨_,rfl,1,_,rfl,rfl,rfl,r.2.1,rfl,hr.k,_,rfl,nV ⟨_,rfl,2,_,rfl,rfl,rfl,r.2.2,0,6,rfl,hr.c0,hr.c6,k⟩⟩⟩
theorem iU{L:List Str}(h:L.Nodup){i:Nat}{z:Str}(e:L[i]? =some z):z ∉ L.take i:=by intro hm;obtain⟨j,hj,ej⟩:=List.getElem_of_mem hm;rw[List.length_take] at hj;rw[List.getElem_take] at ej;obtain⟨hi,ei⟩:=List.getElem?_eq_some_iff.mp e;have:=(List.getElem_inj (h₀:=by omega) (h₁:=hi) h).mp (ej.trans ei.symm);omega
def bc:SpD:=λ ws M Q=>∃ A:As,ws=[.d (asD A)]/\OkA A/\Q (.d .none) M
theorem ji:∀ ws M Q,bc ws M Q->ws.length=1:=by rintro ws M Q ⟨r,rfl,_⟩;rfl
theorem iw:∀ ws M Q,bc ws M Q->f7 bj {nx:=λ _ M'=>Q (.d .none) M',rt:=Q} (bw gp ws) M:=by
 rintro ws M Q ⟨A,rfl,hA,k⟩;refine⟨_,rfl,_,_,_,rfl,.d,.list,_,rfl,?_⟩;rw[show jP (asD A) "list" = true from afv _];refine jx ⟨_,rfl,_,rfl,?_⟩;refine⟨λ i τ M'=>M'=M/\∃ x2 x3,τ=[some (.d (asD A)),x2,x3],⟨rfl,_,_,rfl⟩,?_,?_⟩
 ·rintro i w τ M' hw ⟨rfl,x2,x3,rfl⟩;obtain⟨r,hr,rfl⟩:=tJ hw;have hi:=(List.getElem?_eq_some_iff.mp hr).1;have h8:=hA.len;refine⟨_,rfl,rfl,_,_,rfl,_,_,rfl,rfl,?_⟩;refine⟨_,rfl,_,_,rfl,rfl,_,rfl,?_⟩;rw[decide_eq_false (show ¬ (8:Int)<=(i:Nat) by omega)];refine jx ⟨_,rfl,r,rfl,hA.row r (List.mem_of_getElem? hr),_,rfl,jx ⟨_,rfl,0,_,rfl,rfl,rfl,_,rfl,_,rfl,_,rfl,_,rfl,rfl,_,rfl,?_⟩⟩;rw[nN (by rw[List.length_map];omega),<- List.map_take,List.map_map];refine eR (A.take i) (W.d ∘ aD) (λ r=>.str r.1) (λ τ=>∃ x,τ=[x]) (by rw[List.length_take];omega) ⟨_,rfl⟩ (λ r' hr' τ hτ R h=>?_) (λ τ=>?_)
  ·obtain⟨x,rfl⟩:=hτ;exact⟨_,rfl,0,_,rfl,rfl,rfl,_,rfl,h _ ⟨_,rfl⟩⟩
  ·refine⟨r.1,(A.take i).map λ r=>r.1,rfl,?_,_,rfl,?_⟩
   ·have e:eD ((A.take i).map λ r=>r.1)=((A.take i).map λ r=>PyData.str r.1).map W.d:=by unfold eD;rw[List.map_map,List.map_map];rfl
    rw[e];exact .l
   ·have hn:r.1 ∉ (A.take i).map λ r=>r.1:=by rw[List.map_take];exact iU hA.nd (by rw[List.getElem?_map,hr];rfl)
    rw[if_neg (by decide),decide_eq_false hn];exact⟨rfl,_,_,rfl⟩
 ·rintro τ M' ⟨rfl,x2,x3,rfl⟩;exact k
def aG:SpD:=λ ws M Q=>∃ (B:Bs) (A:As),ws=[.d (bsD B),.d (asD A)]/\OkB B/\OkA A/\Q (.d .none) M
theorem je:∀ ws M Q,aG ws M Q->ws.length=2:=by rintro ws M Q ⟨B,A,rfl,_⟩;rfl
theorem iS:∀ ws M Q,aG ws M Q->gb aX bc {nx:=λ _ M'=>Q (.d .none) M',rt:=Q} (bw fZ ws) M:=by
 rintro ws M Q ⟨B,A,rfl,hB,hA,k⟩;exact⟨_,rfl,B,rfl,hB,_,rfl,A,rfl,hA,k⟩
def cw:SpD:=λ ws M Q=>∃ (B:Bs) (A:As),ws=[.d (bsD B),.d (asD A)]/\OkB B/\OkA A/\∀ p M',M p=none->M' p=some (.lst (((due (rooms B) A).map bD).map W.d))->Ext M M'->Q (.m p) M'
theorem qS:∀ ws M Q,cw ws M Q->ws.length=2:=by rintro ws M Q ⟨B,A,rfl,_⟩;rfl
theorem pZ:∀ ws M Q,cw ws M Q->qi aG cA bb {nx:=λ _ M'=>Q (.d .none) M',rt:=Q} (bw oX ws) M:=by
 rintro ws M Q ⟨B,A,rfl,hB,hA,k⟩;refine⟨_,rfl,_,rfl,B,A,rfl,hB,hA,_,rfl,B,rfl,hB.len,_,rfl,rooms B,A,rfl,hB.r,hA.c,λ p M1 hp h1 x1=>⟨p,_,rfl,h1,_,rfl,?_⟩⟩;have x2:Ext M (jX M1 p):=x1.del hp;generalize jX M1 p=M2 at x2;have hlen:=(ub (rs:=rooms B) hA.c A.length (Nat.le_refl _)).2;rw[List.take_length] at hlen;rw[List.map_map];have h8:=hA.len;refine eR (run (rooms B) A).2 (W.d ∘ aD) (λ r=>bD (r.1,r.2.2)) (λ τ=>∃ x y z,τ=[x,y,z]) (by omega) ⟨_,_,_,rfl⟩ (λ r hr τ hτ R h=>?_) (λ τ=>?_)
 ·obtain⟨x,y,z,rfl⟩:=hτ;exact⟨_,rfl,rfl,_,_,rfl,_,_,rfl,_,_,rfl,rfl,_,rfl,_,rfl,_,rfl,few (by simp),_,rfl,h _ ⟨_,_,_,rfl⟩⟩
 ·intro q hq;refine k q _ (x2.none hq) ?_ (x2.upd (x2.none hq));rw[ah];unfold due;simp only[List.map_map];rfl
theorem aeP(h1:wd r.1=true)(h2:0<=r.2/\r.2<=6):okD 1 (bD r)=true:=by
 have big:(2:Nat) ^ 100 > 10:=by decide
 simp only[bD,okD,okA,og h1,Bool.true_and,Bool.and_true,decide_eq_true_eq];omega
theorem ahc(h:∀ r∈B,wd r.1=true/\0<=r.2/\r.2<=6):okD 2 (bsD B)=true:=by simp only[bsD,okD];refine rZ λ d hd=>?_;obtain⟨r,hr,rfl⟩:=List.mem_map.mp hd;exact aeP (h r hr).1 (h r hr).2
theorem aic(h:OkA A):okD 2 (asD A)=true:=by
 have big:(2:Nat) ^ 100 > 10:=by decide
 simp only[asD,okD];refine rZ λ d hd=>?_;obtain⟨r,hr,rfl⟩:=List.mem_map.mp hd;have:=h.row r hr;have h0:=this.c0;have h6:=this.c6;simp only[aD,okD,okA,og this.w,og this.k,Bool.true_and,Bool.and_true,decide_eq_true_eq];omega
theorem sU{rs:List Int}{A:As}(h:OkA A):∀ i,i<=A.length->∀ r∈(run rs (A.take i)).2,wd r.1=true/\0<=r.2.2/\r.2.2<=6
 | 0,_=>by intro r hr;simp[run] at hr
 | i+1,hi=>by
  have hlt:i<A.length:=by omega
  have e:A[i]? =some A[i]:=List.getElem?_eq_getElem hlt;have hr:=h.row A[i] (List.getElem_mem hlt);have hg:=ait rs (run rs (A.take i)).1 (A[i]).2.1 (A[i]).2.2.toNat;have ih:=sU (rs:=rs) h i (by omega);rw[gM e];intro r hm;have hm':r∈(run rs (A.take i)).2++[((A[i]).1,(A[i]).2.1,gr rs (run rs (A.take i)).1 (A[i]).2.1 (A[i]).2.2.toNat)]:=hm;have h0:=hr.c0;have h6:=hr.c6;rcases List.mem_append.mp hm' with z | z
  ·exact ih r z
  ·rw[List.mem_singleton] at z;subst z;exact⟨hr.w,by dsimp only;omega,by dsimp only;omega⟩
theorem zH(h:OkA A):(∀ r∈due rs A,wd r.1=true/\0<=r.2/\r.2<=6)/\(due rs A).length<=8:=by have h1:=sU (rs:=rs) h A.length (Nat.le_refl _);have h2:=(ub (rs:=rs) h.c A.length (Nat.le_refl _)).2;rw[List.take_length] at h1 h2;refine⟨λ r hr=>?_,by unfold due;rw[List.length_map,h2];exact h.len⟩;obtain⟨r',hr',rfl⟩:=List.mem_map.mp hr;exact h1 r' hr'
theorem l4{z:Str}{i:Nat}{j:Int}(hj:j=(i:Int))(hi:i<z.length):ixW M (.d (.str z)) j=some (.d (.str ⟨#[z.cps.toList.getD i 0]⟩)):=by
 subst hj;have hl:i<z.cps.toList.length:=by rw[str_len];exact hi
 simp only[ixW];rw[abf (by omega) (by omega)];simp[List.getD,List.getElem?_eq_getElem hl]
def zM(w:Nat):Str:=(["m", "ab", "zz"]:List Str).getD w "m"
def lp(k:Nat):Str:=Txt.mul ⟨#[("abcdefgh" : Str).cps.toList.getD k 0]⟩ (1+(0+(k:Int)) % 2)
def nmB(w k:Nat):Str:=zM w++lp k
theorem agp:∀ w<3,∀ k<8,wd (nmB w k)=true:=by decide +kernel
theorem afR:∀ w<3,∀ k<7,lsS (nmB w k) (nmB w (k+1))=true:=by decide +kernel
theorem ade:∀ w<3,∀ k<8,(zM w).length+(lp k).length<=1000:=by decide +kernel
theorem aeD(hw:w<3)(hl:B.length<=8)(h:∀ (j:Nat) (r:Str×Int),B[j]? =some r->r.1=nmB w j/\0<=r.2/\r.2<=6):OkB B:=by
 refine⟨hl,λ r hr=>?_,λ i r s h1 h2=>?_⟩
 ·obtain⟨j,hj,e⟩:=List.getElem_of_mem hr;obtain⟨z1,z2⟩:=h j r (by rw[List.getElem?_eq_getElem hj,e]);exact⟨by rw[z1];exact agp w hw j (by omega),z2⟩
 ·have:=(List.getElem?_eq_some_iff.mp h2).1;rw[(h i r h1).1,(h (i+1) s h2).1];exact afR w hw i (by omega)
def nmA(t k:Nat):Str:=if k=3 then "ma" else "w" ++ ⟨#[("hgfedcba" : Str).cps.toList.getD ((k+t) % 8) 0]⟩
theorem ae5:∀ t<8,∀ k<8,wd (nmA t k)=true:=by decide +kernel
theorem agW:∀ t<8,((List.range 8).map (nmA t)).Nodup:=by decide +kernel
theorem ac8{t:Nat}(ht:t<8)(hl:A.length<=8)(h:∀ (j:Nat) r,A[j]? =some r->r.1=nmA t j/\ag7 r):OkA A:=by
 refine⟨hl,λ r hr=>?_,?_⟩
 ·obtain⟨j,hj,e⟩:=List.getElem_of_mem hr;exact(h j r (by rw[List.getElem?_eq_getElem hj,e])).2
 ·have e:(A.map λ r=>r.1)=(List.range A.length).map (nmA t):=by
   refine List.ext_getElem? λ j=>?_;rw[List.getElem?_map,List.getElem?_map];cases q:A[j]? with
   | none =>
    have:=List.getElem?_eq_none_iff.mp q;rw[List.getElem?_eq_none (by simpa using this)];rfl
   | some r =>
    have:=(List.getElem?_eq_some_iff.mp q).1;rw[List.getElem?_range this];simp[(h j r q).1]
  rw[e];refine(agW t ht).sublist (List.Sublist.map _ ?_);rw[show(8:Nat)=A.length+(8-A.length) from by omega,List.range_add];exact List.sublist_append_left _ _
def hU:List Str:=["front", "ma", "side", "front", "k", "mbb", "aba", "back", "wish"]
theorem aaa:∀ z∈hU,wd z=true:=by decide +kernel
end Stc
namespace HT
open PySem PyProof.Rows
section
open PySem.SeqAt
open PySem.MeetsSeq PySem.MeetsSeq2 PySem.MeetsSeq3
end
end HT
namespace D
open L2
section
variable {X:Cx}{K:FG}
end
end D
namespace Stc
open L2 D Rc
abbrev iX:List Str:=["asked", "demands", "wish", "kind", "copies"]
def iY:TSd:=
  bI (cq (ng) (gN 1)) <|
  bI (kG (cm (au 0)) (gT 3 (aU (gN 2) (aU (gN 3) (aU (gN 4) (fm)))))
   (rg (au 1) (au 3) (dOp cI (xW (au 1) (au 3) (dC (.d (.int 0)))) (au 4)))) <|
  dR (au 1)
abbrev j4:List Str:=["_law_asked_here", "_law_found", "_law_wish", "_law_kind", "_law_copies"]
def kO:TSd:=
  bI (cq (ng) (gN 1)) <|
  bI (kG (cm (au 0)) (gT 3 (aU (gN 2) (aU (gN 3) (aU (gN 4) (fm)))))
   (rg (au 1) (au 3) (dOp cI (xW (au 1) (au 3) (dC (.d (.int 0)))) (au 4)))) <|
  dR (au 1)
def dmd(A:As):Dm:=A.foldl (λ D r=>more D r.2.1 r.2.2) []
theorem tS{A:As}{i:Nat}{r:Str×Str×Int}(h:A[i]? =some r):dmd (A.take (i+1))=more (dmd (A.take i)) r.2.1 r.2.2:=by
 unfold dmd;rw[List.take_succ,h,List.foldl_append];rfl
theorem jQ{A:As}(h:OkC A):∀ i,i<=A.length->Sm (dmd (A.take i)) i
 | 0,_=>by simp[dmd,Sm]
 | i+1,hi=>by
  have hlt:i<A.length:=by omega
  have e:A[i]? =some A[i]:=List.getElem?_eq_getElem hlt;have hc:=h.2 A[i] (List.getElem_mem hlt);rw[tS e];exact qz (jQ h i (by omega)) _ hc.1 hc.2
theorem wB(h:OkC A):Sm (dmd A) 9:=by have:=jQ h A.length (Nat.le_refl _);rw[List.take_length] at this;exact sm9 this (by have:=h.1;omega)
def aiM:SpD:=λ ws M Q=>∃ (A:As),ws=[.d (asD A)]/\OkC A/\∀ p M',M p=none->Dc M' p (dmd A)->Ext M M'->Q (.m p) M'
def bK:SpD:=aiM
def aQ:SpD:=aiM
theorem la:∀ ws M Q,bK ws M Q->ws.length=1:=by rintro ws M Q ⟨A,rfl,_⟩;rfl
theorem mJ:∀ ws M Q,aQ ws M Q->ws.length=1:=by rintro ws M Q ⟨A,rfl,_⟩;rfl
theorem fK:∀ ws M Q,bK ws M Q->iY {nx:=λ _ M'=>Q (.d .none) M',rt:=Q} (bw iX ws) M:=by
 rintro ws M Q ⟨A,rfl,hA,K⟩;have s16':=s16;have hA1:=hA.1;refine λ a ha=>?_;refine⟨_,rfl,_,rfl,?_⟩;dsimp only;refine⟨λ i τ M'=>i<=A.length/\Ext M M'/\Dc M' a (dmd (A.take i))/\∃ x2 x3 x4,τ=[some (.d (asD A)),some (.m a),x2,x3,x4],⟨Nat.zero_le _,Ext.new ha,ah,_,_,_,rfl⟩,?_,?_⟩
 ·rintro i w τ M' hw ⟨hi,x1,h1,x2,x3,x4,rfl⟩;obtain⟨d',hd',rfl⟩:=cS hw;obtain⟨r,hr',rfl⟩:=cS hd';have hlt:=(List.getElem?_eq_some_iff.mp hr').1;have hsm:=jQ hA i (by omega);refine⟨_,rfl,rfl,_,_,rfl,_,_,rfl,_,_,rfl,rfl,?_⟩;obtain⟨o,g1,g2⟩:=aiG h1 r.2.1;refine⟨_,rfl,.k h1,_,rfl,o,g1,?_⟩;rw[g2];refine⟨_,rfl,.inl ⟨_,_,rfl,rfl,_,rfl,_,rfl,a,_,.inr r.2.1,rfl,h1,rfl,by rw[abb];have:=hsm.1;omega,?_⟩⟩;refine⟨hlt,x1.upd ha,?_,_,_,_,rfl⟩;unfold Dc;rw[ah,tS hr'];exact congrArg (λ z=>some (MO.dic z)) (dput _ r.2.1 _)
 ·rintro τ M' ⟨hi,x1,h1,x2,x3,x4,rfl⟩;have e1:A.take (((A.map aD).map W.d)).length=A:=by rw[List.length_map,List.length_map,List.take_length]
  rw[e1] at h1;exact⟨_,rfl,K a M' ha h1 x1⟩
theorem lj:∀ ws M Q,aQ ws M Q->kO {nx:=λ _ M'=>Q (.d .none) M',rt:=Q} (bw j4 ws) M:=fK
theorem abY(h:OkR rs)(hi:0<=i):0<=room rs i/\room rs i<=1000000 * 8:=by
 have h1:∀ n∈rs.map (roomOf i),0<=n/\n<=1000000:=λ n hn=>by
  obtain⟨m,hm,rfl⟩:=List.mem_map.mp hn;have:=h.2 m hm;unfold roomOf
  split<;>omega
 have:=sum_bound _ h1;rw[List.length_map] at this;have hl:=h.1;rw[eI];omega
theorem acS(hr:OkR rs)(hd:Sm D 10):okD 2 (dB rs D)=true/\fG (dB rs D)=true:=by
 have hbig:(2:Nat) ^ 100 > 1000000000:=by decide
 have hl:(dsc (vals D)).length=D.length:=by rw[(gQ _).length_eq,vals,List.length_map]
 have hv:∀ n∈dsc (vals D),0<=n/\n<=1000000:=λ n hn=>by obtain⟨r,hr,rfl⟩:=List.mem_map.mp ((gQ _).mem_iff.mp hn);have:=hd.2 r hr;omega
 have hd1:=hd.1;unfold dB;generalize dsc (vals D)=ns at *;unfold mQ;cases e:(List.range ns.length).find? (nB rs ns) with
 | none=>exact⟨by rfl,nY (k:=2) (by decide) (by rfl) (by show(4:Nat)<=1000000;decide)⟩
 | some i =>
  have hi:=List.mem_range.mp (List.mem_of_find?_eq_some e);have h1:=abY hr (i:=(i:Int)+1) (by omega);have h2:=sum_bound (ns.take (i+1)) λ n hn=>hv n (List.mem_of_mem_take hn);rw[List.length_take] at h2;have ok:okD 2 (n8 rs ns i)=true:=by simp only[n8,okD,okA,Bool.and_true,Bool.and_eq_true,decide_eq_true_eq];omega
  exact⟨ok,nY (by decide) ok (by show big (n8 rs ns i)<=1000000;simp only[n8,big,acv];omega)⟩
theorem tU{xs ys:List Int}(h:xs.Perm ys):xs.sum=ys.sum:=by
 induction h with
 | nil=>rfl
 | cons x _ ih=>rw[List.sum_cons,List.sum_cons,ih]
 | swap x y l=>simp only[List.sum_cons];omega
 | trans _ _ h1 h2=>exact h1.trans h2
theorem acQ(nd:(D.map Prod.fst).Nodup):((more D k n).map Prod.fst).Nodup:=ah2 (nm:=Prod.fst) nd
end Stc
namespace D
open L2
end D
open L2 D
namespace L2
theorem ny(I:Nat->Shared->Prop)
  (turn:∀ n s,I n s->wpAny (model prog w) A (pyNext it) (λ r s₁=>match r with
   | none=>R (.ok .next) s₁
   | some v=>wpAny (model prog w) A (letOwnedTupleGo target it v) (λ _ s₁'=>wpAny (model prog w) A (assign target env v) (λ _ s₂ =>
     wpAny (model prog w) A (q0 ifs env) (λ ok s₃ =>
      if ok=true then wpAny (model prog w) A (eval kx env) (λ kv s₄=>wpAny (model prog w) A (eval vx env) (λ vv s₅ =>
       wpAny (model prog w) A (dictSet D kv vv) (λ _ s₆=>∃ m,m<n/\I m s₆) (λ _ _=>False) s₅) (λ _ _=>False) s₄) (λ _ _=>False) s₃
      else ∃ m,m<n/\I m s₃) (λ _ _=>False) s₂) (λ _ _=>False) s₁') (λ _ _=>False) s₁) (λ _ _=>False) s)
  (n:Nat)(h:I n s) :
  codeAny (model prog w) A (.compLoop (.DictComp kx vx [⟨target,iter,ifs,0⟩] scope pos) 0 it (.ref D) env) R s:=by
 refine codeAny_loop rfl I (λ n s hI=>?_) n h;show wpAny _ A ((compTurn (.DictComp kx vx [⟨target,iter,ifs,0⟩] scope pos) 0 it (.ref D) env).onRaise (λ x=>do noteFrame x env;theTreesLotGoes x)) _ _ s;refine wpAny_noted ?_;rw[compTurn_dict];refine wpAny_bind (wpAny_standAt (wpAny_bind (wpAny_mono (turn n s hI) (λ r s₁ h₁=>?_) λ _ _ h'=>h'.elim)));cases r with
 | none=>exact wpAny_pure h₁
 | some v =>
  refine wpAny_bind (wpAny_mono h₁ (λ _ s₁' h₁'=>?_) λ _ _ h'=>h'.elim);refine wpAny_bind (wpAny_mono h₁' (λ _ s₂ h₂=>wpAny_bind (wpAny_mono h₂ (λ ok s₃ h₃=>?_) λ _ _ h'=>h'.elim)) λ _ _ h'=>h'.elim);cases ok with
  | false=>exact wpAny_pure ⟨rfl,h₃⟩
  | true =>
   refine wpAny_bind ?_;refine wpAny_bind (wpAny_mono h₃ (λ kv s₄ h₄=>wpAny_bind (wpAny_holding (wpAny_mono h₄ (λ vv s₅ h₅=>wpAny_bind (wpAny_standAt (wpAny_holding (wpAny_mono h₅ (λ _ s₆ h₆=>wpAny_pure ⟨rfl,h₆⟩) λ _ _ h'=>h'.elim)))) λ _ _ h'=>h'.elim))) λ _ _ h'=>h'.elim)
theorem yo(I:Inv X pins σ H s)(e:H a=some (.dK kvs))(l:kvs.length<sizeLine)(ry:RelV (kV k) u)(rv:RelV v r)(h:∀ s',Inv X pins σ (upd H a (.dK (putK kvs k v))) s'->Q () s') :
  wpAny (model X.prog X.w) A (dictSet a u r) Q E s:=by
 obtain⟨z,hd,vs,rel,dd⟩:=vO I.hok e;have hz:vs.length<=sizeLine:=by rw[<- rel.length];exact z
 have hl:(putK kvs k v).length<=sizeLine:=by have:=gK kvs k v;omega
 refine wpAny_dictSet_pairs (hsz:=hz) (uG ry) dd λ h' dd' hs=>h _ ?_;have he:∃ q,h'.get? a=some q:=let ⟨q,_,_,hq,_⟩:=dd'; ⟨q,hq⟩;exact ni I (by rw[e];exact True.intro) hs he (qb hl hd (rel.put k rv) dd')
abbrev DcW:=Nat->Nat->St->Hp->Prop
def abM(J:It)(g:TG)(tt:TT)(tk tv:TE)(D:Addr)(W:DcW)(Fin:Hp->Prop):Prop:=∀ i m τ H,W i m τ H ->
 (J.stop i H/\Fin H)\/(J.go i H/\∀ x H',J.yld i H x H'->g x τ H' λ τ2 H2=>tt τ2 H2 λ b H3 =>
  if b=true then tk τ2 H3 λ y H4=>tv τ2 H4 λ z H5=>∃ kvs k,H5 D=some (.dK kvs)/\y=kV k/\kvs.length<sizeLine/\∃ m',m'<m/\W (i+1) m' τ2 (upd H5 D (.dK (putK kvs k z))) else ∃ m',m'<m/\W (i+1) m' τ2 H3)
section
variable {X:Cx}{pins:PN}{σ:St}{H:Hp}{s:Shared}{sc:Scope}{own:List Str}{fr:List Nat}{cl:List (Str×Addr)}{fp:List Addr}{it D:Addr}{J:It}{tn:Nat->Heap->Prop}{g:TG}{tt:TT}{tk tv:TE}{W:DcW}{Fin:Hp->Prop}
 {kx vx tg iter:Expr}{ifs:List Expr}{pos:Pos}{E:VP}
theorem yT{RR:Addr->Result->Shared->Prop}(hc:X.calm=true)(L:mq X sc own fr)(hcl1:∀ n c,cl.lookup n=some c->X.env.cells.lookup n=some c)(hcl2:∀ n,(n,NameKind.free)∈sc.names->∃ c,cl.lookup n=some c)
  (hg:∀ C s H ex pl,PG (blk X sc (lcN X own fr) cl C s H ex pl) tg g)(ht:∀ C s H ex pl,PTs (blk X sc (lcN X own fr) cl C s H ex pl) ifs tt)(hk:∀ C s H ex pl,PE (blk X sc (lcN X own fr) cl C s H ex pl) kx tk)(hv:∀ C s H ex pl,PE (blk X sc (lcN X own fr) cl C s H ex pl) vx tv)
  (I:Inv X pins σ H s)(T:Turn X.prog X.w X.K tg J fp it tn)(st:tn 0 s.heap)(hf:∀ b∈fp,iE X pins H b)(w0:∃ m,W 0 m (lcS own.length fr σ) H)(turn:abM J g tt tk tv D W Fin)
  (hRR:∀ (C:Addr) (s':Shared) (H':Hp) (m:Str->Option Value),Inv X pins σ H' s'->H' C=none->s.heap.objs.size<=C->s'.heap.Ns C m->Fin H'->RR C (.ok .next) s') :
  wpAny (model X.prog X.w) X.A (newFunctionEnv sc X.env.globals cl [] X.env.qual none .none (some X.env)) (λ cenv s₄ =>
   codeAny (model X.prog X.w) X.A (.compStart (.DictComp kx vx [⟨tg,iter,ifs,0⟩] sc pos) 0 (.ref it) (.ref D) {cenv with scope:=relabel sc X.env}) (RR cenv.locals) s₄) E s:=by
 refine wpAny_newFunctionEnv L.cell (by intro y hy;simp at hy) (λ h₁ hns₁ hsb₁=>?_) L.kind
 try dsimp only at hns₁ hsb₁ ⊢
 have below:∀ b,b<s.heap.objs.size->b≠s.heap.objs.size:=λ b hb=>Nat.ne_of_lt hb;have old:∀ b o,s.heap.get? b=some o->h₁.get? b=some o:=λ b o e=>hsb₁.extBut b o (below b (Heap.lt_size e)) (Heap.get?_push_of_some _ e);have hfb:∀ b∈fp,b<s.heap.objs.size:=λ b hb=>by obtain⟨o,e,_⟩:=T.obj 0 _ st b hb;exact Heap.lt_size e
 have I1:Inv (blk X sc (lcN X own fr) cl s.heap.objs.size s H fp pins) [] (lcS own.length fr σ) H {s with heap:=h₁,toks:=s.toks+([]:List (Str×Value)).length}:=xZ L I hf hfb (Nat.le_refl _) hcl1 hcl2 hns₁ old;have st1:tn 0 h₁:=T.keep 0 _ _ st λ b _ o e=>old b o e;generalize hY:blk X sc (lcN X own fr) cl s.heap.objs.size s H fp pins=Y at I1;have hYp:Y.prog=X.prog:=by rw[<- hY];rfl
 have hYw:Y.w=X.w:=by rw[<- hY];rfl
 have hYK:Y.K=X.K:=by rw[<- hY];rfl
 have hYA:Y.A=X.A:=by rw[<- hY];rfl
 have hYc:Y.calm=true:=by rw[<- hY];exact hc
 have hYe:Y.env=compEnvC sc cl s.heap.objs.size X.env:=by rw[<- hY];rfl
 have hYx:Y.xe=λ _ _=>False:=by rw[<- hY];rfl
 have hYpn:Y.pn=X.pn++pins:=by rw[<- hY];rfl
 have hYs:Y.s₀=s:=by rw[<- hY];rfl
 have hYH:Y.H₀=H:=by rw[<- hY];rfl
 have hYex:Y.ex=fp:=by rw[<- hY];rfl
 have hYfs:Y.fs=frs X.stack:=by rw[<- hY];rfl
 have gY:=hg s.heap.objs.size s H fp pins;have tY:=ht s.heap.objs.size s H fp pins;have kY:=hk s.heap.objs.size s H fp pins;have vY:=hv s.heap.objs.size s H fp pins;rw[hY] at gY tY kY vY;have fpY:∀ {H':Hp},(∀ b∈fp,H' b=none)->∀ b∈fp,iE Y [] H' b:=λ {H'} hn b hb=>by
  obtain⟨_,f1,f2,f3,f4,f5⟩:=hf b hb;refine⟨hn b hb,by rw[hYe];exact below b (hfb b hb),?_,.inl (by rw[hYex];exact hb),λ x c e=>?_,λ p q=>?_⟩
  ·rw[hYfs];intro z;rcases List.mem_cons.mp (I.iW _ z) with e | e
   ·exact f1 e
   ·exact f2 e
  ·rw[hYe] at e;exact f4 x c (hcl1 _ _ e)
  ·rw[List.append_nil,hYpn] at q;exact f5 p q
 have loop:∀ s₃:Shared,s₃={s with heap:=h₁,toks:=s.toks+([]:List (Str×Value)).length} ->
   codeAny (model X.prog X.w) X.A (.compLoop (.DictComp kx vx [⟨tg,iter,ifs,0⟩] sc pos) 0 (.ref it) (.ref D) (compEnvC sc cl s.heap.objs.size X.env)) (RR s.heap.objs.size) s₃:=by
  rintro s₃ rfl;obtain⟨m0,w0⟩:=w0;refine ny (λ n s'=>∃ i τ H',Inv Y [] τ H' s'/\tn i s'.heap/\(∀ b∈fp,H' b=none)/\W i n τ H') ?_ m0 ⟨0,_,H,I1,st1,λ b hb=>(hf b hb).1,w0⟩;rintro n s' ⟨i,τ,H',I',st',hn',w'⟩;rcases turn i n τ H' w' with ⟨stop,fin⟩ | ⟨go,step⟩
  ·have q:=T.done Y hYp hYw hYK hYc i _ s' τ H' (λ _ _=>False) I' (fpY hn') st' stop;rw[hYA] at q;refine thn q λ r s4 hq92=>?_;obtain⟨hr,I4⟩:=hq92;subst hr;have un:Un (frs X.stack) fp H H' s.heap s4.heap:=by have z:=I4.base;rw[hYfs,hYex,hYH,hYs] at z;exact z
   have os4:s4.os=s.os:=by have z:=I4.os;rw[hYs] at z;exact z
   have hok4:HOk X.prog X.w H' s4.heap:=by have z:=I4.hok;rw[hYp,hYw] at z;exact z
   have hch:∀ b∈fp,(b∈X.ex\/X.s₀.heap.objs.size<=b)/\b≠X.env.locals/\(∀ x c,X.env.cells.lookup x=some c->c≠b)/\∀ p∈X.pn++pins,p.1≠b:=λ b hb=>by obtain⟨_,f1,f2,f3,f4,f5⟩:=hf b hb;exact⟨f3,f1,f4,f5⟩
   have IX:Inv X pins σ H' s4:=I.adq os4 un hok4 I4.bare hch;obtain⟨mC,hmC,_⟩:=I4.loc;have hCf:=I4.free;rw[hYe] at hmC hCf;exact hRR _ s4 H' mC IX hCf (Nat.le_refl _) hmC fin
  ·have q:=T.item Y hYp hYw hYK hYc i _ s' τ H' (λ _ _=>False) I' (fpY hn') st' go;rw[hYA] at q;refine thn q λ r s4 hq93=>?_;obtain⟨u,hr,h4⟩:=hq93;subst hr;refine thn h4 λ _ s5 hq94=>?_;obtain⟨x,H5,I5,r5,y5,st5,fr5⟩:=hq94;have I5':=I5.pinned (fpY fr5) (T.obj _ _ st5);have g5:=gY _ s5 τ H5 x u _ I5' r5 (step x H5 y5);rw[hYp,hYw,hYA,hYe,hYx] at g5;refine thn g5 λ _ s6 hq95=>?_;obtain⟨σ6,H6,I6,q6⟩:=hq95;have t6:=tY _ s6 σ6 H6 _ I6 q6;rw[hYp,hYw,hYA,hYe,hYx] at t6;refine thn t6 λ ok s7 hq96=>?_;obtain⟨H7,I7,q7⟩:=hq96;have keepI:∀ {σ8:St} {H8:Hp} {s8:Shared},Inv Y ([]++kI fp s5.heap) σ8 H8 s8->tn (i+1) s8.heap/\∀ b∈fp,H8 b=none:=
    λ {σ8 H8 s8} I8=>by refine⟨T.keep _ _ _ st5 λ b hb o e=>(I8.pin (b,o) (List.mem_append_right _ (List.mem_append_right _ (dq hb e)))).1,λ b hb=>?_⟩;obtain⟨o,e,d⟩:=T.obj _ _ st5 b hb;exact(I8.pin (b,o) (List.mem_append_right _ (List.mem_append_right _ (dq hb e)))).2.1
   cases ok with
   | false =>
    rw[if_neg Bool.false_ne_true] at q7 ⊢;obtain⟨m',hm',w7⟩:=q7;obtain⟨c7,d7⟩:=keepI I7;exact⟨m',hm',i+1,σ6,H7,I7.dN (λ p hp=>(nomatch hp)),c7,d7,w7⟩
   | true =>
    rw[if_pos rfl] at q7 ⊢;have e7:=kY _ s7 σ6 H7 _ I7 q7;rw[hYp,hYw,hYA,hYe,hYx] at e7;refine thn e7 λ ku s8 hq97=>?_;obtain⟨y,H8,I8,r8,q8⟩:=hq97;have e8:=vY _ s8 σ6 H8 _ I8 q8;rw[hYp,hYw,hYA,hYe,hYx] at e8;refine thn e8 λ vu s9 hq98=>?_;obtain⟨z,H9,I9,r9,kvs,k,hD,ey,hlt,m',hm',w9⟩:=hq98;subst ey;have r8':RelV (kV k) ku:=r8;have q9:=yo (A:=X.A) (E:=λ _ _=>False) (Q:=λ _ s₆=>∃ m,m<n/\∃ i τ H',Inv Y [] τ H' s₆/\tn i s₆.heap/\(∀ b∈fp,H' b=none)/\W i m τ H') I9 hD hlt r8' r9 λ s10 I10=>by obtain⟨c8,d8⟩:=keepI I10;exact⟨m',hm',i+1,σ6,_,I10.dN (λ p hp=>(nomatch hp)),c8,d8,w9⟩
    rw[hYp,hYw] at q9;exact q9
 exact codeAny_compStart_dict (loop _ rfl) (T.self _ 0 _ _ _ st1 (loop _ rfl))
def tDC(wi:TI)(g:TG)(tt:TT)(tk tv:TE)(k:Nat)(fr:List Nat):TE:=λ σ H Q=>wi σ H λ J H1=>∀ p,H1 p=none->∃ W:DcW,(∃ m,W 0 m (lcS k fr σ) (upd H1 p (.dK [])))/\abM J g tt tk tv p W λ H2=>Q (.ref p) H2
theorem ahX(hc:X.calm=true)(L:mq X sc own fr)(hi:PI X tg iter wi)
  (hg:∀ cl C s H ex pl,PG (blk X sc (lcN X own fr) cl C s H ex pl) tg g)(ht:∀ cl C s H ex pl,PTs (blk X sc (lcN X own fr) cl C s H ex pl) ifs tt)(hk:∀ cl C s H ex pl,PE (blk X sc (lcN X own fr) cl C s H ex pl) kx tk)(hv:∀ cl C s H ex pl,PE (blk X sc (lcN X own fr) cl C s H ex pl) vx tv)
  (hs:∀ x,foldedSetIterable iter X.env x=pure x:=by intro _;rfl):PE X (.DictComp kx vx [⟨tg,iter,ifs,0⟩] sc pos) (tDC wi g tt tk tv own.length fr):=by
 intro pins s σ H Q I h;obtain⟨cl,hcl,c1,c2⟩:=fO L I.ok;show wpAny _ _ (comprehension (.DictComp kx vx [⟨tg,iter,ifs,0⟩] sc pos) sc X.env _ newDict false (eval iter X.env)) _ _ _;refine wpAny_comprehension_free (use:=none) (g:=⟨tg,iter,ifs,0⟩) (gs:=[]) rfl hs hcl L.kind L.names ?_;refine thn (hi pins s σ H _ I h) λ v s1 h1=>thn h1 λ itv s2 h2=>?_;obtain⟨it,fp,tn,J,H2,e,I2,T,st2,f2,q2⟩:=h2;subst e;obtain⟨W,w0,turn⟩:=q2 _ (I2.hok.fresh (Nat.le_refl s2.heap.objs.size));refine wpAny_newObj_type ?_;have I3:=I2.laid (a:=s2.heap.objs.size) (o:=.dK []) (h':=s2.heap.push {cls:=.type "dict",data:=.dict #[]}) (t':=s2.toks) (λ _ _ q=>Heap.get?_push_of_some _ q) (Nat.le_refl _) (nc s2.heap I2.big);have hfb:∀ b∈fp,b<s2.heap.objs.size:=λ b hb=>by obtain⟨o,e,_⟩:=T.obj 0 _ st2 b hb;exact Heap.lt_size e
 have f3:∀ b∈fp,iE X pins (upd H2 s2.heap.objs.size (.dK [])) b:=λ b hb=>by obtain⟨f0,fr⟩:=f2 b hb;exact⟨by rw[aj (Nat.ne_of_lt (hfb b hb))];exact f0,fr⟩
 have st3:tn 0 (s2.heap.push {cls:=.type "dict",data:=.dict #[]}):=T.keep 0 _ _ st2 λ b _ o e=>Heap.get?_push_of_some _ e;refine yT (cl:=cl) hc L c1 c2 (hg cl) (ht cl) (hk cl) (hv cl) I3 T st3 f3 w0 turn λ C s' H' m I' hC dC hns fin=>?_;refine⟨m,hns,λ h' sb=>?_⟩;have hC2:s2.heap.objs.size<=C:=Nat.le_trans (by rw[Heap.size_push];exact Nat.le_succ _) dC;obtain⟨_,z2,_,_,z3,z4⟩:=I2.nU (H':=λ _=>none) hC2 rfl;have I4:Inv X pins σ H' {s' with heap:=h'}:=I'.turned (t':=s'.toks) (λ b o hb e=>sb.extBut b o hb e) hC z2 (.inr (Nat.le_trans I2.sz hC2)) z3 z4;exact⟨.ref _,_,I4,rfl,fin⟩
end
end L2
namespace D
open L2
section
variable {K:FG}
def dDC(di:TId)(g:TGd)(tt:TTd)(tk tv:TD)(k:Nat)(fr:List Nat)(τ:DS)(M:MH)(Q:QD):Prop:=di τ M λ ws M1=>∀ p,M1 p=none->∃ P:Nat->DS->MH->Prop,P 0 (aaF k fr τ) (bN M1 p (.dic [])) /\
 (∀ i w τ M,ws[i]? =some w->P i τ M->g w τ M λ τ2 M2=>tt τ2 M2 λ b M3=>if b=true then tk τ2 M3 λ y M4=>tv τ2 M4 λ z M5=>∃ kvs key,M5 p=some (.dic kvs)/\y=kW key/\kvs.length<sizeLine/\P (i+1) τ2 (bN M5 p (.dic (lQ kvs key z))) else P (i+1) τ2 M3) /\
 ∀ τ M,P ws.length τ M->Q (.m p) M
theorem abB(h:up K (dDC di g tt tk tv k fr) σ H Q) :
  tDC (upI K di) (upG K g) (upT K tt) (up K tk) (up K tv) k fr σ H Q:=by
 obtain⟨τ,M,Qd,A,h,kk⟩:=h;refine⟨τ,M,_,A,h,λ J H1 ws M1 kp m1 it hall p hp=>?_⟩;obtain⟨P,p0,pt,pe⟩:=hall p (m1.free hp);have kpn:Kp H1 (upd H1 p (.dK [])):=Kp.new hp;have mn:cf K (upd H1 p (.dK [])) (bN M1 p (.dic [])):=m1.put (mo:=.dic []) kpn ⟨_,aq,.nil⟩;refine⟨λ i n σ' H'=>n=ws.length-i/\i<=ws.length/\Kp (upd H1 p (.dK [])) H'/\∃ τ M,Abs K H' σ' τ M/\P i τ M,⟨ws.length,by simp,Nat.zero_le _,Kp.refl _,_,_,sO (A.go (kp.trans kpn) mn) k fr,p0⟩,?_⟩;rintro i n σ2 H2 ⟨rfl,hi,kp2,τ2,M2,A2,p2⟩;obtain⟨go,stop,yld⟩:=it H2 (kpn.trans kp2) i
 by_cases hlt:i<ws.length
 ·refine .inr ⟨go hlt,λ x H3 y=>?_⟩;obtain⟨kp3,mk,w,ew,rw⟩:=yld x H3 hlt y;refine⟨w,τ2,M2,_,rw,A2.go kp3 (mk _ A2.mem),pt i w τ2 M2 ew p2,λ σ4 H4 τ4 M4 kp4 A4 q4=>⟨τ4,M4,_,A4,q4,λ b H5 M5 kp5 m5 q5=>?_⟩⟩;have kq:=(kp3.trans kp4).trans kp5;cases b with
  | false =>
   rw[if_neg Bool.false_ne_true] at q5;exact jx ⟨ws.length-(i+1),by omega,rfl,hlt,kp2.trans kq,τ4,M5,A4.go kp5 m5,q5⟩
  | true =>
   rw[if_pos rfl] at q5;refine nV ⟨τ4,M5,_,A4.go kp5 m5,q5,λ ky H6 wy M6 kp6 r6 m6 q6=>⟨τ4,M6,_,A4.go (kp5.trans kp6) m6,q6,λ v H7 wv M7 kp7 r7 m7 hq99=>?_⟩⟩;obtain⟨kvs,key,hm,ey,hl,q7⟩:=hq99;subst ey;obtain⟨l,e,pr⟩:=m7 _ _ hm;have kp8:Kp H7 (upd H7 p (.dK (putK l key v))):=Kp.set e (λ _ z=>nomatch z) (λ _ _ z=>nomatch z);refine⟨l,key,e,iV r6,by rw[<- ue pr];exact hl,ws.length-(i+1),by omega,rfl,hlt,kp2.trans (((kq.trans kp6).trans kp7).trans kp8),τ4,_,A4.go (((kp5.trans kp6).trans kp7).trans kp8) (m7.put (mo:=.dic (lQ kvs key wv)) kp8 ⟨_,aq,?_⟩),q7⟩;exact Paired.iu (xn key r7 pr) λ p q z=>⟨z.1,z.2.keep kp8⟩
 ·have hl:i=ws.length:=by omega
  subst hl;refine .inl ⟨stop (Nat.le_refl _),?_⟩;exact kk _ H2 (.m p) M2 (kp.trans (kpn.trans kp2)) rfl A2.mem (pe τ2 M2 p2)
variable {X:Cx}{sc:Scope}{own:List Str}{fr:List Nat}{di:TId}{g:TGd}{tt:TTd}{tk tv:TD}{tg iter kx vx:Expr}{ifs:List Expr}{pos:Pos}
theorem af3(hc:X.calm=true)(L:mq X sc own fr)(hi:PId X tg iter di)
  (hg:∀ cl C s H ex pl,PGd (blk X sc (lcN X own fr) cl C s H ex pl) tg g)(ht:∀ cl C s H ex pl,yN (blk X sc (lcN X own fr) cl C s H ex pl) ifs tt)(hk:∀ cl C s H ex pl,PD (blk X sc (lcN X own fr) cl C s H ex pl) kx tk)(hv:∀ cl C s H ex pl,PD (blk X sc (lcN X own fr) cl C s H ex pl) vx tv)
  (hs:∀ x,foldedSetIterable iter X.env x=pure x:=by intro _;rfl):PD X (.DictComp kx vx [⟨tg,iter,ifs,0⟩] sc pos) (dDC di g tt tk tv own.length fr):=
 fN (ahX hc L hi hg ht hk hv hs) λ σ H Q h=>abB h
end
end D
open L2 D
theorem agt(hc:X.calm=true)(L:mq X sc own fr)(hi:Jd (PId X tg iter di))
  (hg:∀ cl C s H ex pl,Jd (PGd (blk X sc (lcN X own fr) cl C s H ex pl) tg g))(ht:∀ cl C s H ex pl,Jd (yN (blk X sc (lcN X own fr) cl C s H ex pl) ifs tt))(hk:∀ cl C s H ex pl,Jd (PD (blk X sc (lcN X own fr) cl C s H ex pl) kx tk))(hv:∀ cl C s H ex pl,Jd (PD (blk X sc (lcN X own fr) cl C s H ex pl) vx tv))
  (hs:∀ x,foldedSetIterable iter X.env x=pure x:=by intro _;rfl):Jd (PD X (.DictComp kx vx [⟨tg,iter,ifs,0⟩] sc pos) (dDC di g tt tk tv own.length fr)):=
 ⟨D.af3 hc L hi.h (λ cl C s H ex pl=>(hg cl C s H ex pl).h) (λ cl C s H ex pl=>(ht cl C s H ex pl).h) (λ cl C s H ex pl=>(hk cl C s H ex pl).h) (λ cl C s H ex pl=>(hv cl C s H ex pl).h) hs⟩
namespace L2
theorem zE(hN:X.N.Nodup)(hi':X.N[i]? =some x)(hx:Loc X.env.scope x)(hc:X.calm=true)(L:mq X sc own fr)(hi:PI X tg iter wi)
  (hg:∀ cl C s H ex pl,PG (blk X sc (lcN X own fr) cl C s H ex pl) tg g)(ht:∀ cl C s H ex pl,PTs (blk X sc (lcN X own fr) cl C s H ex pl) ifs tt)(hk:∀ cl C s H ex pl,PE (blk X sc (lcN X own fr) cl C s H ex pl) kx tk)(hv:∀ cl C s H ex pl,PE (blk X sc (lcN X own fr) cl C s H ex pl) vx tv)
  (hsw:swapsWith (.DictComp kx vx [⟨tg,iter,ifs,0⟩] sc pos) (some (.Name x pos')) spos.line X.env=pure true:=by rfl)
  (hs:∀ x,foldedSetIterable iter X.env x=pure x:=by intro _;rfl)(hf:X.fn x=true\/X.env.scope.names.lookup x=some .local:=by first | exact .inl rfl | exact .inr rfl | assumption) :
  PS X (.Assign [.Name x pos'] (.DictComp kx vx [⟨tg,iter,ifs,0⟩] sc pos) spos) (agw (tDC wi g tt tk tv own.length fr) (aaT i)):=by
 intro pins s σ H D' I h;obtain⟨cl,hcl,c1,c2⟩:=fO L I.ok;rw[exec_Assign_Name_used _ _ _ _ hsw];refine wpAny_bind (wpAny_standAt (wpAny_bind ?_));show wpAny _ _ (evalThenUse (.DictComp kx vx [⟨tg,iter,ifs,0⟩] sc pos) X.env (assign (.Name x pos') X.env)) _ _ _;unfold evalThenUse;refine wpAny_bind ?_;refine wpAny_comprehension_free (use:=some (assign (.Name x pos') X.env)) (g:=⟨tg,iter,ifs,0⟩) (gs:=[]) rfl hs hcl L.kind L.names ?_;refine thn (hi pins s σ H _ I h) λ v s1 h1=>thn h1 λ itv s2 h2=>?_;obtain⟨it,fp,tn,J,H2,e,I2,T,st2,f2,q2⟩:=h2;subst e;obtain⟨W,w0,turn⟩:=q2 _ (I2.hok.fresh (Nat.le_refl s2.heap.objs.size));refine wpAny_newObj_type ?_;have I3:=I2.laid (a:=s2.heap.objs.size) (o:=.dK []) (h':=s2.heap.push {cls:=.type "dict",data:=.dict #[]}) (t':=s2.toks) (λ _ _ q=>Heap.get?_push_of_some _ q) (Nat.le_refl _) (nc s2.heap I2.big);have hfb:∀ b∈fp,b<s2.heap.objs.size:=λ b hb=>by obtain⟨o,e,_⟩:=T.obj 0 _ st2 b hb;exact Heap.lt_size e
 have f3:∀ b∈fp,iE X pins (upd H2 s2.heap.objs.size (.dK [])) b:=λ b hb=>by obtain⟨f0,fr⟩:=f2 b hb;exact⟨by rw[aj (Nat.ne_of_lt (hfb b hb))];exact f0,fr⟩
 have st3:tn 0 (s2.heap.push {cls:=.type "dict",data:=.dict #[]}):=T.keep 0 _ _ st2 λ b _ o e=>Heap.get?_push_of_some _ e;refine yT (cl:=cl) hc L c1 c2 (hg cl) (ht cl) (hk cl) (hv cl) I3 T st3 f3 w0 turn λ C s' H' m I' hC dC hns fin=>?_;have hC2:s2.heap.objs.size<=C:=Nat.le_trans (by rw[Heap.size_push];exact Nat.le_succ _) dC;obtain⟨_,z2,z0,_,z3,z4⟩:=I2.nU (H':=λ _=>none) hC2 rfl;have z1:X.s₀.heap.objs.size<=C:=Nat.le_trans I2.sz hC2;obtain⟨oC,hoC,nsC⟩:∃ o,s'.heap.get? C=some o/\∃ es ep,o.data=.dict es ep:=by obtain⟨o,es,ep,e1,e2,_⟩:=hns;exact⟨o,e1,es,ep,e2⟩
 have I4:Inv X (pins++[(C,oC)]) σ H' s':=I'.dN λ p hp=>by
  rcases List.mem_append.mp hp with z | z
  ·exact I'.pin p (List.mem_append_right _ z)
  ·have e:p=(C,oC):=by simpa using z
   subst e;obtain⟨es,ep,hd⟩:=nsC;exact⟨hoC,hC,z2,z0,λ v z=>by have z':oC.data=.cell v:=z;rw[hd] at z';cases z'⟩
 refine thn (qM (pos:=pos') hN hi' hx hf _ s' σ _ (.ref s2.heap.objs.size) (.ref s2.heap.objs.size) _ I4 rfl fin) λ _ s5 hq100=>?_;obtain⟨σ5,H5,I5,q5⟩:=hq100;have pC:=I5.pin (C,oC) (List.mem_append_right _ (List.mem_append_right _ (List.mem_singleton.mpr rfl)));obtain⟨o,es,ep,e1,e2,e3⟩:=hns;rw[hoC] at e1;cases e1;refine⟨m,⟨oC,es,ep,pC.1,e2,e3⟩,λ h' sb=>?_⟩;have I6:Inv X pins σ5 H5 {s5 with heap:=h'}:=(I5.hJ).turned (t':=s5.toks) (λ b o hb e=>sb.extBut b o hb e) pC.2.1 z2 (.inr z1) z3 z4;exact wpAny_pure (wpAny_pure ⟨σ5,H5,I6,q5⟩)
end L2
namespace D
open L2
theorem vm(hN:X.N.Nodup)(hi':X.N[i]? =some x)(hx:Loc X.env.scope x)(hc:X.calm=true)(L:mq X sc own fr)(hi:PId X tg iter di)
  (hg:∀ cl C s H ex pl,PGd (blk X sc (lcN X own fr) cl C s H ex pl) tg g)(ht:∀ cl C s H ex pl,yN (blk X sc (lcN X own fr) cl C s H ex pl) ifs tt)(hk:∀ cl C s H ex pl,PD (blk X sc (lcN X own fr) cl C s H ex pl) kx tk)(hv:∀ cl C s H ex pl,PD (blk X sc (lcN X own fr) cl C s H ex pl) vx tv)
  (hsw:swapsWith (.DictComp kx vx [⟨tg,iter,ifs,0⟩] sc pos) (some (.Name x pos')) spos.line X.env=pure true:=by rfl)
  (hs:∀ x,foldedSetIterable iter X.env x=pure x:=by intro _;rfl)(hf:X.fn x=true\/X.env.scope.names.lookup x=some .local:=by first | exact .inl rfl | exact .inr rfl | assumption) :
  PSd X (.Assign [.Name x pos'] (.DictComp kx vx [⟨tg,iter,ifs,0⟩] sc pos) spos) (cq (dDC di g tt tk tv own.length fr) (gN i)):=
 tH (zE hN hi' hx hc L hi hg ht hk hv hsw hs hf) λ D σ H h=>by obtain⟨τ,M,Dd,A,h,k1,_⟩:=h;exact abB ⟨τ,M,_,A,h,λ v H1 w M1 kp r m q=>k1 _ H1 _ M1 kp ((A.go kp m).set i r) q⟩
end D
open L2 D
theorem uT(hN:X.N.Nodup)(hi':X.N[i]? =some x)(hx:Loc X.env.scope x)(hc:X.calm=true)(L:mq X sc own fr)(hi:Jd (PId X tg iter di))
  (hg:∀ cl C s H ex pl,Jd (PGd (blk X sc (lcN X own fr) cl C s H ex pl) tg g))(ht:∀ cl C s H ex pl,Jd (yN (blk X sc (lcN X own fr) cl C s H ex pl) ifs tt))(hk:∀ cl C s H ex pl,Jd (PD (blk X sc (lcN X own fr) cl C s H ex pl) kx tk))(hv:∀ cl C s H ex pl,Jd (PD (blk X sc (lcN X own fr) cl C s H ex pl) vx tv))
  (hsw:swapsWith (.DictComp kx vx [⟨tg,iter,ifs,0⟩] sc pos) (some (.Name x pos')) spos.line X.env=pure true:=by rfl)
  (hs:∀ x,foldedSetIterable iter X.env x=pure x:=by intro _;rfl)(hf:X.fn x=true\/X.env.scope.names.lookup x=some .local:=by first | exact .inl rfl | exact .inr rfl | assumption) :
  Jd (PSd X (.Assign [.Name x pos'] (.DictComp kx vx [⟨tg,iter,ifs,0⟩] sc pos) spos) (cq (dDC di g tt tk tv own.length fr) (gN i))):=
 ⟨D.vm hN hi' hx hc L hi.h (λ cl C s H ex pl=>(hg cl C s H ex pl).h) (λ cl C s H ex pl=>(ht cl C s H ex pl).h) (λ cl C s H ex pl=>(hk cl C s H ex pl).h) (λ cl C s H ex pl=>(hv cl C s H ex pl).h) hsw hs hf⟩
namespace D
open L2
end D
open L2 D
namespace D
open L2
end D
open L2 D
namespace D
open L2
section
variable {X:Cx}{K:FG}
end
end D
namespace PySem
namespace Dp
theorem vM:typeLookup (.type "list") "keys" = pure none:=am_miss_of_fast (by decide +kernel)
theorem oM:entryFor table "dict.update.loop" = some Builtin.«dict.update.loop»:=entryFor_of_tree (by kernel_rfl)
theorem hG:plainId "dict.update.loop" = true:=by decide +kernel
section
variable {prog:Program}{w:World}{A:Around}{E:VP}{s:Shared}
set_option maxHeartbeats 1600000 in
theorem m9
  (hx:s.heap.get? a=some {cls:=.type "list",dict:=none,data:=.seq xs k,slots:=sl})(hA:A.handled=none)
  (h:∀ h' tk,(∀ b ob,s.heap.get? b=some ob->h'.get? b=some ob)->Q none {s with heap:=h',toks:=tk}) :
  wpAny (model prog w) A (getAttr? (.ref a) "keys") Q E s:=by
 obtain⟨hp,g,d,tk,os⟩:=s;have hT:∀ tk',(⟨hp,g,d,tk',os⟩:Shared).TypeIs (.ref a) "list":= λ _=>⟨_,hx,rfl⟩;have f1:=sub_AttributeError;have f3:=F.slot_list_getattribute.lookup;have f4:=F.slot_list_getattribute.bind (.ref a);have f5:=am_list_getattr_none;have hsz:("keys" : Str).length+100<=sizeLine:=by size_fits
 have hname:(["__module__", "__name__", "__qualname__", "__doc__", "__annotations__"]:List Str).contains "keys" = false:=by decide +kernel
 unfold getAttr? getAttrBy? getAttrBy
 repeat (any_goals (first | assumption | exact hT _ | ((with_reducible show wpAny _ _ (call (Value.builtin "list.__getattribute__") _ _) _ _ _);refine call_meets F.slot_list_getattribute (hT _) am_entry_list_getattribute (F.args_list_getattribute_2 _ _) (meets_getattribute_miss_list a xs k sl "keys" _ vM hname hsz) ⟨hx,hA,λ h' tk' e hx'=>?_⟩) | wp_step))
 obtain⟨t',u',he⟩:=hx'.there;show wpAny _ _ (getattributeRaised _ _ _ _ _ _ _) _ _ _;unfold getattributeRaised
 repeat (any_goals (first | assumption | wp_step))
 exact h _ _ hx'.keeps
variable {K:Type}[DecidableEq K]{knd:KeyKind prog w K}
theorem loop{I D l:Addr}{items:Array Value}{kvs:List (K×Value)}{R:Result->Shared->Prop}{h0:Heap}(hh:A.handled=none)(hDI:D≠I)(hDl:D≠l)(hlI:l≠I)(hsz:kvs.length<=sizeLine)(hlen:items.size=kvs.length)
  (ht:∀ i (hi:i<kvs.length),∃ a key k dct sl,items[i]? =some (.ref a)/\a≠D/\a≠I/\knd.is kvs[i].1 key=true/\h0.get? a=some {cls:=.type "tuple",dict:=dct,data:=.seq #[key,kvs[i].2] k,slots:=sl}) :
  ∀ (j i:Nat) (s:Shared),kvs.length-i=j->i<=kvs.length->s.heap.IsListIter I l i->s.heap.IsList l items->s.heap.DictOf knd D (merged [] (kvs.take i))->(∀ b o,b≠D->b≠I->h0.get? b=some o->s.heap.get? b=some o) ->
   (∀ h' tk,h'.DictOf knd D (merged [] kvs)->(∀ b o,b≠D->b≠I->h0.get? b=some o->h'.get? b=some o)->R (.ok (.ret .none)) {s with heap:=h',toks:=tk}) ->
   codeAny (model prog w) A (.builtin "dict.update.loop" ⟨[.ref D,.ref I,rawInt i,.none],[]⟩) R s:=by
 intro j
 induction j with
 | zero =>
  intro i s hj hi hit hl hd hk hR;have hin:i=kvs.length:=by omega
  subst hin;refine codeAny_builtin oM ?_;rw[Around.under_plainId hG _];show wpAny _ A.in1 (pyNext (.ref I) >>= _) _ _ s;refine wpAny_bind (wpAny_pyNext_list_end (by simpa using hh) hit hl (by simp[hlen]) λ h' he'=>?_);show wpAny _ A.in1 (Builtin.Dict.addKeywords D [] >>= _) _ _ _;refine wpAny_bind (wpAny_pure (wpAny_pure ?_));rw[List.take_length] at hd;refine hR h' s.toks ?_ λ b o b1 b2 e=>he' b o b2 (hk b o b1 b2 e);obtain⟨o,es,ep,ho,rest⟩:=hd;exact⟨o,es,ep,he' D o hDI ho,rest⟩
 | succ j ih =>
  intro i s hj hi hit hl hd hk hR;have hlt:i<kvs.length:=by omega
  obtain⟨a,key,k,dct,sl,e1,a1,a2,hkey,e2⟩:=ht i hlt;refine codeAny_builtin oM ?_;rw[Around.under_plainId hG _];show wpAny _ A.in1 (pyNext (.ref I) >>= _) _ _ s;refine wpAny_bind (wpAny_pyNext_list_item hit hl e1 λ h' hit' hs'=>?_);have e3:h'.get? a=some {cls:=.type "tuple",dict:=dct,data:=.seq #[key,kvs[i].2] k,slots:=sl}:=hs'.extBut a _ a2 (hk a _ a1 a2 e2);have hT:Shared.TypeIs {s with heap:=h'} (.ref a) "tuple":= ⟨_,e3,rfl⟩;have hd':h'.DictOf knd D (merged [] (kvs.take i)):=by obtain⟨o,es,ep,ho,rest⟩:=hd;exact⟨o,es,ep,hs'.extBut D o hDI ho,rest⟩
  have hl':h'.IsList l items:=hl.extBut hs'.extBut hlI;show wpAny _ A.in1 (holding [Value.ref a] _ >>= _) _ _ _;refine wpAny_bind (wpAny_holding ?_);refine wpAny_bind (m:=tryCatch (Builtin.Dict.pairItems (.ref a)) _) (wpAny_tryCatch ?_);unfold Builtin.Dict.pairItems;refine wpAny_bind (wpAny_typeOf hT ?_);rw[if_pos (by decide)];unfold seqItems?;obtain⟨hp,g,d,tk,os⟩:=s;generalize hDS:dictSet=DS
  repeat (any_goals (first | assumption | wp_step))
  subst hDS;have hl2:(merged [] (kvs.take i)).length<=sizeLine:=by have:=merged_length_le [] (kvs.take i);simp at this;omega
  refine wpAny_dictSet_pairs (hsz:=hl2) hkey hd' λ h2 hd2 hs2=>?_;refine wpAny_pure ⟨plainId_quiet hG _,ih (i+1) _ (by omega) hlt ?_ ?_ ?_ ?_ ?_⟩
  ·exact hit'.at λ o e=>hs2.extBut I o (Ne.symm hDI) e
  ·exact hl'.extBut hs2.extBut (Ne.symm hDl)
  ·rw[merged_take_succ [] kvs i kvs[i] (List.getElem?_eq_getElem hlt)];exact hd2
  ·exact λ b o b1 b2 e=>hs2.extBut b o b1 (hs'.extBut b o b2 (hk b o b1 b2 e))
  ·exact λ h' tk d k=>hR h' tk d k
set_option maxHeartbeats 1600000 in
theorem kl{l:Addr}{items:Array Value}{kk:Nat}{sl0:Array (Option Value)}{kvs:List (K×Value)}(hh:A.handled=none)(hsz:kvs.length<=sizeLine)(hlen:items.size=kvs.length)
  (hl:s.heap.get? l=some {cls:=.type "list",dict:=none,data:=.seq items kk,slots:=sl0})
  (ht:∀ i (hi:i<kvs.length),∃ a key k dct sl,items[i]? =some (.ref a)/\knd.is kvs[i].1 key=true/\s.heap.get? a=some {cls:=.type "tuple",dict:=dct,data:=.seq #[key,kvs[i].2] k,slots:=sl})
  (h:∀ h' tk,h'.DictOf knd s.heap.objs.size (merged [] kvs)->(∀ b o,s.heap.get? b=some o->h'.get? b=some o)->Q (.ref s.heap.objs.size) {s with heap:=h',toks:=tk}) :
  wpAny (model prog w) A (call (.type "dict") [.ref l]) Q E s:=by
 refine callType_codes (Q₁:=λ obj s₁=>obj=.ref s.heap.objs.size/\s₁={s with heap:=s.heap.push {cls:=.type "dict",data:=.dict #[]}}) F.kt_called_dict (F.kt_typeCall_dict_1 _) F.entry_dict_init (kt_code_dict_new _ ⟨rfl,rfl⟩) ?_;rintro obj s₁ ⟨rfl,rfl⟩;have hnew:(s.heap.push {cls:=.type "dict",data:=.dict #[]}).DictOf knd s.heap.objs.size []:=Heap.DictOf.new s.heap;have hl1:(s.heap.push {cls:=.type "dict",data:=.dict #[]}).get? l=some {cls:=.type "list",dict:=none,data:=.seq items kk,slots:=sl0}:=Heap.get?_push_of_some _ hl;have hT:Shared.TypeIs {s with heap:=s.heap.push {cls:=.type "dict",data:=.dict #[]}} (.ref l) "list":= ⟨_,hl1,rfl⟩;refine⟨hnew.typeIs,F.args_dict_init_2 _ _,?_⟩;unfold Builtin.«dict.__init__»;refine wpAny_bind ?_;unfold Builtin.Dict.selfAndRest;refine wpAny_bind (wpAny_notOrdered_dict hnew.typeIs ?_);show wpAny _ _ (pure (s.heap.objs.size,[Value.ref l])) _ _ _;refine wpAny_pure ?_;show wpAny _ _ (Builtin.Dict.updateFrom "dict.__init__" s.heap.objs.size (.ref l) [] .none) _ _ _;unfold Builtin.Dict.updateFrom;refine wpAny_bind (wpAny_typeOf hT ?_);rw[if_pos (by decide)];refine wpAny_bind (m9 hl1 (by simpa using hh) λ h2 tk2 k2=>?_);rw[if_pos (by rfl)];have hl2:h2.get? l=some {cls:=.type "list",dict:=none,data:=.seq items kk,slots:=sl0}:=k2 _ _ hl1;have il2:h2.IsList l items:=⟨_,hl2,rfl,kk,rfl⟩;refine wpAny_bind (wpAny_rule (wpAny_bind (wpAny_pyIter_list il2 ?_)));have z:s.heap.objs.size<h2.objs.size:=by obtain⟨o,_,_,ho,_⟩:=hnew;exact Heap.lt_size (k2 _ _ ho)
 have zl:l<s.heap.objs.size:=Heap.lt_size hl;have d2:h2.DictOf knd s.heap.objs.size []:=by obtain⟨o,es,ep,ho,rest⟩:=hnew;exact⟨o,es,ep,k2 _ _ ho,rest⟩
 refine wpAny_pure ⟨plainId_quiet hG _,loop (knd:=knd) (h0:=h2) (by simpa using hh) (Nat.ne_of_lt z) (Ne.symm (Nat.ne_of_lt zl)) (Nat.ne_of_lt (Nat.lt_trans zl z)) hsz hlen (λ i hi=>?_) kvs.length 0 _ (by omega) (Nat.zero_le _) ⟨_,Heap.get?_push_size _ rfl,rfl,rfl⟩ (il2.push _) ?_ (λ b o _ _ e=>Heap.get?_push_of_some _ e) λ h' tk dd keep=>?_⟩
 ·obtain⟨a,key,k,dct,sl,e1,hk,e2⟩:=ht i hi;have za:a<s.heap.objs.size:=Heap.lt_size e2;exact⟨a,key,k,dct,sl,e1,Nat.ne_of_lt za,Nat.ne_of_lt (Nat.lt_trans za z),hk,k2 _ _ (Heap.get?_push_of_some _ e2)⟩
 ·exact d2.push _
 ·refine⟨rfl,h h' tk dd λ b o e=>?_⟩;have zb:b<s.heap.objs.size:=Heap.lt_size e;exact keep b o (Nat.ne_of_lt zb) (Nat.ne_of_lt (Nat.lt_trans zb z)) (k2 _ _ (Heap.get?_push_of_some _ e))
end
end Dp
end PySem
namespace D
open L2
section
variable {X:Cx}{K:FG}
theorem pairs_at(I:Inv X pins σ H s):∀ {kvs:List (Key×V)} {vs:List V} {its:List Value},Paired (λ(v:V) (kv:Key×V)=>∃ a,v=.ref a/\SqT X.K H a [kV kv.1,kv.2]) vs kvs->Vals vs its ->
  ∃ ks:List (Key×Value),KV kvs ks/\its.length=ks.length/\∀ i (hi:i<ks.length),∃ a key k dct sl,its[i]? =some (.ref a)/\(aN X.prog X.w).is ks[i].1 key=true/\s.heap.get? a=some {cls:=.type "tuple",dict:=dct,data:=.seq #[key,ks[i].2] k,slots:=sl}
 | _,_,_,.nil,.nil=>⟨[],.nil,rfl,λ i hi=>by simp at hi⟩
 | _,_,_,.cons (b:=b) ⟨a,ea,hq⟩ t,.cons r1 r2=>by
  obtain⟨ks,h1,h2,h3⟩:=pairs_at I t r2;subst ea;cases r1;obtain⟨its,rv,⟨o,e1,e2,n,e3⟩,_⟩:=I.tuple hq;obtain⟨c,dct,dat,sl⟩:=o;simp only at e2 e3;subst e2 e3;cases rv with
  | @cons _ u1 _ _ q1 rv1 =>
  cases rv1 with
  | @cons _ u2 _ _ q2 rv2 =>
  cases rv2;refine⟨(b.1,u2)::ks,.cons ⟨rfl,q2⟩ h1,by simp[h2],λ i hi=>?_⟩;cases i with
  | zero=>exact⟨a,u1,n,dct,sl,rfl,uG q1,e1⟩
  | succ i =>
   have hi':i<ks.length:=by simpa using hi
   obtain⟨a',key,k',dct',sl',z1,z2,z3⟩:=h3 i hi';exact⟨a',key,k',dct',sl',by simpa using z1,z2,z3⟩
theorem yz:∀ {kvs:List (Key×V)} {ks:List (Key×Value)},KV kvs ks->ks.map (·.1)=kvs.map (·.1)
 | _,_,.nil=>rfl
 | _,_,.cons r t=>by rw[List.map_cons,List.map_cons,yz t,r.1]
theorem eS(hc:X.calm=true):dk X (.type "dict") (λ xs H Q=>∃ p vs,∃ kvs:List (Key×V),xs=[.ref p]/\SqL X.K H p vs/\Paired (λ(v:V) (kv:Key×V)=>∃ a,v=.ref a/\SqT X.K H a [kV kv.1,kv.2]) vs kvs/\(kvs.map (·.1)).Nodup/\∀ l,H l=none->Q (.ref l) (upd H l (.dK kvs))):=by
 intro pins s σ H xs us Q I r h;obtain⟨p,vs,kvs,rfl,hq,pr,nd,q⟩:=h;obtain⟨u,rfl,rx⟩:=vals1 r;cases rx;obtain⟨its,rv,⟨o,n,e0,e1,e2,e3⟩,hz⟩:=I.list hq;obtain⟨c,dct,dat,sl⟩:=o;simp only at e1 e2 e3;subst e1 e2 e3;obtain⟨ks,rel,hl,hk⟩:=pairs_at I pr rv;have hz2:ks.length<=sizeLine:=by rw[<- hl];have:=rv.length;omega
 have nd2:(ks.map (·.1)).Nodup:=by rw[yz rel];exact nd
 refine Dp.kl (knd:=aN X.prog X.w) (I.ok.hd hc) hz2 (by simpa using hl) e0 (λ i hi=>?_) λ h' tk dd keep=>?_
 ·obtain⟨a,key,k,dct,sl,z1,z2,z3⟩:=hk i hi;exact⟨a,key,k,dct,sl,by simpa using z1,z2,z3⟩
 ·rw[merged_nil_of_nodup ks nd2] at dd;exact⟨.ref _,_,I.laid (a:=s.heap.objs.size) (o:=.dK kvs) (t':=tk) keep (Nat.le_refl _) (qb (by rw[rel.length];exact hz2) (beq_eq_false_iff_ne.mpr (Ne.symm (Nat.ne_of_lt I.big))) rel dd),rfl,q _ (I.hok.fresh (Nat.le_refl _))⟩
def pairD(p:Key×PyData):PyData:=.tuple [qd p.1,p.2]
def gZ(ws:List W)(M:MH)(Q:QD):Prop:=∃ w,∃ kds:List (Key×PyData),ws=[w]/\xx M w (kds.map pairD)/\(kds.map (·.1)).Nodup/\∀ p,M p=none->Q (.m p) (bN M p (.dic (aR kds)))
theorem lR:∀ {kds:List (Key×PyData)} {ys:List V},aT K H (kds.map pairD) ys->∃ kvs:List (Key×V),Paired (λ(v:V) (kv:Key×V)=>∃ a,v=.ref a/\SqT K H a [kV kv.1,kv.2]) ys kvs/\Paired (λ(p:Key×W) (q:Key×V)=>p.1=q.1/\aB K H p.2 q.2) (aR kds) kvs
 | [],ys,h=>by
  have e:ys=[]:=by simpa [aT] using h
  subst e;exact⟨[],.nil,.nil⟩
 | kd::kds,ys,h=>by simp only[List.map_cons,pairD,aT,ay] at h;obtain⟨v,ys,rfl,⟨a,zs,ev,hq,v1,zs1,e1,rk,v2,zs2,e2,rx,e3⟩,rest⟩:=h;obtain⟨kvs,h1,h2⟩:=lR rest;have ek:=qE rk;subst e1 e2 e3 ek ev;exact⟨(kd.1,v2)::kvs,.cons ⟨a,rfl,hq⟩ h1,.cons ⟨rfl,rx⟩ h2⟩
theorem xu:∀ {kds:List (Key×PyData)} {kvs:List (Key×V)},Paired (λ(p:Key×W) (q:Key×V)=>p.1=q.1/\aB K H p.2 q.2) (aR kds) kvs->kvs.map (·.1)=kds.map (·.1)
 | [],_,.nil=>rfl
 | kd::kds,_,.cons r t=>by rw[List.map_cons,List.map_cons,xu t,<- r.1]
theorem gX:eB K (λ xs H Q=>∃ p vs,∃ kvs:List (Key×V),xs=[.ref p]/\SqL K H p vs/\Paired (λ(v:V) (kv:Key×V)=>∃ a,v=.ref a/\SqT K H a [kV kv.1,kv.2]) vs kvs/\(kvs.map (·.1)).Nodup/\∀ l,H l=none->Q (.ref l) (upd H l (.dK kvs))) gZ:=by intro vs H ws M Qd Q r m ⟨w,kds,e,g,nd,q⟩ k;subst e;obtain⟨v,e1,r1⟩:=cZ r;obtain⟨p,ys,ev,hs,ra⟩:=g.sound r1 m;subst ev;obtain⟨kvs,h1,h2⟩:=lR ra;refine⟨p,ys,kvs,e1,hs,h1,by rw[xu h2];exact nd,λ l hl=>?_⟩;have kp:Kp H (upd H l (.dK kvs)):=Kp.new hl;exact k _ _ (.m l) _ kp rfl (m.put (mo:=.dic (aR kds)) kp ⟨kvs,aq,Paired.iu h2 λ p q z=>⟨z.1,z.2.keep kp⟩⟩) (q l (m.free hl))
end
end D
namespace Stc
open L2 D Rc
theorem ahN(h:rs.Perm rs')(i:Int):room rs i=room rs' i:=by rw[eI,eI];exact tU (h.map _)
theorem aaI(a b:List Int)(i:Int):room (a++b) i=room a i+room b i:=by rw[eI,eI,eI,List.map_append,List.sum_append]
theorem nQ(m:Int)(rs:List Int)(i:Int):room (m::rs) i=roomOf i m+room rs i:=by rw[eI,eI,List.map_cons,List.sum_cons]
theorem rR(hk:0<=k):∀ {T:List Int},(∀ t∈T,0<t)->room (T.map λ m=>m-1) k+(T.length:Int)=room T (k+1)
 | [],_=>by simp[room]
 | m::T,h=>by
  have h1:=h m (by simp);have ih:=rR hk (T:=T) λ t ht=>h t (by simp[ht]);rw[List.map_cons,nQ,nQ,List.length_cons];have:roomOf k (m-1)+1=roomOf (k+1) m:=by unfold roomOf;repeat' split<;>omega
  omega
theorem sG:∀ {U:List Int},(∀ u∈U,u<=k)->room U k=room U (k+1)
 | [],_=>by simp[room]
 | m::U,h=>by
  have h1:=h m (by simp);have ih:=sG (k:=k) (U:=U) λ u hu=>h u (by simp[hu]);rw[nQ,nQ,ih];have:roomOf k m=roomOf (k+1) m:=by unfold roomOf;repeat' split<;>omega
  omega
theorem oQ:∀ {T:List Int},(∀ t∈T,k<t)->room (T.map λ m=>m-1) k=room T k
 | [],_=>by simp[room]
 | m::T,h=>by
  have h1:=h m (by simp);have ih:=oQ (k:=k) (T:=T) λ u hu=>h u (by simp[hu]);rw[List.map_cons,nQ,nQ,ih];have:roomOf k (m-1)=roomOf k m:=by unfold roomOf;repeat' split<;>omega
  omega
theorem acs:∀ (T:List Int),room T 1<=T.length
 | []=>by simp[room]
 | m::T=>by
  have ih:=acs T;rw[nQ,List.length_cons];have:roomOf 1 m<=1:=by unfold roomOf;split<;>omega
  omega
theorem lO:∀ {T:List Int} {t:Int},t∈T->t<=0->room T 1+1<=T.length
 | m::T,t,h,h0=>by
  rw[nQ,List.length_cons];rcases List.mem_cons.mp h with e | e
  ·subst e;have:=acs T;have:roomOf 1 t<=0:=by unfold roomOf;split<;>omega
   omega
  ·have ih:=lO e h0;have:roomOf 1 m<=1:=by unfold roomOf;split<;>omega
   omega
theorem ym:∀ {U:List Int},(∀ u∈U,u<=0)->room U 1<=0
 | [],_=>by simp[room]
 | m::U,h=>by
  have h1:=h m (by simp);have ih:=ym (U:=U) λ u hu=>h u (by simp[hu]);rw[nQ];have:roomOf 1 m<=0:=by unfold roomOf;split<;>omega
  omega
end Stc
namespace D
open L2
section
variable {X:Cx}{K:FG}
def ahv:V->V->V->Hp->(Hp->Prop)->Prop:=λ o i v H Q=>∃ a H',o=.ref a/\ahm H a i v H'/\Q H'
theorem set_dict(hu:X.A.units+1<cLine):aha X ahv:=by intro pins s σ H o i v ov iv u Q I ro ri rv h;obtain⟨a,H',rfl,g,q⟩:=h;obtain rfl:ov=Value.ref a:=ro;exact oE hu I g ri rv λ s4 I4=>⟨H',I4,q⟩
theorem vK:∀ {kvs:List (Key×W)} {l:List (Key×V)},Paired (λ(p:Key×W) (q:Key×V)=>p.1=q.1/\aB K H p.2 q.2) kvs l->l.length=kvs.length/\∀ (i:Nat) kv,l[i]? =some kv->∃ p,kvs[i]? =some p/\p.1=kv.1
 | _,_,.nil=>⟨rfl,λ i kv h=>by simp at h⟩
 | p::kvs,_,.cons r t=>by
  obtain⟨h1,h2⟩:=vK t;refine⟨by simp[h1],λ i kv h=>?_⟩;cases i with
  | zero=>simp at h;subst h;exact⟨p,rfl,r.1⟩
  | succ i=>simp at h;obtain⟨p',e,e'⟩:=h2 i kv h;exact⟨p',by simpa using e,e'⟩
def qJ(td:TD)(τ:DS)(M:MH)(R:List W->MH->Prop):Prop:=td τ M λ w M1=>∃ a kvs,w=.m a/\M1 a=some (.fdic kvs)/\R (kvs.map λ p=>kW p.1) M1
def afD(t:TS):TS:=λ D σ H=>∃ a l,H a=some (.dK l)/\∀ o,t
 {nx:=λ σ' H'=>H' a=some (.frz o (.frz o (.dK l)))/\D.nx σ' (upd H' a (.dK l)),rt:=λ v H'=>H' a=some (.frz o (.frz o (.dK l)))/\D.rt v (upd H' a (.dK l)),
  bk:=λ σ' H'=>H' a=some (.frz o (.frz o (.dK l)))/\D.bk σ' (upd H' a (.dK l)),ct:=λ σ' H'=>H' a=some (.frz o (.frz o (.dK l)))/\D.ct σ' (upd H' a (.dK l))} σ (upd H a (.frz o (.frz o (.dK l))))
theorem aa5{st:Stmt}{t:TS}(h:PS X st t):PS X st (afD t):=by
 intro pins s σ H D I ⟨a,l,ha,q⟩;obtain⟨o,I1⟩:=Inv.wc I ha;refine thn (h pins s σ _ _ I1 (q o)) λ f s1 hf=>?_;cases f with
 | next=>obtain⟨σ',H',I2,e,q2⟩:=hf;exact⟨σ',_,Inv.again I ha I2 e,q2⟩
 | brk=>obtain⟨σ',H',I2,e,q2⟩:=hf;exact⟨σ',_,Inv.again I ha I2 e,q2⟩
 | cont=>obtain⟨σ',H',I2,e,q2⟩:=hf;exact⟨σ',_,Inv.again I ha I2 e,q2⟩
 | ret u=>obtain⟨v,σ',H',I2,r,e,q2⟩:=hf;exact⟨v,σ',_,Inv.again I ha I2 e,r,q2⟩
def nR(t:TSd)(D:Ed)(τ:DS)(M:MH):Prop:=∃ a kvs,M a=some (.dic kvs)/\t
 {nx:=λ τ' M'=>M' a=some (.fdic kvs)/\D.nx τ' (bN M' a (.dic kvs)),rt:=λ w M'=>M' a=some (.fdic kvs)/\D.rt w (bN M' a (.dic kvs)),
  bk:=λ τ' M'=>M' a=some (.fdic kvs)/\D.bk τ' (bN M' a (.dic kvs)),ct:=λ τ' M'=>M' a=some (.fdic kvs)/\D.ct τ' (bN M' a (.dic kvs))} τ (bN M a (.fdic kvs))
theorem Abs.back(h:H a=some (.frz o (.frz o (.dK l))))(A:Abs K H σ τ M)(e:M a=some (.fdic kvs)):Abs K (upd H a (.dK l)) σ τ (bN M a (.dic kvs)):=
 ⟨A.len,λ i w q=>let ⟨v,q1,r⟩:=A.val i w q; ⟨v,q1,aB.back h r⟩,cf.back h A.mem e⟩
end
theorem jU(ho:Jd (PD X o td)):Jd (PId X tg o (qJ td)):=⟨have ho:=ho.h;abi (tq ho) λ σ H R hq101=>by
 obtain⟨τ,M,Rd,A,h,k⟩:=hq101;refine⟨τ,M,_,A,h,λ v H1 w M1 kp r m hq102=>?_⟩;obtain⟨a,kvs,ew,hm,q⟩:=hq102;subst ew;obtain⟨ob,l,e,pr⟩:=m _ _ hm;obtain⟨hlen,hget⟩:=vK pr;refine⟨a,ob,l,r,e,k _ H1 _ M1 kp m (λ H2 kp2 i=>?_) q⟩;have hlw:(kvs.map λ p=>kW p.1).length=l.length:=by rw[hlen];simp
 have e2:=kp2.frz a ob _ e;refine⟨λ hi=>⟨e2,by omega⟩,λ hi=>⟨e2,by omega⟩,λ x H' hi hq103=>?_⟩;obtain⟨eH,kv,hkv,ex⟩:=hq103;subst ex eH;obtain⟨p,e3,e4⟩:=hget i kv hkv;refine⟨Kp.refl _,λ M m=>m,kW p.1,by simp[e3],?_⟩;rw[e4];cases kv.1<;>simp[kW,qd,kV,aB,ay]⟩
theorem iH{st:Stmt}{t:TSd}(h:Jd (PSd X st t)):Jd (PSd X st (nR t)):=⟨have h:=h.h;tH (aa5 h) λ D σ H hq104=>by
 obtain⟨τ,M,Dd,A,⟨a,kvs,hm,q⟩,k1,k2,k3,k4⟩:=hq104;obtain⟨l,e,pr⟩:=A.mem _ _ hm;refine⟨a,l,e,λ o=>?_⟩;have kp:Kp H (upd H a (.frz o (.frz o (.dK l)))):=Kp.set e (λ _ z=>nomatch z) (λ _ _ z=>nomatch z);have m1:cf X.K (upd H a (.frz o (.frz o (.dK l)))) (bN M a (.fdic kvs)):=A.mem.put (mo:=.fdic kvs) kp ⟨o,l,aq,Paired.iu pr λ p q z=>⟨z.1,z.2.keep kp⟩⟩;have kpb:∀ H',Kp (upd H a (.frz o (.frz o (.dK l)))) H'->Kp H (upd H' a (.dK l)):=λ H' kp'=>⟨λ b xs z=>by
   have hb:b≠a:=λ y=>by rw[y,e] at z;cases z
   rw[aj hb];exact kp'.tup b xs (by rw[aj hb];exact z),λ b ob u z=>by
   have hb:b≠a:=λ y=>by rw[y,e] at z;cases z
   rw[aj hb];exact kp'.frz b ob u (by rw[aj hb];exact z)⟩
 refine⟨τ,_,_,A.go kp m1,q,?_,?_,?_,?_⟩
 ·rintro σ' H' τ' M' kp' A' ⟨h1,q1⟩;have e':=kp'.frz a o _ aq;exact⟨e',k1 _ _ _ _ (kpb H' kp') (Abs.back e' A' h1) q1⟩
 ·rintro v H' w M' kp' r' m' ⟨h1,q1⟩;have e':=kp'.frz a o _ aq;exact⟨e',k2 _ _ _ _ (kpb H' kp') (aB.back e' r') (cf.back e' m' h1) q1⟩
 ·rintro σ' H' τ' M' kp' A' ⟨h1,q1⟩;have e':=kp'.frz a o _ aq;exact⟨e',k3 _ _ _ _ (kpb H' kp') (Abs.back e' A' h1) q1⟩
 ·rintro σ' H' τ' M' kp' A' ⟨h1,q1⟩;have e':=kp'.frz a o _ aq;exact⟨e',k4 _ _ _ _ (kpb H' kp') (Abs.back e' A' h1) q1⟩⟩
end D
namespace S
open PySem PySem.W PyProof.Rows
def PR(N:Nat)(p:Array Nat):Prop:=p.Perm (List.toArray (List.range N))
theorem PR.low(hN:1<=N)(h:PR N p):Low N p:=.of hN λ x hx=>by
 have:=(Array.perm_iff_toList_perm.mp h).mem_iff.mp hx
 simpa using this
theorem PR.rev(h:PR N p):PR N (kas_rev p i j):=(mirror_perm _ _ _ _:(kas_rev p i j).Perm p).trans h
theorem vP(lt:Nat->Nat->Bool):∀ {t:KasT α},jj N R t->R (go lt t)
 | .ret _,h=>h
 | .ask i j k,h=>vP lt (t:=k (lt i j)) (h.2.2 (lt i j))
theorem mX(hN:1<=N):∀ (f:Nat) {p:Array Nat} (n q:Nat),PR N p->jj N (λ r=>PR N r.1) (kas_desc f p n q)
 | 0,p,n,q,h=>h
 | f+1,p,n,q,h=>⟨h.low hN _,h.low hN _,λ b=>by
  cases b with
  | true =>
   simp only[if_true]
   split
   ·exact mX hN f (n+1) 0 h.rev
   ·exact mX hN f (n+1) 0 h
  | false =>
   simp only[Bool.false_eq_true,if_false];refine⟨h.low hN _,h.low hN _,λ b=>?_⟩;cases b with
   | true=>exact h
   | false=>exact mX hN f (n+1) (q+1) h⟩
theorem rT(hN:1<=N)(h:PR N p):jj N (λ(r:Nat×Array Nat)=>PR N r.2) (kas_tail3 n m p):=by
 unfold kas_tail3;refine jj.bind (λ k _=>?_) (iq (h.rev.low hN) _ _);exact(h.rev:PR N (kas_rev p 0 n))
theorem kg(hN:1<=N)(h:PR N p):jj N (λ r=>PR N r.2) (kas_descPart n m p):=(mX hN _ _ _ h).bind λ r hr=>by
 split
 ·exact rT hN hr.rev
 ·exact rT hN hr
theorem z8(hN:1<=N)(h:PR N p):jj N (λ r=>PR N r.2) (kas_count m p):=(iq (h.low hN) _ _).bind λ n _=>by
 split
 ·exact h
 ·split
  ·refine⟨h.low hN _,h.low hN _,λ b=>?_⟩;cases b with
   | true=>exact h
   | false=>exact kg hN h.rev
  ·exact kg hN h
theorem abr(hN:1<=N):∀ (f:Nat) {p:Array Nat} (k:Nat),PR N p->jj N (PR N) (kas_bin f p k)
 | 0,_,_,h=>h
 | f+1,p,k,h=>(fW (h.low hN) _ _ _).bind λ l _=>abr hN f (k+1) ((bubble_perm _ _ _:(bubble p k (k-l)).Perm p).trans h)
theorem adL(hN:1<=N):jj N (PR N) (kas_sort N):=(z8 hN (Array.Perm.refl _)).bind λ r hr=>by
 split
 ·exact abr hN _ _ hr
 ·exact hr
theorem jo(lt:Nat->Nat->Bool)(n:Nat):(bP lt n).Perm (List.range n):=by
 unfold bP
 by_cases z:n<2
 ·rw[if_pos z]
 ·rw[if_neg z];have:=Array.perm_iff_toList_perm.mp (show PR n (go lt (kas_sort n)) from vP lt (adL (N:=n) (by omega)))
  simpa using this
end S
namespace D
open L2 S
section
variable {X:Cx}{K:FG}
end
def ag6(M:MH):Nat->W->PyData->Prop
 | 0,w,d=>w=.d d
 | n+1,w,d=>w=.d d\/(∃ a ws ds,w=.m a/\M a=some (.lst ws)/\d=.list ds/\Paired (ag6 M n) ws ds)\/∃ a ws ds,w=.m a/\M a=some (.tup ws)/\d=.tuple ds/\Paired (ag6 M n) ws ds
theorem ag6.d:∀ {n:Nat},ag6 M n (.d x) x
 | 0=>rfl
 | _+1=>.inl rfl
section
variable {X:Cx}{K:FG}
def ae8(t:TAd)(τ:DS)(M:MH)(Q:QD):Prop:=t τ M λ ws M1=>ws.length<=sizeLine/\∀ p,M1 p=none->Q (.m p) (bN M1 p (.tup ws))
end
section
variable {K:FG}{H:Hp}{a:Addr}{o:Obj}{l:List V}
end
theorem aav{x1}(h:Jd (PAd X es t)):Jd (PD X (.Tuple es x1 pos) (ae8 t)):=⟨have h:=h.h;fN (yr h) λ σ H Q h=>by obtain⟨τ,M,Qd,A,h,k⟩:=h;refine⟨τ,M,_,A,h,λ vs H1 ws M1 kp r1 m1 hq105=>?_⟩;obtain⟨hz,q1⟩:=hq105;refine⟨by rw[<- r1.length];exact hz,λ p hp=>?_⟩;have kp2:Kp H1 (upd H1 p (.tup vs)):=Kp.new hp;exact k _ _ (.m p) _ (kp.trans kp2) rfl (m1.put (mo:=.tup ws) kp2 ⟨vs,aq,bF.keep kp2 r1⟩) (q1 p (m1.free hp))⟩
theorem aih(h:us.length=0):us=[]:=by exact List.eq_nil_of_length_eq_zero h
theorem aau(h:us.length=1):∃ a1:Value,us=[a1]:=by
 cases us with
 | nil=>simp at h
 | cons a r =>
  have e:r=[]:=aih (by simpa using h);subst e;exact⟨a,rfl⟩
theorem afQ(h:us.length=2):∃ a1 a2:Value,us=[a1,a2]:=by
 cases us with
 | nil=>simp at h
 | cons a r =>
  obtain⟨b1,e⟩:=aau (us:=r) (by simpa using h);subst e;exact⟨a,b1,rfl⟩
theorem afa(h:us.length=3):∃ a1 a2 a3:Value,us=[a1,a2,a3]:=by
 cases us with
 | nil=>simp at h
 | cons a r =>
  obtain⟨b1,b2,e⟩:=afQ (us:=r) (by simpa using h);subst e;exact⟨a,b1,b2,rfl⟩
theorem aio(h:us.length=4):∃ a1 a2 a3 a4:Value,us=[a1,a2,a3,a4]:=by
 cases us with
 | nil=>simp at h
 | cons a r =>
  obtain⟨b1,b2,b3,e⟩:=afa (us:=r) (by simpa using h);subst e;exact⟨a,b1,b2,b3,rfl⟩
section
variable {X:Cx}{K:FG}
end
section
variable {X:Cx}{K:FG}
end
section
variable {X:Cx}{K:FG}
end
section
variable {K:FG}
variable {X:Cx}{sc:Scope}{own:List Str}{fr:List Nat}{di:TId}{g:TGd}{tt:TTd}{te:TD}{tg iter elt:Expr}{ifs:List Expr}{pos:Pos}
end
section
variable {X:Cx}{tg iter elt:Expr}{pos:Pos}{sc:Scope}{own:List Str}{fr:List Nat}{di:TId}{g:TGd}{tt:TTd}{te:TD}{ifs:List Expr}
end
end D
namespace XO
open PySem.W Builtin.ObjectAttr
def lp:List Value:=[.type "ValueError",.type "Exception",.type "BaseException",.type "object"]
def dh:List Value->Bool
 | .ref _::r=>dh r
 | l=>l==lp
theorem nH{l:List Value}(h:dh l=true):l.isEmpty=false:=by
 cases l with
 | nil=>exact absurd h (by decide)
 | cons _ _=>rfl
theorem l5{l:List Value}(h:dh l=true):(∃ a r,l=.ref a::r/\dh r=true)\/l=lp:=by
 cases l with
 | nil=>exact absurd h (by decide)
 | cons v r =>
  cases v<;>first | exact .inl ⟨_,_,rfl,h⟩ | exact .inr (eq_of_beq (by simpa only[dh] using h))
theorem nz(T:String)(hT:lp.contains (.type T)=true):∀ {l:List Value},dh l=true->l.contains (.type T)=true:=by
 intro l
 induction l with
 | nil=>intro h;exact absurd h (by decide)
 | cons v r ih =>
  intro h;rcases l5 h with ⟨a,r',e,q⟩ | e
  ·cases e;rw[List.contains_cons,ih q,Bool.or_true]
  ·rw[e];exact hT
theorem qR(self:Value):∀ {l:List Value},dh l=true->refuseLoop self "__setattr__" l=pure ():=by
 intro l
 induction l with
 | nil=>intro h;exact absurd h (by decide)
 | cons v r ih =>
  intro h;rcases l5 h with ⟨a,r',e,q⟩ | e
  ·cases e;rw[refuseLoop_ref];exact ih q
  ·rw[e];exact PySem.F.store_ValueError.passes self
def abH(K:Frag)(C:Addr):Bool:=(clsIn K C).any λ cd=>cd.hasDict&&dh cd.mro
theorem d0{K:Frag}{C:Addr}(h:abH K C=true):∃ cd,clsIn K C=some cd/\cd.hasDict=true/\dh cd.mro=true:=by obtain⟨cd,e,q⟩:=any_some h;simp only[Bool.and_eq_true] at q;exact⟨cd,e,q.1,q.2⟩
section
variable {prog:Program}{w:World}{A:Around}{E:VP}{s:Shared}{K:Frag}{x C:Addr}{name:Str}{v:Value}
theorem aiV{M:Model}{h:Heap}{ox:Obj}{od:Option Obj}(X:K.In h)(c:abH K C=true)(I:W.InstAt h x ox C od){T:String}(hT:lp.contains (.type T)=true):Looks M h (isInstance (.ref x) (.type T)) true:=by obtain⟨cd,hc,_,hm⟩:=d0 c;refine I.type.andThen (looks_mroIn X ?_);unfold mroIn;rw[hc,Option.bind_some,if_neg (by rw[nH hm];decide),nz T hT hm]
theorem aiU{R:Result->Shared->Prop}{ox:Obj}{od:Option Obj}{tk:Tok}(X:K.In s.heap)(I:W.InstAt s.heap x ox C od)(c:abH K C=true)(na:findIn K (.ref C) name=some none)
  (h:∀ b,wpAny (model prog w) A.in1 (storeInOwnDict (.ref x) (.ref C) (.str name tk) name v b)
   (λ fin s'=>match fin with | .done f=>R (.ok f) s' | .again c'=>c'.quiet=true/\codeAny (model prog w) A c' R s') (λ e s'=>R (.error e) s') s) :
  codeAny (model prog w) A (.call (.builtin "object.__setattr__") ⟨[.ref x,.str name tk,v],[]⟩) R s:=by
 obtain⟨cd,hc,_,hm⟩:=d0 c;have S:=PySem.F.store_object;refine codeAny_call_builtin S.slot.plain S.entry (@check_slot (model prog w) _ _ s "object.__setattr__" "object" "__setattr__" (.ref x) [.str name tk,v] [] _ S.kind S.split (aiV X c I (by decide)) (S.args (.ref x) (.str name tk) v) ?_);rw[osa_eq,refuse_eq];have hm':Looks (model prog w) s.heap (mroOf (.ref C)) cd.mro:=(looks_clsIn X hc).andThen .now;refine wpAny_bind (wpAny_bind (I.type.here (wpAny_bind (hm'.here ?_))));rw[qR _ hm];refine wpAny_pure ?_;exact wpAny_bind (I.type.here (wpAny_bind ((looks_findIn X na).here (wpAny_bind (wpAny_pure (h _))))))
theorem ahR{Q:Unit->Shared->Prop}{vs:Array Value}{sl:Array (Option Value)}(X:K.In s.heap)(c:abH K C=true)(sa:findIn K (.ref C) "__setattr__" = some (some (.builtin "object.__setattr__")))
  (na:findIn K (.ref C) name=some none)(hx:s.heap.get? x=some ⟨.ref C,none,.fields vs,sl⟩)
  (h:∀ h' tk dx,s.heap.objs.size<=dx->dx≠x->h'.get? x=some ⟨.ref C,some dx,.fields vs,sl⟩->h'.Ns1 dx (λ y=>if y=name then some v else none)->(∀ b o,b≠x->s.heap.get? b=some o->h'.get? b=some o)->Q () {s with heap:=h',toks:=tk}) :
  wpAny (model prog w) A (setAttr (.ref x) name v) Q E s:=by
 have I:W.InstAt s.heap x ⟨.ref C,none,.fields vs,sl⟩ C none:=⟨hx,rfl,rfl,True.intro⟩;refine set_plain X I sa (aiU (s:={s with toks:=s.toks+1}) X I c na λ b=>?_);obtain⟨cd,hc,hd,_⟩:=d0 c;refine wpAny_bind (wpAny_pure (wpAny_bind (wpAny_bind (wpAny_loadPart hx (wpAny_bind (W.Looks.here (s:={s with toks:=s.toks+1}) (looks_clsIn X hc) ?_))))));rw[hd];have lx:x<s.heap.objs.size:=Heap.lt_size hx;have ne:s.heap.objs.size≠x:=Nat.ne_of_gt lx;refine wpAny_bind (wpAny_alloc' (wpAny_bind (wpAny_update' (Heap.get?_push_of_some _ hx) (wpAny_pure ?_))));have e1:((s.heap.push {cls:=.type "dict",data:=.dict #[]}).update x λ o=>{o with dict:=some s.heap.objs.size}).get? s.heap.objs.size=some {cls:=.type "dict",data:=.dict #[]}:=
  (Heap.get?_update_ne _ _ _ _ ne).trans (Heap.get?_push_at rfl rfl)
 have e2:((s.heap.push {cls:=.type "dict",data:=.dict #[]}).update x λ o=>{o with dict:=some s.heap.objs.size}).get? x=some ⟨.ref C,some s.heap.objs.size,.fields vs,sl⟩:=
  Heap.get?_update_self _ (Heap.get?_push_of_some _ hx) rfl
 have e3:((s.heap.push {cls:=.type "dict",data:=.dict #[]}).update x λ o=>{o with dict:=some s.heap.objs.size}).Ns s.heap.objs.size (λ _=>none):=⟨_,#[],_,e1,rfl,λ _ z=>absurd z (by simp),λ _=>rfl⟩;refine wpAny_bind (wpAny_pure (wpAny_bind (wpAny_nsSet1 (Heap.Ns1.of_empty e3) λ h2 n2 sb=>?_)));obtain⟨oD,esD,epD,g1,g2,g3⟩:=n2.count (PySem.Within.cons name v PySem.Within.nil);refine wpAny_bind (wpAny_lookBehind g1 (by rw[g2];exact pastItsLine_dict (Nat.le_trans g3 (by rw[List.length_cons,List.length_nil,sizeLine_eq];omega))) (wpAny_pure ?_));exact h h2 _ _ (Nat.le_refl _) ne ((sb.2 x (Ne.symm ne)).trans e2) n2 λ b o hb z=>(sb.2 b (Nat.ne_of_lt (Heap.lt_size z))).trans ((Heap.get?_update_ne _ _ _ _ hb).trans (Heap.get?_push_of_some _ z))
theorem ais{Q:Unit->Shared->Prop}{vs:Array Value}{sl:Array (Option Value)}{dx:Addr}{mA:Str->Option Value}{ns:List Str}(X:K.In s.heap)(c:abH K C=true)(sa:findIn K (.ref C) "__setattr__" = some (some (.builtin "object.__setattr__")))
  (na:findIn K (.ref C) name=some none)(hx:s.heap.get? x=some ⟨.ref C,some dx,.fields vs,sl⟩)(hd:s.heap.Ns1 dx mA)(hw:PySem.Within mA ns)(hz:ns.length<=1000)
  (h:∀ h' tk,h'.Ns1 dx (λ y=>if y=name then some v else mA y)->(∀ b o,b≠dx->s.heap.get? b=some o->h'.get? b=some o)->Q () {s with heap:=h',toks:=tk}) :
  wpAny (model prog w) A (setAttr (.ref x) name v) Q E s:=by
 obtain⟨od,es,ep,hod,r⟩:=id hd;have I:W.InstAt s.heap x ⟨.ref C,some dx,.fields vs,sl⟩ C (some od):=⟨hx,rfl,rfl,hod⟩;refine set_plain X I sa (aiU (s:={s with toks:=s.toks+1}) X I c na λ b=>?_);obtain⟨cd,hc,hcd,_⟩:=d0 c;refine wpAny_bind (wpAny_pure (wpAny_bind (wpAny_bind (wpAny_loadPart hx (wpAny_bind (W.Looks.here (s:={s with toks:=s.toks+1}) (looks_clsIn X hc) ?_))))));rw[hcd];refine wpAny_pure (a:=some dx) (wpAny_bind (wpAny_pure (wpAny_bind (wpAny_nsSet1 (s:={s with toks:=s.toks+1}) hd λ h2 n2 sb=>?_))));obtain⟨oD,esD,epD,g1,g2,g3⟩:=n2.count (PySem.Within.cons name v hw);refine wpAny_bind (wpAny_lookBehind g1 (by rw[g2];exact pastItsLine_dict (Nat.le_trans g3 (by rw[List.length_cons,sizeLine_eq];omega))) (wpAny_pure ?_));exact h h2 _ n2 λ b o hb z=>(sb.2 b hb).trans z
end
section
variable {prog:Program}{w:World}{A:Around}{E:VP}{s:Shared}{K:Frag}{x C:Addr}{name:Str}{v:Value}{ox:Obj}{od:Option Obj}
theorem aei:builtinKind "BaseException.__getattribute__" = some .slot:=by decide +kernel
theorem zL:splitId "BaseException.__getattribute__" = some ("BaseException", "__getattribute__"):=by decide +kernel
structure XC(K:Frag)(C:Addr):Prop where
 x:abH K C=true
 sa:findIn K (.ref C) "__setattr__" = some (some (.builtin "object.__setattr__"))
 ga:findIn K (.ref C) "__getattribute__" = some (some (.builtin "BaseException.__getattribute__"))
 gt:findIn K (.ref C) "__getattr__" = some none
 cl:findIn K (.ref C) "__class__" = some (some (.builtin "object.__class__"))
 cg:specialIn K (.builtin "object.__class__") "__get__" = some (some (.builtin "getset_descriptor.__get__"))
 ct:takesIn K (.builtin "object.__class__")=some true
theorem xby{fill expr:Bool}{tk:Tok}{Q:VP}(X:K.In s.heap)(c:XC K C)(I:W.InstAt s.heap x ox C od)
  (h:wpAny (model prog w) A.in1 (Builtin.«object.__getattribute__» ⟨[.ref x,.str name tk],[]⟩)
   (λ fin s'=>match fin with | .done (.ret v)=>wpAny (model prog w) A (handedOut v) Q E s' | _=>False) (λ _ _=>False) s) :
  wpAny (model prog w) A (getAttrBy (.ref x) (.str name tk) fill expr) Q E s:=by
 unfold getAttrBy;refine wpAny_holding (wpAny_bind (I.type.here (wpAny_bind ((looks_findIn X c.ga).here ?_))));have e1:(onTheHeap (Value.ref C)&&(Value.builtin "BaseException.__getattribute__" == Value.builtin "object.__getattribute__"))=false:=by rw[show(Value.builtin "BaseException.__getattribute__" == Value.builtin "object.__getattribute__")=false from by decide,Bool.and_false]
 dsimp only;rw[if_neg (by rw[e1];decide)];unfold getAttrByItsOwn hookBefore;refine wpAny_bind ?_;rw[if_pos (show onTheHeap (Value.ref C)=true from rfl)];refine(looks_findIn X c.gt).here ?_;refine wpAny_bind (wpAny_attempt (wpAny_holding ?_));unfold callGetattribute;rw[if_neg (by rw[show onTheHeap (Value.builtin "BaseException.__getattribute__")=false from rfl,Bool.and_false];decide)];unfold boundAndCalled;rw[PySem.F.excAttr_ValueError.ga.bind];refine wpAny_bind (wpAny_pure ?_);refine wpAny_call (codeAny_call_builtin PySem.F.excAttr_ValueError.ga.plain PySem.F.entry_bexc_ga (@check_slot (model prog w) _ _ s _ "BaseException" "__getattribute__" (.ref x) [.str name tk] [] _ aei zL (aiV X c.x I (by decide)) (PySem.F.args_bexc_ga _ _) ?_));refine wpAny_mono h (λ fin s' z=>?_) λ _ _ z=>z.elim;rcases fin with (_ | _ | _ | _) | _<;>first | exact z | exact z.elim
theorem ajk{expr:Bool}{Q:VP}(X:K.In s.heap)(c:XC K C)(I:W.InstAt s.heap x ox C od)(hf:findObj K C od name=some (.value v))(hh:handedIn v=true)(h:Q v {s with toks:=s.toks+1}) :
  wpAny (model prog w) A (getAttr (.ref x) name expr) Q E s:=by
 unfold getAttr;refine wpAny_bind (wpAny_mkText (xby (s:={s with toks:=s.toks+1}) X c I ?_));refine wpAny_bind (wpAny_pure (wpAny_bind (wpAny_pure (wpAny_bind (W.Looks.here (s:={s with toks:=s.toks+1}) I.type (wpAny_bind (W.Looks.here (s:={s with toks:=s.toks+1}) (looks_find X I hf) ?_)))))));refine wpAny_pure ?_;show wpAny _ _ (handedOut v) _ _ _;rw[handedOut_of hh];exact wpAny_pure h
theorem XC.mro(c:XC K C):mroIn K C (.type "object")=some true:=by obtain⟨cd,hc,_,hm⟩:=d0 c.x;unfold mroIn;rw[hc,Option.bind_some,if_neg (by rw[nH hm];decide),nz "object" (by decide) hm]
theorem XC.at(c:XC K C):∃ cd o dd sl,K.lookup C=some ⟨o,dd,.cls cd,sl⟩:=by
 obtain⟨cd,hc,_,_⟩:=d0 c.x;unfold clsIn at hc
 split at hc
 ·rename_i ho;exact⟨_,_,_,_,ho⟩
 ·cases hc
theorem XC.look{M:Model}{h:Heap}(c:XC K C)(X:K.In h):Looks M h (isType (.ref C)) true:=by obtain⟨cd,o,dd,sl,ho⟩:=c.at;refine λ A' Q' E' s' k q=>?_;unfold isType loadHead;exact wpAny_bind (wpAny_loadPart (k _ _ (X _ _ ho)) (wpAny_pure q))
theorem afy{Q:Option Value->Shared->Prop}(X:K.In s.heap)(c:XC K C)(I:W.InstAt s.heap x ox C od)(h:Q (some (.ref C)) {s with toks:=s.toks+1}):wpAny (model prog w) A (getAttr? (.ref x) "__class__") Q E s:=by
 obtain⟨cd,hc,_,hm⟩:=d0 c.x;have hf:findObj K C od "__class__" = some (.bind (.builtin "getset_descriptor.__get__") (.builtin "object.__class__")):=by
  unfold findObj;rw[hc,Option.bind_some,c.cl,Option.bind_some];simp[c.cg,c.ct]
 unfold getAttr? getAttrBy?;refine wpAny_bind (wpAny_mkText (wpAny_bind (wpAny_attempt (xby (s:={s with toks:=s.toks+1}) X c I ?_))));refine wpAny_bind (wpAny_pure (wpAny_bind (wpAny_pure (wpAny_bind (W.Looks.here (s:={s with toks:=s.toks+1}) I.type (wpAny_bind (W.Looks.here (s:={s with toks:=s.toks+1}) (looks_find X I hf) ?_)))))));show wpAny _ _ (holding [Value.builtin "object.__class__"] (call (.builtin "getset_descriptor.__get__") [.builtin "object.__class__",.ref x,.ref C]) >>= ret) _ _ _;refine wpAny_bind (wpAny_holding (wpAny_call (class_get (s:={s with toks:=s.toks+1}) X I c.mro ?_)));exact wpAny_pure (handed_on rfl (wpAny_pure h))
theorem abc(c:XC K C):KitX K (.ref x) (.ref C) (λ h=>W.InstAt h x ox C od) where
 ty:=λ _ _ _ I=>I.type
 it:=λ _ _ X _=>c.look X
 ne:=λ h tp dd its n sl X htp=>by obtain⟨cd,o,d',s',e⟩:=c.at;refine Bool.eq_false_iff.mpr λ q=>?_;cases Value.ref.inj (beq_iff_eq.mp q);have z:=(X _ _ e).symm.trans htp;cases z
 ca:=λ X I k=>afy X c I k
end
def xmk(K:Frag)(C:Addr):Bool:=match K.lookup C with
 | some ⟨.type "type",_,.cls cd,sl⟩=>(match cd.mro,sl.toList with
  | .ref D::bm,[_,_,_,_,some (.builtin n),_]=>D==C&&n == "ValueError.__new__" && !cd.hasDel&&tailIn K lp bm
  | _,_=>false)
 | _=>false
theorem abm{K:Frag}{C:Addr}{h:Heap}(X:K.In h)(e:xmk K C=true):∃ nm q N bs bm hdct sn sub ab col dd k0 k1 k2 k3 k5,
  h.get? C=some (excClassObj nm q C N bs bm hdct sn sub ab col dd k0 k1 k2 k3 k5 "ValueError.__new__")/\OwnTail h lp bm:=by
 unfold xmk at e
 split at e
 ·rename_i dd cd sl ho
  split at e
  ·rename_i D bm a0 a1 a2 a3 n a5 hm hs
   simp only[Bool.and_eq_true,beq_iff_eq,Bool.not_eq_true'] at e;obtain⟨⟨⟨h1,h2⟩,h3⟩,h4⟩:=e;subst h1 h2;obtain⟨c1,c2,c3,c4,c5,c6,c7,c8,c9,c10,c11⟩:=cd;dsimp only at hm h3;subst hm h3;obtain⟨l⟩:=sl;simp only at hs;subst hs;exact⟨_,_,_,_,_,_,_,_,_,_,_,_,_,_,_,_,X _ _ ho,tail_of_in X h4⟩
  ·cases e
 ·cases e
abbrev vA(C t:Addr):Obj:={cls:=.ref C,data:=.fields #[.ref t,.none,.none,.none,.bool false,.none]}
section
variable {prog:Program}{w:World}{A:Around}{E:VP}{K:Frag}{C f:Addr}{h:Heap}{g:Array GenState}{d:Drawn}{t:Nat}{os:OsState}
theorem ahO{us:List Value}{Q:PySem.Fin->Shared->Prop}(X:K.In h)(c:XC K C)(q:xmk K C=true)(hi:findIn K (.ref C) "__init__" = some (some (.ref f)))(hf:typeIn K (.ref f)=some (.type "function"))(hz:us.length<=sizeLine)
  (k:wpAny (model prog w) A (call (.ref f) (.ref (h.objs.size+1)::us)) (λ r s'=>r=.none/\Q (.done (.ret (.ref (h.objs.size+1)))) s') E
   ⟨(h.push {cls:=.type "tuple",data:=.seq us.toArray}).push (vA C h.objs.size),g,d,t,os⟩) :
  wpAny (model prog w) A (Builtin.«type.__call__» ⟨.ref C::us,[]⟩) Q E ⟨h,g,d,t,os⟩:=by
 obtain⟨nm,q',N,bs,bm,hdct,sn,sub,ab,col,dd,k0,k1,k2,k3,k5,hC,T⟩:=abm X q;have B:=PySem.F.excBase_ValueError
 repeat (first | with_reducible refine wpAny_loadPart_at hC ?_ | with_reducible refine wpAny_madeBy_exc hC ?_ | wp_step)
 refine codeAny_call_builtin_code (Code.quiet_builtin _ B.quiet) (wpAny_check_new_subT B T hC (codeAny_exc_new_subT B T hC ?_ hz));show wpAny _ _ _ _ _ _;have kp:∀ b o,h.get? b=some o->((h.push {cls:=.type "tuple",data:=.seq us.toArray}).push (vA C h.objs.size)).get? b=some o:=λ b o z=>Heap.get?_push_of_some _ (Heap.get?_push_of_some _ z);have X1:=X.keeps kp;have eg:((h.push {cls:=.type "tuple",data:=.seq us.toArray}).push (vA C h.objs.size)).get? (h.objs.size+1)=some (vA C h.objs.size):=by heap_get
 have I:W.InstAt ((h.push {cls:=.type "tuple",data:=.seq us.toArray}).push (vA C h.objs.size)) (h.objs.size+1) (vA C h.objs.size) C none:=⟨eg,rfl,rfl,True.intro⟩;obtain⟨cd,hc,_,hm⟩:=d0 c.x;have hsub:Looks (model prog w) ((h.push {cls:=.type "tuple",data:=.seq us.toArray}).push (vA C h.objs.size)) (isInstance (.ref (h.objs.size+1)) (.ref C)) true:=by refine I.type.andThen (λ A' Q' E' s' k' z=>?_);exact wpAny_isSubtype_exc (h:=s'.heap) (g:=s'.gens) (d:=s'.drawn) (t:=s'.toks) (os:=s'.os) (k' _ _ (kp _ _ hC)) (by rw[show(Value.ref C::bm).contains (Value.ref C)=true from by simp];exact z)
 refine wpAny_bind (hsub.here ?_);rw[if_neg (by decide)];refine wpAny_bind (wpAny_holding (special_fn (s:=⟨_,g,d,t,os⟩) X1 I hi hf (wpAny_mono k (λ r s' z=>?_) λ _ _ z=>z)));obtain⟨rfl,z⟩:=z;exact wpAny_pure z
theorem aho{us:List Value}{Q:VP}(X:K.In h)(c:XC K C)(q:xmk K C=true)(hi:findIn K (.ref C) "__init__" = some (some (.ref f)))(hf:typeIn K (.ref f)=some (.type "function"))(hz:us.length<=sizeLine)
  (k:wpAny (model prog w) (A.under (.builtin "type.__call__" ⟨.ref C::us,[]⟩)) (call (.ref f) (.ref (h.objs.size+1)::us)) (λ r s'=>r=.none/\Q (.ref (h.objs.size+1)) s') E
   ⟨(h.push {cls:=.type "tuple",data:=.seq us.toArray}).push (vA C h.objs.size),g,d,t,os⟩) :
  wpAny (model prog w) A (call (.ref C) us) Q E ⟨h,g,d,t,os⟩:=by
 obtain⟨nm,q',N,bs,bm,hdct,sn,sub,ab,col,dd,k0,k1,k2,k3,k5,hC,T⟩:=abm X q;have l1:=tc_lookup;have l2:=tc_bind (.ref C);have l3:(⟨h,g,d,t,os⟩:Shared).TypeIs (.ref C) "type":= ⟨_,hC,rfl⟩;refine wpAny_call (codeAny_of_tree ?_);show wpAny _ _ (callAny (.ref C) ⟨us,[]⟩) _ _ _
 repeat (any_goals (first | with_reducible refine wpAny_loadPart_at hC ?_ | assumption | wp_step))
 exact⟨rfl,codeAny_call_builtin_at (Code.quiet_builtin _ (by decide +kernel)) entry_typeCall (wpAny_check_type_call_sub hC (ahO X c q hi hf hz k))⟩
end
abbrev qr(C:Addr)(dct:Option Addr)(vs:Array Value):Obj:={cls:=.ref C,dict:=dct,data:=.fields vs}
def Tb(h:Heap)(e:Addr)(vs:Array Value):Prop:=vs[1]? =some .none\/∃ T oT ts,vs[1]? =some (.ref T)/\T≠e/\h.get? T=some oT/\oT.data=.fields ts/\ts[3]? =some .none
theorem Tb.size{h:Heap}{e:Addr}{vs:Array Value}(t:Tb h e vs):1<vs.size:=by
 rcases t with z | ⟨_,_,_,z,_⟩<;>exact(Array.getElem?_eq_some_iff.mp z).1
structure Seen(fs:List Addr)(e:Addr)(h h':Heap):Prop where
 keep:∀ b o,b≠e->b ∉ fs->h.get? b=some o->h'.get? b=some o
 slot:∀ b o,b∈fs->h.get? b=some o->∃ sl,h'.get? b=some {o with slots:=sl}
theorem zU{Q:Unit->Shared->Prop}(hfr:A.frames=some (env::outer))(hl:s.heap.FunFrames base (env::outer))(hf:env.frame=some L)(he:s.heap.get? e=some (qr C dct vs))(tb:Tb s.heap e vs)
  (q:∀ h' vs',h'.get? e=some (qr C dct vs')->Tb h' e vs'->vs'[1]? ≠ some .none->vs'[2]? =vs[2]? -> Seen ((env::outer).filterMap (·.frame)) e s.heap h'->Q () {s with heap:=h'}) :
  wpAny M A (noteFrame (.ref e) env) (λ _ s1=>wpAny M A (setFlight (.ref e) none) Q E s1) E s:=by
 have nfr:∀ b o us,s.heap.get? b=some o->o.data=.fields us->b ∉ (env::outer).filterMap (·.frame):=λ b o us z zd hm=>by obtain⟨_,o',ho,hn⟩:=hl.mem hm;rw[z] at ho;cases ho;exact hn us zd
 have main:∀ (head:Value) (had:Bool),wpAny M A (do let a <- frameOf env;let pl <- entryPlaceOf L had;let b <- EntryCells.newEntry head a .none (rawInt L) .none pl;setField (.ref e) 1 b) (λ _ s1=>wpAny M A (setFlight (.ref e) none) Q E s1) E s:=by
  intro head had;refine wpAny_bind (wpAny_frameOf_fun hfr hl hf λ h1 so=>wpAny_bind (wpAny_entryPlaceOf λ pl hpl=>?_));unfold EntryCells.newEntry newFields;refine wpAny_bind (wpAny_newObj_type ?_ (hpl.sizeOk5 _ _ _ _ _));have e1:h1.get? e=some (qr C dct vs):=(so.2.1 e (nfr e _ vs he rfl)).trans he;generalize hts:([head,Value.ref L,.none,rawInt L,.none]++(if pl.isEmpty then List.replicate 6 Value.none else pl)).toArray=ts;have hts3:3<ts.size:=by rw[<- hts];simp only[List.size_toArray,List.length_append,List.length_cons,List.length_nil]<;>omega
  have e2:=Heap.get?_push_of_some (h:=h1) {cls:=.type "traceback",dict:=none,data:=.fields ts} e1;refine wpAny_setField e2 rfl tb.size ?_;have ne:h1.objs.size≠e:=Nat.ne_of_gt (Heap.lt_size e1);have e3:((h1.push {cls:=.type "traceback",dict:=none,data:=.fields ts}).update e (Obj.mapFields (·.setIfInBounds 1 (Value.ref h1.objs.size)))).get? e=some (qr C dct (vs.setIfInBounds 1 (Value.ref h1.objs.size))):=
   Heap.get?_update_self _ e2 rfl
  have e4:((h1.push {cls:=.type "traceback",dict:=none,data:=.fields ts}).update e (Obj.mapFields (·.setIfInBounds 1 (Value.ref h1.objs.size)))).get? h1.objs.size=some {cls:=.type "traceback",dict:=none,data:=.fields ts}:=
   (Heap.get?_update_other _ _ (Ne.symm ne)).trans (Heap.get?_push_size h1 rfl)
  have v1:(vs.setIfInBounds 1 (Value.ref h1.objs.size))[1]? =some (Value.ref h1.objs.size):=by simp[tb.size]
  unfold setFlight;refine wpAny_bind (wpAny_field e3 rfl v1 ?_);rw[if_pos (show(Value.ref h1.objs.size != Value.none)=true from by simp)];refine wpAny_setField e4 rfl hts3 (q _ (vs.setIfInBounds 1 (Value.ref h1.objs.size)) ?_ (.inr ⟨h1.objs.size,_,ts.setIfInBounds 3 .none,v1,ne,Heap.get?_update_self _ e4 rfl,rfl,by simp[hts3]⟩) (by rw[v1];intro z;cases z) (by simp) ?_)
  ·rw[Heap.get?_update_other _ _ ne];exact e3
  ·have kp:∀ b o,b≠e->h1.get? b=some o->(((h1.push {cls:=.type "traceback",dict:=none,data:=.fields ts}).update e (Obj.mapFields (·.setIfInBounds 1 (Value.ref h1.objs.size)))).update h1.objs.size
     (Obj.mapFields (·.setIfInBounds 3 ((none:Option Addr).elim Value.none λ f=>rawInt f)))).get? b=some o:=λ b o hb z=>by
    rw[Heap.get?_update_other _ _ (Nat.ne_of_gt (Heap.lt_size z)),Heap.get?_update_other _ _ (Ne.symm hb)];exact Heap.get?_push_of_some _ z
   refine⟨λ b o hb hm z=>kp b o hb ((so.2.1 b hm).trans z),λ b o hm z=>?_⟩;obtain⟨sl,z2⟩:=so.2.2 b o z;exact⟨sl,kp b _ (λ w=>nfr e _ vs he rfl (w ▸ hm)) z2⟩
 unfold noteFrame;simp only[hf];rcases tb with z | ⟨T,oT,ts,z1,z2,z3,z4,z5⟩
 ·refine wpAny_bind (wpAny_field he rfl z ?_);rw[if_neg (by decide)];exact main _ _
 ·refine wpAny_bind (wpAny_field he rfl z1 ?_);rw[if_pos (show(Value.ref T != Value.none)=true from by simp)];refine wpAny_bind (wpAny_field z3 z4 z5 ?_);rw[if_neg (show ¬ ((Value.none==rawInt L)=true) from by simp[rawInt])];refine wpAny_bind (wpAny_setField z3 z4 (Array.getElem?_eq_some_iff.mp z5).1 ?_);rw[Heap.update_setField_same s.heap T oT ts 3 .none z3 z4 z5];exact main _ _
end XO
namespace L2
open XO
def XF(e C:Addr)(dct:Option Addr)(cc:Bool):Heap->Prop:=λ h=>∃ vs,h.get? e=some (qr C dct vs)/\(cc=true->vs[2]? =some .none)
def DX(dx:Addr)(l:List (Str×V)):Heap->Prop:=λ h=>∃ mA,h.Ns1 dx mA/\(∀ f,vt (l.lookup f) (mA f))/\PySem.Within mA (l.map (·.1))
def Air(H:Hp)(h:Heap)(e:Addr):Prop:=∃ C dct vs cc,H e=some (.ext (XF e C dct cc))/\h.get? e=some (qr C dct vs)/\Tb h e vs/\(cc=true->vs[2]? =some .none)
theorem afW(z:h.get? e=some (qr C dct vs))(c:cc=true->vs[2]? =some .none):bY P w H h e (.ext (XF e C dct cc)):=
 ⟨⟨vs,z,c⟩,⟨_,z⟩,λ h1 h2 ⟨us,e1,c⟩ k=>⟨us,k _ e1,c⟩⟩
theorem af2(z:DX dx l h):bY P w H h dx (.ext (DX dx l)):=
 ⟨z,let ⟨_,⟨o,_,_,e,_⟩,_⟩:=z; ⟨o,e⟩,λ h1 h2 ⟨mA,n,r⟩ k=>⟨mA,n.at k,r⟩⟩
theorem Inv.seen(I:Inv X pins σ H s)(e:H a=some (.ext (XF a C dct cc)))(he:h'.get? a=some (qr C dct vs))(hc:cc=true->vs[2]? =some .none)(sn:Seen (frs X.stack) a s.heap h'):Inv X pins σ H {s with heap:=h'}:=by
 have nfs:∀ b u,H b=some u->b ∉ frs X.stack:=λ b u z hb=>by rw[I.mw b hb] at z;cases z
 refine I.call (g':=s.gens) (t':=s.toks) (d':=s.drawn) (ch:=[]) ⟨λ b o z n hb _=>sn.keep b o (λ w=>by rw[w,e] at n;cases n) hb z,λ b o z _ hb _=>sn.slot b o hb z,λ _ _ _ n _=>n,λ b o z _=>?_,λ _ _ z=>z,λ _ _ _ z=>z,λ _ ps z=>⟨#[],by rw[z];simp⟩⟩ (λ b o z=>?_) I.bare (λ b z=>absurd z (by simp))
 ·by_cases hb:b=a
  ·subst hb;exact⟨_,he⟩
  ·by_cases hm:b∈frs X.stack
   ·obtain⟨sl,q⟩:=sn.slot b o hm z;exact⟨_,q⟩
   ·exact⟨o,sn.keep b o hb hm z⟩
 ·by_cases hb:b=a
  ·subst hb;rw[e] at z;cases z;exact afW he hc
  ·refine(I.hok b o z).qh (λ c u hc q=>sn.keep c u ?_ ?_ q) (λ _ q=>q) λ _ _ q=>q
   ·rcases hc with w | w
    ·rw[w];exact hb
    ·intro y;rw[y,e] at w;cases w
   ·rcases hc with w | w
    ·rw[w];exact nfs b o z
    ·exact nfs c _ w
theorem Inv.zU(I:Inv X pins σ H s)(hA:A.frames=some X.stack)(hst:X.stack=X.env::X.outer)(hf:X.env.frame=some X.env.locals)(air:Air H s.heap a)
  (q:∀ s',Inv X pins σ H s'->Air H s'.heap a->Q () s'):wpAny (model X.prog X.w) A (noteFrame (.ref a) X.env) (λ _ s1=>wpAny (model X.prog X.w) A (setFlight (.ref a) none) Q E s1) E s:=by
 obtain⟨C,dct,vs,cc,e1,e2,e3,e4⟩:=air;have st:=I.stack;rw[hst] at st hA;refine XO.zU hA st hf e2 e3 λ h' vs' g1 g2 _ g4 g3=>q _ (I.seen e1 g1 (λ z=>by rw[g4];exact e4 z) ?_) ⟨C,dct,vs',cc,e1,g1,g2,λ z=>by rw[g4];exact e4 z⟩;rw[hst];exact g3
def CXE(P:Program)(w:World):CXT:=λ outer H s E e s'=>∃ a H',e=.ref a/\s'.os=s.os/\AllBare s'.gens/\Un (frs outer) [] H H' s.heap s'.heap/\HOk P w H' s'.heap/\Air H' s'.heap a/\E e none H'
theorem adV(F:cy X.prog X.w X.K X.mg X.base CX k f fd ps sp)(hr:cY k X.A)(hb:Binds X.K fd ps [])(I:Inv X pins σ H s)(r:Vals vs us)(h:sp vs H Q E)(hx:∀ e s',CX X.stack H s E e s'->X.xe e s') :
  wpAny (model X.prog X.w) X.A (call (.ref f) us) (EP X pins σ Q) X.xe s:=by
 have hl:(us++[]).length=ps.length:=by rw[List.append_nil,<- r.length];exact F.len _ _ _ _ h
 have b:=hb s us I.kIn hl;rw[List.append_nil] at b;refine wpAny_call (codeAny_mono (F.run X.A X.stack s H ⟨us,[]⟩ us vs Q E hr I.ahh b r h) λ r s' hq=>?_);cases r with
 | error e=>exact hx e s' hq
 | ok fl=>cases fl<;>first | exact I.after hq | exact False.elim hq
end L2
namespace D
open L2 XO
abbrev XQ:=Addr->MH->Prop
abbrev XE:=Addr->DS->MH->Prop
abbrev SpX:=List W->MH->QD->XQ->Prop
def aa1(K:FG)(sp:SpX):Sp:=λ vs H Q E=>∃ ws M Qd Ed,bF K H ws vs/\cf K H M/\sp ws M Qd Ed/\Kont K H Qd Q/\∀ a H' M',Kp H H'->cf K H' M'->Ed a M'->E (.ref a) none H'
def Lk(X:Cx)(E:XE):Prop:=∀ (pins:PN) (σ:St) (H:Hp) (s:Shared) (a:Addr) (τ:DS) (M:MH),Inv X pins σ H s->Air H s.heap a->Abs X.K H σ τ M->E a τ M->X.xe (.ref a) s
section
variable {P:Program}{w:World}{K:FG}{mg:Str->Option Value}{base:Heap}
theorem afm{N:List Str}{qual:Str}{scope:Scope}{cd:Value}{outer:List Env}{Ed:XQ}(he:∀ a H' M',Kp H H'->cf K H' M'->Ed a M'->E (.ref a) none H') :
  Lk (uV (CXE P w) P w K mg base N qual scope f cd A outer s H E) λ a _ M=>Ed a M:=by
 intro pins σ H1 s1 a τ M I air ab e;show wpAny _ _ (leaving _ _) _ _ _;unfold leaving;refine wpAny_bind (I.zU I.ok.frames rfl rfl air λ s2 J air2=>?_);exact⟨a,H1,rfl,J.os,J.bare,J.base,J.hok,air2,he a H1 M (Kp.un J.base) ab.mem e⟩
theorem ab8{x qual:Str}{st:Stmt}{N ps:List Str}{k:Nat}{sp:SpX}{t:XE->TSd}(F:Fun K x qual st f fd)(S:aH N ps (ao st))(len:∀ ws M Q E,sp ws M Q E->ws.length=ps.length)
  (hbody:∀ (cdv:Value) (A:Around) (outer:List Env) (s:Shared) (H:Hp) (E:XK) (Ed:XE),cY k (A.deeper (envOfC qual (ao st) s.heap.objs.size f cdv))->Lk (uV (CXE P w) P w K mg base N qual (ao st) f cdv A outer s H E) Ed ->
   PassesOwn (model P w) (A.deeper (envOfC qual (ao st) s.heap.objs.size f cdv)) (envOfC qual (ao st) s.heap.objs.size f cdv) (uV (CXE P w) P w K mg base N qual (ao st) f cdv A outer s H E).xe ->
   lb (uV (CXE P w) P w K mg base N qual (ao st) f cdv A outer s H E) (aM st) (t Ed))
  (read:∀ ws M Q E,sp ws M Q E->t (λ a _ M=>E a M) {nx:=λ _ M'=>Q (.d .none) M',rt:=Q} (bw N ws) M):cy P w K mg base (CXE P w) (k+1) f fd ps (aa1 K sp):=by
 obtain⟨oc,od,kV,doc,pm,an,cdv,ct,osl,rfl,lk,hcd⟩:=F.ex;refine aap lk hcd S (λ vs H Q E h=>?_) λ A outer s H vs Q E hr h=>?_
 ·obtain⟨ws,M,Qd,Ed,r,_,q,_⟩:=h;rw[<- r.length];exact len _ _ _ _ q
 ·obtain⟨ws,M,Qd,Ed,r,m,q,kk,ke⟩:=h;refine⟨_,hbody cdv A outer s H E (λ a _ M=>Ed a M) hr (afm ke) PassesOwn.leaving,bw N ws,M,_,gO r m,read ws M Qd Ed q,λ σ' H' τ' M' kp A' q'=>?_,λ v H' w' M' kp r' m' q'=>?_,λ σ' H' τ' M' kp A' q'=>q'.elim,λ σ' H' τ' M' kp A' q'=>q'.elim⟩
  ·exact kk _ H' _ M' kp (by simp[aB,ay]) A'.mem q'
  ·exact kk v H' w' M' kp r' m' q'
end
theorem acr(L:Lk X E)(I:Inv X pins σ H s)(ab:Abs X.K H σ τ M)(hE:∀ v H',E' v none H'->∃ a M',v=.ref a/\Kp H H'/\cf X.K H' M'/\E a τ M')
  (h:CXE X.prog X.w X.stack H s E' u s'):X.xe u s':=by
 obtain⟨a,H',rfl,os,br,un,hok,air,q⟩:=h;obtain⟨a',M',e,kp,m',q'⟩:=hE _ _ q;cases e;exact L pins σ H' s' a τ M' (I.adq os un hok br (λ b z=>absurd z (by simp))) air (ab.go kp m') q'
def abX(sp:SpX)(E:XE)(t:TAd)(τ:DS)(M:MH)(Q:QD):Prop:=t τ M λ ws M1=>sp ws M1 Q λ a M'=>E a τ M'
end D
namespace XO
open PySem.W
section
variable {prog:Program}{w:World}{A:Around}{E:VP}{s:Shared}{K:Frag}{env:PySem.Env}
theorem afj(hh:A.handled=none)
  (h:wpAny (model prog w) A x (λ v s1=>∃ e C dct vs,v=.ref e/\K.In s1.heap/\abH K C=true/\typeIn K (.ref C)=some (.type "type")/\s1.heap.get? e=some (qr C dct vs)/\vs[1]? =some .none/\E (.ref e) s1) E s) :
  wpAny (model prog w) A (raiseStmt env (some x) none) Q E s:=by
 unfold raiseStmt;refine wpAny_bind (wpAny_mono h (λ v s1 z=>?_) λ _ _ z=>z);obtain⟨e,C,dct,vs,rfl,X,c,ty,he,h1,q⟩:=z;obtain⟨hp,g,d,tk,os⟩:=s1;have L:Looks (model prog w) hp (isType (.ref e)) false:=λ A' Q' E' s' k q=>by
  unfold isType loadHead;exact wpAny_bind (wpAny_loadPart (k _ _ he) (wpAny_pure q))
 have T:Looks (model prog w) hp (typeOf (.ref e)) (.ref C):=(Looks.ld he).andThen .now;obtain⟨cd,hc,_,hm⟩:=d0 c;have S:Looks (model prog w) hp (isInstance (.ref e) (.type "BaseException")) true:=T.andThen (looks_mroIn X (by
  unfold mroIn;rw[hc,Option.bind_some,if_neg (by rw[nH hm];decide),nz "BaseException" (by decide) hm]))
 have N:Looks (model prog w) hp (isExcClass (.ref e)) false:=L.andThen .now;have Y:=looks_typeIn (M:=model prog w) X ty;have R:Looks (model prog w) hp (raisedInstance (.ref e)) (.ref e):=T.andThen (Y.andThen (by rw[if_pos (by decide)];exact .now));have Z:Looks (model prog w) hp (excFromValue (.ref e) "exceptions must derive from BaseException") (.ref e):=by
  unfold excFromValue;refine N.andThen ?_;rw[if_neg Bool.false_ne_true];refine S.andThen ?_;rw[if_pos rfl];exact .now
 refine wpAny_bind (wpAny_pure (wpAny_bind (wpAny_holding (Z.at ?_))));dsimp only;refine wpAny_bind (L.at ?_);rw[if_neg Bool.false_ne_true];refine wpAny_bind (R.at ?_);unfold setFlight;refine wpAny_bind (wpAny_bind (wpAny_field he rfl h1 ?_));rw[if_neg (by decide)];exact wpAny_pure (wpAny_raiseNew_none hh q)
end
end XO
namespace L2
open XO
def XV(e C:Addr)(dct:Option Addr)(vs:Array Value):Heap->Prop:=λ h=>h.get? e=some (qr C dct vs)
theorem ags(z:h.get? e=some (qr C dct vs)):bY P w H h e (.ext (XV e C dct vs)):=⟨z,⟨_,z⟩,λ h1 h2 e1 k=>k _ e1⟩
theorem Inv.wr2(I:Inv X pins σ H s)(e:H a=some (.ext φ))(hp:s.heap.objs.size<=dx)(kp:∀ b o,b≠a->s.heap.get? b=some o->h'.get? b=some o)
  (o1:bY X.prog X.w (upd (upd H dx u) a (.ext φ')) h' a (.ext φ'))(o2:bY X.prog X.w (upd (upd H dx u) a (.ext φ')) h' dx u):Inv X pins σ (upd (upd H dx u) a (.ext φ')) {s with heap:=h',toks:=t'}:=by
 have hn:H dx=none:=I.hok.fresh hp;have ne:dx≠a:=λ z=>by rw[z,e] at hn;cases hn
 have at_:∀ b,b≠a->b≠dx->(upd (upd H dx u) a (.ext φ')) b=H b:=λ b h1 h2=>by rw[aj h1,aj h2]
 have nd:∀ b v,H b=some v->b≠dx:=λ b v z w=>by rw[w,hn] at z;cases z
 have na:∀ b v,H b=some v->(∀ ψ,v ≠ .ext ψ)->b≠a:=λ b v z q w=>by rw[w,e] at z;cases z;exact q _ rfl
 refine I.un ⟨λ b o z n _ _=>kp b o (λ w=>by rw[w,e] at n;cases n) z,λ b o z n _ _=>⟨o.slots,kp b o (λ w=>by rw[w,e] at n;cases n) z⟩,λ b o z n _=>?_,λ b o z _=>?_,λ b xs z=>?_,λ b o v z=>?_,λ b ps z=>⟨#[],?_⟩⟩ (λ b o z=>?_)
 ·rw[at_ b (λ w=>by rw[w,e] at n;cases n) (Nat.ne_of_lt (Nat.lt_of_lt_of_le (Heap.lt_size z) hp))];exact n
 ·by_cases hb:b=a
  ·subst hb;exact o1.2.1
  ·exact⟨o,kp b o hb z⟩
 ·rw[at_ b (na b _ z λ _ w=>nomatch w) (nd b _ z)];exact z
 ·rw[at_ b (na b _ z λ _ w=>nomatch w) (nd b _ z)];exact z
 ·rw[at_ b (na b _ z λ _ w=>nomatch w) (nd b _ z),z];simp
 ·by_cases hb:b=a
  ·subst hb;rw[aq] at z;cases z;exact o1
  ·rw[aj hb] at z
   by_cases hb2:b=dx
   ·subst hb2;rw[aq] at z;cases z;exact o2
   ·rw[aj hb2] at z;refine(I.hok b o z).qh (λ c v hc q=>kp c v ?_ q) (λ c q=>?_) λ c xs q=>?_
    ·rcases hc with w | w
     ·rw[w];exact hb
     ·exact na c _ w λ _ y=>nomatch y
    ·rw[at_ c (na c _ q λ _ w=>nomatch w) (nd c _ q)];exact q
    ·rw[at_ c (na c _ q λ _ w=>nomatch w) (nd c _ q)];exact q
def sX0(C:Addr)(ta tv:TE)(f:Str):TS:=λ D σ H=>tv σ H λ y H1=>ta σ H1 λ x H2=>∃ a vs,x=.ref a/\H2 a=some (.ext (XV a C none vs))/\∀ dx,H2 dx=none->dx≠a->D.nx σ (upd (upd H2 dx (.ext (DX dx [(f,y)]))) a (.ext (XV a C (some dx) vs)))
def sX1(C:Addr)(ta tv:TE)(f:Str):TS:=λ D σ H=>tv σ H λ y H1=>ta σ H1 λ x H2=>∃ a vs dx l,x=.ref a/\H2 a=some (.ext (XV a C (some dx) vs))/\H2 dx=some (.ext (DX dx l))/\l.length<900/\D.nx σ (upd H2 dx (.ext (DX dx (qp f y l))))
theorem aiu(c:XC X.K C)(n:gh X.K C f)(ha:PE X o ta)(hv:PE X value tv)(hs:swapsWith value (some (.Attribute o f pos')) pos.line X.env=pure false:=by rfl):PS X (.Assign [.Attribute o f pos'] value pos) (sX0 C ta tv f):=by
 intro pins s σ H D I h;refine plainObj_wpAny_Assign_Attribute (thn (hv pins s σ H _ I h) λ u s1 ⟨y,H1,I1,ry,q⟩=>thn (ha pins s1 σ H1 _ I1 q) λ ov s2 ⟨x,H2,I2,rx,a,vs,ex,ea,q2⟩=>?_) hs;subst ex;obtain rfl:ov=Value.ref a:=rx;have hx:s2.heap.get? a=some (qr C _ vs):=(I2.hok a _ ea).1;refine ahR I2.kIn c.x c.sa n hx λ h' tk dx g1 g2 g3 g4 g5=>?_;refine⟨σ,_,I2.wr2 ea g1 g5 (ags g3) (af2 ⟨_,g4,λ g=>?_,λ g hg=>?_⟩),q2 dx (I2.hok.fresh g1) g2⟩
 ·by_cases e:g=f
  ·subst e;simp only[List.lookup,beq_self_eq_true,if_true];exact ry
  ·simp only[List.lookup,beq_eq_false_iff_ne.mpr e,if_neg e];exact True.intro
 ·by_cases e:g=f
  ·rw[e];simp
  ·exact absurd (by show(if g=f then some u else none)=none;rw[if_neg e]) hg
theorem agd(c:XC X.K C)(n:gh X.K C f)(ha:PE X o ta)(hv:PE X value tv)(hs:swapsWith value (some (.Attribute o f pos')) pos.line X.env=pure false:=by rfl):PS X (.Assign [.Attribute o f pos'] value pos) (sX1 C ta tv f):=by
 intro pins s σ H D I h;refine plainObj_wpAny_Assign_Attribute (thn (hv pins s σ H _ I h) λ u s1 ⟨y,H1,I1,ry,q⟩=>thn (ha pins s1 σ H1 _ I1 q) λ ov s2 ⟨x,H2,I2,rx,a,vs,dx,l,ex,ea,ed,hl,q2⟩=>?_) hs;subst ex;obtain rfl:ov=Value.ref a:=rx;have hx:s2.heap.get? a=some (qr C _ vs):=(I2.hok a _ ea).1;obtain⟨⟨mA,n1,r1,w1⟩,_,_⟩:=I2.hok dx _ ed;refine ais I2.kIn c.x c.sa n hx n1 w1 (by rw[List.length_map];omega) λ h' tk g1 g2=>?_;have hd:∃ o,h'.get? dx=some o:=let ⟨o,_,_,e',_⟩:=g1; ⟨o,e'⟩;refine⟨σ,_,I2.write (x:=dx) (e:=dx) (by rw[ed];exact True.intro) (.inl rfl) (λ b q hb z=>g2 b q hb z) hd (af2 ⟨_,g1,λ g=>?_,λ g hg=>?_⟩),q2⟩
 ·rw[jS]
  by_cases e:g=f
  ·rw[if_pos e,if_pos e];exact ry
  ·rw[if_neg e,if_neg e];exact r1 g
 ·by_cases e:g=f
  ·rw[e];exact(jH f y l).1
  ·refine(jH f y l).2 g (w1 g λ z=>hg ?_);show(if g=f then some u else mA g)=none;rw[if_neg e];exact z
def aaC(C:Addr)(fs:List Str):Sp:=λ vs H Q _=>∃ e ys us,vs=.ref e::ys/\ys.length=fs.length/\H e=some (.ext (XV e C none us))/\∀ dx,H dx=none->dx≠e->Q .non (upd (upd H dx (.ext (DX dx (fs.zip ys)))) e (.ext (XV e C (some dx) us)))
section
variable {P:Program}{w:World}{K:FG}{mg:Str->Option Value}{base:Heap}{C f:Addr}{fd:FuncData}{qual:Str}{st:Stmt}
theorem ahd(F:Fun K "__init__" qual st f fd)(S:aH ["self",p,p',p''] ["self",p,p',p''] (ao st))(c:XC K C)(n:gh K C g)(n':gh K C g')(n'':gh K C g'')
  (hb:aM st=[.Assign [.Attribute (.Name "self" a1) g a2] (.Name p a3) a4,.Assign [.Attribute (.Name "self" b1) g' b2] (.Name p' b3) b4,.Assign [.Attribute (.Name "self" c1) g'' c2] (.Name p'' c3) c4])
  (hs:∀ env,swapsWith (.Name p a3) (some (.Attribute (.Name "self" a1) g a2)) a4.line env=pure false)(hs':∀ env,swapsWith (.Name p' b3) (some (.Attribute (.Name "self" b1) g' b2)) b4.line env=pure false)(hs'':∀ env,swapsWith (.Name p'' c3) (some (.Attribute (.Name "self" c1) g'' c2)) c4.line env=pure false)
  (hp:∀ z∈[p,p',p''],(z==("__debug__" : Str))=false/\(z==("__classdict__" : Str))=false)(hne:g≠g'/\g≠g''/\g'≠g''):cy P w K mg base CX0 1 f fd ["self",p,p',p''] (aaC C [g,g',g'']):=by
 refine F.ok (k:=0) S (λ vs H Q E ⟨e,ys,us,h1,h2,_⟩=>by rw[h1,List.length_cons,h2];rfl) λ cdv A outer s H vs Q E hr h=>?_;obtain⟨e,ys,us,rfl,h2,h3,q⟩:=h;obtain⟨y,y',y'',rfl⟩:∃ y y' y'',ys=[y,y',y'']:=by
  match ys,h2 with
  | [y,y',y''],_=>exact⟨y,y',y'',rfl⟩
 rw[hb];have vis:∀ z:Str,z∈(["self",p,p',p'']:List Str)->Vis (ao st) z:=λ z hz=>(S.par z hz).elim .inl λ z=>.inr (.inl z);refine⟨_,nK (aiu c n (jM (i:=0) rfl (vis _ (by simp)) (by decide) (by decide)) (jM (i:=1) rfl (vis _ (by simp)) (hp p (by simp)).1 (hp p (by simp)).2) (hs _))
  (nK (agd c n' (jM (i:=0) rfl (vis _ (by simp)) (by decide) (by decide)) (jM (i:=2) rfl (vis _ (by simp)) (hp p' (by simp)).1 (hp p' (by simp)).2) (hs' _))
  (zh (agd c n'' (jM (i:=0) rfl (vis _ (by simp)) (by decide) (by decide)) (jM (i:=3) rfl (vis _ (by simp)) (hp p'' (by simp)).1 (hp p'' (by simp)).2) (hs'' _)))),?_⟩
 refine⟨y,rfl,.ref e,rfl,e,us,rfl,h3,λ dx hd ne=>⟨y',rfl,.ref e,rfl,e,us,dx,[(g,y)],rfl,aq,by rw[aj ne,aq],by simp,?_⟩⟩;refine⟨y'',rfl,.ref e,rfl,e,us,dx,qp g' y' [(g,y)],rfl,by rw[aj (Ne.symm ne),aq],aq,by simp[qp];split<;>simp,?_⟩;have z:=q dx hd ne;have e1:qp g'' y'' (qp g' y' [(g,y)])=[g,g',g''].zip [y,y',y'']:=by simp[qp,hne.1,hne.2.1,hne.2.2]
 show Q .non _;rw[e1];have e2:upd (upd (upd (upd H dx (.ext (DX dx [(g,y)]))) e (.ext (XV e C (some dx) us))) dx (.ext (DX dx (qp g' y' [(g,y)])))) dx (.ext (DX dx ([g,g',g''].zip [y,y',y''])))=upd (upd H dx (.ext (DX dx ([g,g',g''].zip [y,y',y''])))) e (.ext (XV e C (some dx) us)):=by
  funext b;unfold upd
  by_cases h1:b=dx
  ·subst h1;simp[ne]
  ·by_cases h2:b=e
   ·subst h2;simp[h1]
   ·simp[h1,h2]
 rw[e2];exact z
end
end L2
namespace D
open L2 XO
theorem tj{K:FG}{H:Hp}:∀ (fs:List Str) {ws:List W} {vs:List V},bF K H ws vs->Paired (λ(p:Str×W) (q:Str×V)=>p.1=q.1/\aB K H p.2 q.2) (fs.zip ws) (fs.zip vs)
 | [],_,_,_=>.nil
 | _::_,_,_,.nil=>.nil
 | f::fs,_,_,.cons r t=>.cons ⟨rfl,r⟩ (tj fs t)
def abR(C:Addr)(fs:List Str)(E:XE)(t:TAd)(_:Ed)(τ:DS)(M:MH):Prop:=t τ M λ ws M1=>ws.length=fs.length/\ws.length<=1000/\∀ a,M1 a=none->E a τ (bN M1 a (.exc C (fs.zip ws)))
structure Xm(K:FG)(C f:Addr):Prop where
 xc:XC K C
 xm:xmk K C=true
 ty:W.typeIn K (.ref C)=some (.type "type")
 hi:W.findIn K (.ref C) "__init__" = some (some (.ref f))
 hf:W.typeIn K (.ref f)=some (.type "function")
 kp:W.keepIn K (.ref C)=true
end D
namespace L2
open XO
def qq(H₀ H:Hp):Hp:=λ b=>match H b with
 | some (.tup xs)=>some (.tup xs)
 | some (.frz o u)=>some (.frz o u)
 | _=>H₀ b
theorem xG(h:H b=some (.tup xs)):qq H₀ H b=some (.tup xs):=by unfold qq;rw[h]
theorem zf(h:H b=some (.frz o u)):qq H₀ H b=some (.frz o u):=by unfold qq;rw[h]
theorem yQ(h:qq H₀ H b=some v):H₀ b=some v\/H b=some v:=by
 unfold qq at h
 split at h
 ·rename_i e;rw[e];exact .inr h
 ·rename_i e;rw[e];exact .inr h
 ·exact .inl h
theorem mx(h:qq H₀ H b=none):H₀ b=none:=by
 unfold qq at h
 split at h
 ·cases h
 ·cases h
 ·exact h
theorem my(h:H₀ b=none)(h2:H b=none):qq H₀ H b=none:=by
 unfold qq;rw[h2];exact h
abbrev Cx.lP(X:Cx)(H0:Hp)(pn:PN)(xe:VP):Cx:={X with H₀:=H0,pn:=pn,xe:=xe}
abbrev Cx.gi(X:Cx)(a:Addr):Cx:={X with A:=X.A.mark (some (.ref a)),calm:=false,xe:=λ _ _=>False}
theorem Inv.agT(I:Inv X pins σ H s):∀ b∈X.fs,H b=none:=λ b hb=>by obtain⟨_,o,ho,_⟩:=I.ok.nI.mem hb;exact I.base.free b o ho (I.ok.frf b hb) λ z=>I.ok.exfs b z hb
theorem Inv.ahJ(I:Inv X pins σ H s):Inv (X.lP (qq X.H₀ H) (X.pn++pins) xe) [] σ H s:=by
 refine⟨⟨I.ok.mod,I.ok.kind,I.ok.glob,I.ok.blt,I.ok.above,I.ok.inj,I.ok.has,I.ok.cab,I.ok.hd,I.ok.frames,I.ok.stk,I.ok.exf,λ b o e=>⟨(I.ok.bs b o e).1,my (I.ok.bs b o e).2 (I.bs b o e).2⟩,I.ok.bsz,I.ok.noex,I.ok.exfs,I.ok.nI,λ b hb=>my (I.ok.frf b hb) (I.agT b hb)⟩,
  I.os,I.bare,⟨λ b o e n hb hx=>I.base.keep b o e (mx n) hb hx,λ b o e n hb hx=>I.base.slot b o e (mx n) hb hx,λ b o e n hx=>I.base.free b o e (mx n) hx,I.base.there,λ b xs e=>?_,λ b o u e=>?_,λ b ps e=>?_⟩,
  I.loc,I.cell,I.free,I.freeC,λ p hp=>I.pin p (by simpa using hp),I.hok,I.len⟩
 ·rcases yQ e with z | z
  ·exact I.base.lg b xs z
  ·exact z
 ·rcases yQ e with z | z
  ·exact I.base.frzs b o u z
  ·exact z
 ·rcases yQ e with z | z
  ·exact I.base.tbls b ps z
  ·exact⟨#[],by rw[z];simp⟩
theorem Inv.wK(I:Inv X pins σ H s)(J:Inv (X.lP (qq X.H₀ H) (X.pn++pins) xe) pins' σ' H' s'):Inv X pins σ' H' s':=by
 have nn:∀ b o,X.s₀.heap.get? b=some o->X.H₀ b=none->b ∉ X.ex->qq X.H₀ H b=none:=λ b o e n hx=>my n (I.base.free b o e n hx);exact⟨I.ok,J.os,J.bare,⟨λ b o e n hb hx=>J.base.keep b o e (nn b o e n hx) hb hx,λ b o e n hb hx=>J.base.slot b o e (nn b o e n hx) hb hx,λ b o e n hx=>J.base.free b o e (nn b o e n hx) hx,J.base.there,λ b xs e=>J.base.lg b xs (xG (I.base.lg b xs e)),λ b o u e=>J.base.frzs b o u (zf (I.base.frzs b o u e)),λ b ps e=>by obtain⟨m1,e1⟩:=I.base.tbls b ps e;refine J.base.tbls b ps ?_;show qq X.H₀ H b=_;unfold qq;rw[e1];exact e⟩,J.loc,J.cell,J.free,J.freeC,λ p hp=>J.pin p (List.mem_append_left _ hp),J.hok,J.len⟩
theorem Inv.gi(I:Inv X pins σ H s)(a:Addr):Inv (X.gi a) pins σ H s:=
 ⟨⟨I.ok.mod,I.ok.kind,I.ok.glob,I.ok.blt,I.ok.above,I.ok.inj,I.ok.has,I.ok.cab,(λ z=>nomatch z),I.ok.frames,I.ok.stk,I.ok.exf,I.ok.bs,I.ok.bsz,I.ok.noex,I.ok.exfs,I.ok.nI,I.ok.frf⟩,I.os,I.bare,I.base,I.loc,I.cell,I.free,I.freeC,I.pin,I.hok,I.len⟩
theorem Inv.uncaught(ok:X.Ok)(I:Inv (X.gi a) pins σ H s):Inv X pins σ H s:=⟨ok,I.os,I.bare,I.base,I.loc,I.cell,I.free,I.freeC,I.pin,I.hok,I.len⟩
theorem Inv.gone(I:Inv X pins σ H s)(hn:h'.Ns X.env.locals m')(sb:Heap.SameBut X.env.locals s.heap h'):Inv X pins (List.replicate σ.length none) H {s with heap:=h',toks:=t'}:=by
 have ne:∀ b o,X.s₀.heap.get? b=some o->b≠X.env.locals:=λ b o e=>Nat.ne_of_lt (Nat.lt_of_lt_of_le (Heap.lt_size e) I.ok.above);refine⟨I.ok,I.os,I.bare,⟨λ b o e n hb hx=>(sb.2 b (ne b o e)).trans (I.base.keep b o e n hb hx),λ b o e n hb hx=>?_,I.base.free,λ b o e hx=>?_,I.base.lg,I.base.frzs,I.base.tbls⟩,⟨m',hn,λ i x v e1 e2 e3=>?_⟩,λ x c e=>?_,I.free,I.freeC,λ p hp=>?_,λ b o e=>?_,by rw[List.length_replicate];exact I.len⟩
 ·obtain⟨sl,z⟩:=I.base.slot b o e n hb hx;exact⟨sl,(sb.2 b (ne b o e)).trans z⟩
 ·obtain⟨o',z⟩:=I.base.there b o e hx;exact⟨o',(sb.2 b (ne b o e)).trans z⟩
 ·rw[List.getElem?_replicate] at e2
  split at e2<;>cases e2
 ·obtain⟨v,z⟩:=I.cell x c e;exact⟨v,z.sameBut sb (I.cne x c e)⟩
 ·obtain⟨z,n,nl,nf,d⟩:=I.pin p hp;exact⟨(sb.2 p.1 nl).trans z,n,nl,nf,d⟩
 ·refine(I.hok b o e).qh (λ c u hc q=>(sb.2 c λ z=>?_).trans q) (λ _ q=>q) λ _ _ q=>q;rcases hc with y | y
  ·rw[z] at y;rw[<- y,I.free] at e;cases e
  ·rw[z,I.free] at y;cases y
theorem Air.aeU(air:Air H s.heap a)(q:Q () s):wpAny M A (setFlight (.ref a) none) Q E s:=by
 obtain⟨C,dct,vs,cc,e1,e2,tb,_⟩:=air;unfold setFlight;rcases tb with z | ⟨T,oT,ts,z1,z2,z3,z4,z5⟩
 ·refine wpAny_bind (wpAny_field e2 rfl z ?_);rw[if_neg (by decide)];exact wpAny_pure q
 ·refine wpAny_bind (wpAny_field e2 rfl z1 ?_);rw[if_pos (show(Value.ref T != Value.none)=true from by simp)];refine wpAny_setField z3 z4 (Array.getElem?_eq_some_iff.mp z5).1 ?_;rw[show((none:Option Addr).elim Value.none λ f=>rawInt f)=Value.none from rfl,Heap.update_setField_same s.heap T oT ts 3 .none z3 z4 z5];exact q
end L2
namespace D
open L2 XO
theorem Abs.forget{K:FG}{H:Hp}{σ:St}{τ:DS}{M:MH}(h:Abs K H σ τ M):Abs K H (List.replicate σ.length none) (List.replicate τ.length none) M:=by
 refine⟨by simp[h.len],λ i w e=>?_,h.mem⟩;rw[List.getElem?_replicate] at e
 split at e<;>cases e
section
variable {X:Cx}{pos np hpos:Pos}{body suite:List Stmt}{b0:Stmt}{hs:List ExceptHandler}{h0:ExceptHandler}{tb:XE->TSd}{th rest:Addr->TSd}{ts:TSd}
def PHd(X:Cx)(hs:List ExceptHandler)(th:Addr->TSd):Prop:=∀ (pins:PN) (σ:St) (H:Hp) (s:Shared) (a:Addr) (D:Ends),Inv X pins σ H s->Air H s.heap a->upS X.K (th a) D σ H->wpAny (model X.prog X.w) X.A (handleBy (.ref a) X.env hs) (SP X pins D) X.xe s
def ah9(tb:XE->TSd)(th:Addr->TSd)(D:Ed)(τ:DS)(M:MH):Prop:=tb (λ a τ' M'=>th a D τ' M') D τ M
theorem ad6(hst:X.stack=X.env::X.outer)(hf:X.env.frame=some X.env.locals)
  (hb:∀ (H0:Hp) (pn:PN) (xe:VP) (E:XE),Lk (X.lP H0 pn xe) E->PassesOwn (model X.prog X.w) X.A X.env xe->lb (X.lP H0 pn xe) body (tb E))(hh:PHd X (h0::hs) th):PSd X (.Try body (h0::hs) [] [] pos) (ah9 tb th):=by
 intro pins s σ H D I h;obtain⟨τ,M,Dd,A,h,k1,k2,k3,k4⟩:=h;refine wpAny_Try_except ?_;refine wpAny_mono (hb (qq X.H₀ H) (X.pn++pins) (λ e s1=>wpAny (model X.prog X.w) X.A (noteFrame e X.env) (λ _ s2=>wpAny (model X.prog X.w) X.A (setFlight e none) (λ _ s3=>wpAny (model X.prog X.w) X.A (handleBy e X.env (h0::hs)) (SP X pins D) X.xe s3) X.xe s2) X.xe s1)
  (λ a τ' M'=>th a Dd τ' M') (λ pins' σ' H' s' a τ' M' J air ab e=>?_) PassesOwn.looking [] s σ H D I.ahJ ⟨τ,M,Dd,A,h,k1,k2,k3,k4⟩) (λ f s1 q=>?_) λ _ _ z=>z
 ·have J2:=I.wK J;have kp:Kp H H':=⟨λ b xs z=>J.base.lg b xs (xG z),λ b o u z=>J.base.frzs b o u (zf z)⟩;refine J2.zU J2.ok.frames hst hf air λ s3 J3 air3=>hh pins σ' H' s3 a D J3 air3 ⟨τ',M',Dd,ab,e,λ σ2 H2 τ2 M2 k=>k1 σ2 H2 τ2 M2 (kp.trans k),λ v H2 w M2 k=>k2 v H2 w M2 (kp.trans k),λ σ2 H2 τ2 M2 k=>k3 σ2 H2 τ2 M2 (kp.trans k),λ σ2 H2 τ2 M2 k=>k4 σ2 H2 τ2 M2 (kp.trans k)⟩
 ·cases f with
  | next=>obtain⟨σ',H',J,q⟩:=q;exact wpAny_execs_nil ⟨σ',H',I.wK J,q⟩
  | brk=>obtain⟨σ',H',J,q⟩:=q;exact⟨σ',H',I.wK J,q⟩
  | cont=>obtain⟨σ',H',J,q⟩:=q;exact⟨σ',H',I.wK J,q⟩
  | ret u=>obtain⟨v,σ',H',J,r,q⟩:=q;exact⟨v,σ',H',I.wK J,r,q⟩
def ady(tab:Addr->Option Bool)(i:Nat)(ts:TSd)(rest:Addr->TSd)(a:Addr)(D:Ed)(τ:DS)(M:MH):Prop:=∃ C fs b,M a=some (.exc C fs)/\tab C=some b /\
 if b=true then ts {nx:=λ τ2 M2=>D.nx (List.replicate τ2.length none) M2,rt:=D.rt,bk:=λ τ2 M2=>D.bk (List.replicate τ2.length none) M2,ct:=λ τ2 M2=>D.ct (List.replicate τ2.length none) M2} (τ.set i (some (.m a))) M else rest a D τ M
theorem Air.cls{K:FG}{H:Hp}{h:Heap}{a C:Addr}{M:MH}{fs:List (Str×W)}(air:Air H h a)(m:cf K H M)(e:M a=some (.exc C fs)):∃ dct vs,h.get? a=some (qr C dct vs):=by obtain⟨C',dct,vs,cc,e1,e2,_,cd⟩:=air;obtain⟨φ,dct',g1,g2,_⟩:=m a _ e;rw[e1] at g1;cases g1;obtain⟨vs',e3,_⟩:=g2 h ⟨vs,e2,cd⟩;exact⟨_,vs',e3⟩
theorem acx(I:Inv X pins σ H s)(hg:Gl X x)(hm:X.mg x=some (.ref D))(he:s.heap.get? a=some (qr C dct vs))
  (ht:W.exmOne X.K (.ref C) (.ref D)=some b)(hdb:ND x)(q:R (.ok (if b then .brk else .next)) s) :
  codeAny (model X.prog X.w) (X.A.mark (some (.ref a))) (.handlers (.ref a) [.ExceptHandler (some (.Name x np)) none [] hpos] X.env) R s:=by
 refine codeAny_handlers_test (jE (X:=X.gi a) (I.gi a) hg hm ?_ hdb);exact(W.exm_one (M:=model X.prog X.w) I.kIn ((W.Looks.ld he).andThen .now) ht).here q
theorem ah5(hg:Gl X x)(hm:X.mg x=some (.ref Dc))(ht:∀ C b,tab C=some b->W.exmOne X.K (.ref C) (.ref Dc)=some b)(hN:X.N.Nodup)(hi:X.N[i]? =some n)(hl:X.env.scope.names.lookup n=some .local)(hk:X.env.scope.kind=.function)
  (hsu:∀ a,lb (X.gi a) (b0::suite) ts)(hr:PHd X hs rest)(hdb:ND x:=by decide):PHd X (.ExceptHandler (some (.Name x np)) (some n) (b0::suite) hpos::hs) (ady tab i ts rest):=by
 intro pins σ H s a Dn I air h;obtain⟨τ,M,Dd,A,⟨C,fs,b,hma,htb,h⟩,k1,k2,k3,k4⟩:=h;obtain⟨dct,vs,he⟩:=Air.cls air A.mem hma;refine wpAny_handleBy_cons (acx I hg hm he (ht C b htb) hdb ?_) (by intro q;cases q);cases b with
 | false=>exact hr pins σ H s a Dn I air ⟨τ,M,Dd,A,h,k1,k2,k3,k4⟩
 | true =>
  rw[if_pos rfl] at h;refine codeAny_handlers_suite_as (air.aeU ?_);refine fV (X:=X.gi a) (i:=i) (v:=.ref a) (I.gi a) hN hi (.inl hl) rfl (λ s2 J=>?_) (.inr hl);have gone:∀ {σ3:St} {H3:Hp} {s3:Shared} {Q:Unit->Shared->Prop},Inv (X.gi a) pins σ3 H3 s3->(∀ s4,Inv X pins (List.replicate σ3.length none) H3 s4->Q () s4)->wpAny (model X.prog X.w) X.A (do bindName X.env n .none;unbindBehindTheSuite X.env n hpos) Q X.xe s3:=λ {σ3 H3 s3 Q} J3 q=>by obtain⟨m,hn,_⟩:=J3.loc;refine wpAny_nameGoes hl hn (by rw[hk];rfl) λ h' m' hn' sb=>q _ ((J3.uncaught I.ok).gone hn' sb)
  have ab2:=A.set i (v:=.ref a) (w:=.m a) rfl;refine wpAny_mono (hsu a pins s2 _ H {nx:=λ σ2 H2=>Dn.nx (List.replicate σ2.length none) H2,rt:=Dn.rt,bk:=λ σ2 H2=>Dn.bk (List.replicate σ2.length none) H2,ct:=λ σ2 H2=>Dn.ct (List.replicate σ2.length none) H2} J ⟨_,M,_,ab2,h,λ σ2 H2 τ2 M2 kp A2 q=>?_,λ v H2 w M2 kp r m q=>k2 v H2 w M2 kp r m q,λ σ2 H2 τ2 M2 kp A2 q=>?_,λ σ2 H2 τ2 M2 kp A2 q=>?_⟩) (λ f s3 q=>?_) λ _ _ z=>z.elim
  ·exact k1 _ H2 _ M2 kp A2.forget q
  ·exact k3 _ H2 _ M2 kp A2.forget q
  ·exact k4 _ H2 _ M2 kp A2.forget q
  ·cases f with
   | next=>obtain⟨σ3,H3,J3,q⟩:=q;exact gone J3 λ s4 J4=>⟨_,H3,J4,q⟩
   | brk=>obtain⟨σ3,H3,J3,q⟩:=q;exact gone J3 λ s4 J4=>⟨_,H3,J4,q⟩
   | cont=>obtain⟨σ3,H3,J3,q⟩:=q;exact gone J3 λ s4 J4=>⟨_,H3,J4,q⟩
   | ret u=>obtain⟨v,σ3,H3,J3,r,q⟩:=q;exact gone J3 λ s4 J4=>⟨v,_,H3,J4,r,q⟩
end
theorem abg(I:Inv X pins σ H s)(m:cf X.K H M)(e:M a=some (.exc C fs)) :
  (∃ ox od,W.InstAt s.heap a ox C od)/\(∀ w,fs.lookup f=some w->∃ v u ox od,aB X.K H w v/\RelV v u/\W.InstAt s.heap a ox C (some od)/\W.lookIn f od=some (some u)):=by
 obtain⟨φ,dct,e1,e2,e3⟩:=m a _ e;obtain⟨vs,hx,_⟩:=e2 s.heap (I.hok a _ e1).1;rcases e3 with ⟨rfl,rfl⟩ | ⟨dx,o,l,rfl,e4,pr⟩
 ·exact⟨⟨_,none,hx,rfl,rfl,True.intro⟩,λ w z=>nomatch z⟩
 ·obtain⟨ho,mA,n1,r1⟩:=I.hok dx _ e4;refine⟨⟨_,some o,hx,rfl,rfl,ho⟩,λ w z=>?_⟩;have g:=oK f pr;rw[z] at g;obtain⟨v,eb,rb⟩:=OR.some_of g;obtain⟨u,hu,ru⟩:=vt.some_of (v:=v) (o:=mA f) (by rw[<- eb];exact r1 f);obtain⟨od,g1,g2⟩:=wO n1;exact⟨v,u,_,od,rb,ru,⟨hx,rfl,rfl,g1⟩,by rw[g2,hu]⟩
def wR(cs:List Addr)(td:TD)(f:Str)(τ:DS)(M:MH)(Q:QD):Prop:=td τ M λ w M1=>∃ a C fs v,w=.m a/\M1 a=some (.exc C fs)/\C∈cs/\fs.lookup f=some v/\Q v M1
theorem ac1(hc:∀ C∈cs,XC X.K C/\gh X.K C f)(he:PD X o td)(hb:attributeBase o f X.env (eval o X.env)=eval o X.env:=by rfl):PD X (.Attribute o f pos) (wR cs td f):=by
 intro pins s σ H Q I h;obtain⟨τ,M,Qd,A,h,k⟩:=h;refine aek hb (thn (he pins s σ H (λ x H1=>∃ w M1,Kp H H1/\aB X.K H1 w x/\cf X.K H1 M1/\∃ a C fs v,w=.m a/\M1 a=some (.exc C fs)/\C∈cs/\fs.lookup f=some v/\Qd v M1) I ⟨τ,M,_,A,h,λ v H1 w M1 kp r m q=>⟨w,M1,kp,r,m,q⟩⟩)
  λ u s1 ⟨x,H1,I1,rx,w,M1,kp,r1,m1,a,C,fs,v,ew,hma,hC,hl,q⟩=>?_)
 subst ew;cases (show x=.ref a from r1);obtain rfl:u=Value.ref a:=rx;obtain⟨v',u',ox,od,rv,ru,J,lo⟩:=(abg (f:=f) I1 m1 hma).2 v hl;obtain⟨xc,na⟩:=hc C hC;obtain⟨cd,hcd,hd,_⟩:=d0 xc.x;refine ajk I1.kIn xc J (W.findObj_own (by unfold W.hasDictIn;rw[hcd];exact hd) na rfl lo) (yK ru) ?_;exact⟨v',H1,I1.tok _,ru,k v' H1 v M1 kp rv m1 q⟩
def aer:V->Value
 | .ref a=>.ref a
 | .ty n=>.type n
 | _=>.none
def wa:V->Bool
 | .ref _=>true
 | .ty _=>true
 | _=>false
theorem zm:∀ {v:V} {u:Value},wa v=true->RelV v u->u=aer v
 | .ref _,_,_,r=>r
 | .ty _,_,_,r=>r
 | .non,_,h,_=>nomatch h
 | .bl _,_,h,_=>nomatch h
 | .int _,_,h,_=>nomatch h
 | .str _,_,h,_=>nomatch h
 | .byt _,_,h,_=>nomatch h
 | .flt _,_,h,_=>nomatch h
theorem sV:∀ {cs:List V} {us:List Value},(∀ c∈cs,wa c=true)->Vals cs us->us=cs.map aer
 | _,_,_,.nil=>rfl
 | _,_,h,.cons r t=>by rw[zm (h _ (by simp)) r,sV (λ c hc=>h c (by simp[hc])) t];rfl
def IsC(H:Hp)(v:V)(cs:List V):Prop:=cs=[v]\/∃ t,v=.ref t/\H t=some (.tup cs)
def ajq(K:FG)(xs:List V)(H:Hp)(Q:VK):Prop:=∃ a C c cs b M fs,xs=[.ref a,c]/\cf K H M/\M a=some (.exc C fs)/\IsC H c cs/\(∀ c∈cs,wa c=true)/\XC K C/\W.kitAny K (.ref C) (cs.map aer)=some b/\Q (.bl b) H
theorem zX:dk X (.builtin "isinstance") (ajq X.K):=by
 intro pins s σ H xs us Q I r h;obtain⟨a,C,c,cs,b,M,fs,rfl,m,e,hc,hcs,xc,kb,q⟩:=h;obtain⟨u,w,rfl,r1,r2⟩:=vals2 r;cases (show u=Value.ref a from r1);obtain⟨⟨ox,od,J⟩,_⟩:=abg (f:= "") I m e;have fin:∀ tk,EP X pins σ Q (.bool b) {s with toks:=tk}:=λ tk=>⟨.bl _,H,I.tok _,rfl,q⟩;rcases hc with rfl | ⟨t,rfl,ht⟩
 ·have e1:=zm (hcs c (by simp)) r2;subst e1;have e2:W.kitOne X.K (.ref C) (aer c)=some b:=by
   simp only[List.map_cons,List.map_nil,W.kitAny] at kb
   split at kb
   ·rename_i z;rw[z,kb]
   ·rename_i z;rw[z,kb]
   ·cases kb
  exact W.kia_one (abc xc) I.kIn J e2 (λ z=>nomatch z) fin
 ·cases (show w=Value.ref t from r2);obtain⟨_,its,rv,⟨o,g1,g2,_,n,g3⟩⟩:=I.hok t _ ht;have e1:=sV hcs rv;subst e1;obtain⟨c1,c2,c3,c4⟩:=o;cases g2;cases g3;exact W.kia_tup (abc xc) I.kIn J g1 kb (λ z=>nomatch z) fin
def agf(tab:Addr->Option Bool)(td:TD)(τ:DS)(M:MH)(Q:QD):Prop:=td τ M λ w M1=>∃ a C fs b,w=.m a/\M1 a=some (.exc C fs)/\tab C=some b/\Q (.d (.bool b)) M1
def CTm(cs:List V)(tc:TE):Prop:=∀ σ H (Q:VK),(∀ v H',(∀ b u,H b=some u->H' b=some u)->IsC H' v cs->Q v H')->tc σ H Q
theorem acK(v:V):CTm [v] (tC v):=λ σ H Q h=>h v H (λ _ _ z=>z) (.inl rfl)
theorem acL(h:∀ σ H (Q:List V->Hp->Prop),Q cs H->t σ H Q)(hz:cs.length<=1000):CTm cs (aiz t):=λ σ H Q k=>h σ H _ ⟨by have:=s16;omega,λ p hp=>k (.ref p) _ (λ b u z=>by rw[aj (aF z hp)];exact z) (.inr ⟨p,rfl,aq⟩)⟩
theorem ab1(ht:∀ C b,tab C=some b->XC X.K C/\W.kitAny X.K (.ref C) (cs.map aer)=some b)(hcs:(cs.all wa)=true)(hg:Gl X "isinstance")(hm:X.mg "isinstance" = none)(ho:PD X o td)(hc:PE X ce tc)(ct:CTm cs tc)
  (h1:fh o=false:=by rfl)(h2:fh ce=false:=by rfl):PD X (.Call (.Name "isinstance" p) [o,ce] [] pos) (agf tab td):=by
 refine fN (nD zX hg hm bM (fL ho (fL hc km (bT ce [] X.env h2)) (bT o [ce] X.env h1)) (by decide) (by decide) (bT o [ce] X.env h1) (cC pos X.env [ce] (by simp[h2]))) λ σ H Q h=>?_;obtain⟨τ,M,Qd,A,h,k⟩:=h;refine⟨τ,M,_,A,h,λ v H1 w M1 kp r m hq106=>?_⟩;obtain⟨a,C,fs,b,ew,hma,htb,q⟩:=hq106;subst ew;cases (show v=.ref a from r);refine ct σ H1 _ λ c H2 st ic=>?_;obtain⟨xc,kb⟩:=ht C b htb;have kp2:Kp H1 H2:=⟨λ b xs z=>st b _ z,λ b o u z=>st b _ z⟩;have m2:cf X.K H2 M1:=λ b mo z=>(m b mo z).keep kp2 λ u y=>st b u y;exact⟨a,C,c,cs,b,M1,fs,rfl,m2,hma,ic,λ c hc=>List.all_eq_true.mp hcs c hc,xc,kb,k (.bl b) H2 (.d (.bool b)) M1 (kp.trans kp2) rfl m2 q⟩
structure Xi(K:FG)(C:Addr)(qual:Str)(st:Stmt)(ps:List Str)(f:Addr)(fd:FuncData):Prop where
 fn:Fun K "__init__" qual st f fd
 xm:Xm K C f
 bd:L2.Binds K fd ps []
theorem aia{K:FG}{C:Addr}{qual:Str}{st:Stmt}{ps:List Str}{f:Addr}{oc:Value}{od an:Option Addr}{osl:Array (Option Value)}{kV doc pm cdv ct:Value}(xc:XC K C)(a:W.findIn K (.ref C) "__init__" = some (some (.ref f)))(i:W.typeIn K (.ref f)=some (.type "function"))
  (l:K.lookup f=some ⟨oc,od,.func (W.fnOf "__init__" qual (bh st) (aM st) (ao st) .none kV doc pm an cdv ct),osl⟩)(c:W.codeIn K cdv qual=true)(k:W.keepIn K (.ref f)=true)(m:xmk K C=true)(ty:W.typeIn K (.ref C)=some (.type "type"))(kc:W.keepIn K (.ref C)=true)
  (b:∀ (kV doc pm:Value) (an:Option Addr) (cdv ct:Value) (us:List Value),us.length=ps.length->bindArgs (W.fnOf "__init__" qual (bh st) (aM st) (ao st) .none kV doc pm an cdv ct) ⟨us,[]⟩=pure (ps.zip us)) :
  Xi K C qual st ps f (W.fnOf "__init__" qual (bh st) (aM st) (ao st) .none kV doc pm an cdv ct):=
 have F:=abA (st:=st) l c k
 ⟨F,⟨xc,m,ty,a,i,kc⟩,F.binds b⟩
def abl(l:List (Addr×Bool))(C:Addr):Option Bool:=l.lookup C
inductive sr(P:Addr->Bool->Prop):List (Addr×Bool)->Prop
 | nil:sr P []
 | cons {a:Addr} {b:Bool} {l:List (Addr×Bool)}:P a b->sr P l->sr P ((a,b)::l)
theorem sr.of(h:sr P l):∀ C b,abl l C=some b->P C b:=by
 induction h with
 | nil=>intro C b z;cases z
 | @cons a b l p _ ih =>
  intro C b' z;unfold abl at z ih;rw[List.lookup_cons] at z
  split at z
  ·rename_i e
   cases z;rw[beq_iff_eq.mp e];exact p
  ·exact ih C b' z
inductive vz(P:Addr->Prop):List Addr->Prop
 | nil:vz P []
 | cons {a:Addr} {l:List Addr}:P a->vz P l->vz P (a::l)
theorem vz.of(h:vz P l):∀ C∈l,P C:=by
 induction h with
 | nil=>intro C z;cases z
 | cons p _ ih =>
  intro C z;rcases List.mem_cons.mp z with e | e
  ·rw[e];exact p
  ·exact ih C e
def PCs(X:Cx)(es:List Expr)(cs:List V):Prop:=(∃ t,PA X es t/\∀ σ H (Q:List V->Hp->Prop),Q cs H->t σ H Q)/\(cs.all wa)=true
theorem ad8:PCs X [] []:=⟨⟨_,km,λ σ H Q q=>q⟩,rfl⟩
theorem tw(hg:Gl X x)(hm:X.mg x=some (.ref C))(r:PCs X es cs)(hd:ND x:=by decide):PCs X (.Name x p::es) (.ref C::cs):=by obtain⟨⟨t,h1,h2⟩,h3⟩:=r;exact⟨⟨_,fL (rG (v:=.ref C) hg hm rfl hd) h1,λ σ H Q q=>h2 σ H _ q⟩,by rw[List.all_cons,h3];rfl⟩
section
variable {X:Cx}{pos p p' apos cpos np hpos:Pos}{k:Nat}{f C:Addr}{fd:FuncData}{ps fs:List Str}{sp:SpX}{x m n:Str}{e o:Expr}{es:List Expr}{t:TAd}{td:TD}{E:XE}
theorem ajl(L:Lk X E)(F:cy X.prog X.w X.K X.mg X.base (CXE X.prog X.w) k f fd ps (aa1 X.K sp))(hr:cY k X.A)(hg:Gl X x)(hm:X.mg x=some (.ref f))(hk:W.keepIn X.K (.ref f)=true)(hb:L2.Binds X.K fd ps [])
  (ha:Jd (PAd X (e::es) t))(hdb:ND x:=by decide)(h1:fh e=false:=by rfl)(h2:(es.all λ e=>!fh e)=true:=by rfl) :
  Jd (PD X (.Call (.Name x p) (e::es) [] pos) (abX sp E t)):=⟨have ha:=ha.h;by
 intro pins s σ H Q I h;obtain⟨τ,M,Qd,A,h,k⟩:=h;refine wpAny_Call_Name_kw (jE I hg hm ?_ hdb);refine W.callWith_K (h₀:=X.base) I.ok.mod.kin hk (thn (ha pos pins s σ H (λ vs H1=>∃ ws M1,Kp H H1/\bF X.K H1 ws vs/\cf X.K H1 M1/\sp ws M1 Qd λ a M'=>E a τ M') I ⟨τ,M,_,A,h,λ vs H1 ws M1 kp r m q=>⟨ws,M1,kp,r,m,q⟩⟩) λ us s1 ⟨vs,H1,I1,r,ws,M1,kp,rw,m1,q⟩=>⟨I1.kIn,?_⟩) (bT e es X.env h1) (cC pos X.env es h2);refine adV (E:=λ v _ H'=>∃ a M',v=.ref a/\Kp H1 H'/\cf X.K H' M'/\E a τ M') F hr hb I1 r ⟨ws,M1,Qd,_,rw,m1,q,kgo k kp,λ a H' M' kp' m' e'=>⟨a,M',rfl,kp',m',e'⟩⟩ λ u s' hx=>acr L I1 (A.go kp m1) (λ v H' z=>z) hx⟩
theorem vi(L:Lk X E)(c:Xm X.K C f)(F:cy X.prog X.w X.K X.mg X.base CX0 k f fd ps (aaC C fs))(hr:cY (k+1) X.A)(hg:Gl X x)(hm:X.mg x=some (.ref C))(hb:L2.Binds X.K fd ps [])(ha:Jd (PAd X (e::es) t))
  (hdb:ND x:=by decide)(h1:fh e=false:=by rfl)(h2:(es.all λ e=>!fh e)=true:=by rfl):Jd (PSd X (.Raise (some (.Call (.Name x p) (e::es) [] cpos)) none pos) (abR C fs E t)):=⟨have ha:=ha.h;by
 intro pins s σ H D I h;obtain⟨τ,M,Dd,A,h,_⟩:=h;rw[arm_exec_Raise];refine wpAny_bind (wpAny_standAt (afj (K:=X.K) hr.hd (wpAny_bind ?_)));refine wpAny_Call_Name_kw (jE I hg hm ?_ hdb);refine W.callWith_K (h₀:=X.base) I.ok.mod.kin c.kp (thn (ha cpos pins s σ H (λ vs H1=>∃ ws M1,Kp H H1/\bF X.K H1 ws vs/\cf X.K H1 M1/\ws.length=fs.length/\ws.length<=1000/\∀ a,M1 a=none->E a τ (bN M1 a (.exc C (fs.zip ws)))) I
  ⟨τ,M,_,A,h,λ vs H1 ws M1 kp r m q=>⟨ws,M1,kp,r,m,q⟩⟩) λ us s1 ⟨vs,H1,I1,r,ws,M1,kp,rw1,m1,hl,hz,q⟩=>⟨I1.kIn,?_⟩) (bT e es X.env h1) (cC cpos X.env es h2)
 have hlv:vs.length=fs.length:=by rw[<- rw1.length];exact hl
 have e0:H1 (s1.heap.objs.size+1)=none:=I1.hok.fresh (Nat.le_succ _);have J:Inv X pins σ (upd H1 (s1.heap.objs.size+1) (.ext (XV (s1.heap.objs.size+1) C none #[.ref s1.heap.objs.size,.none,.none,.none,.bool false,.none]))) {s1 with heap:=(s1.heap.push {cls:=.type "tuple",data:=.seq us.toArray}).push (vA C s1.heap.objs.size)}:=by
  have I2:=I1.kept (t':=s1.toks) (h':=s1.heap.push {cls:=.type "tuple",data:=.seq us.toArray}) λ b u z=>Heap.get?_push_of_some _ z;refine I2.laid (t':=s1.toks) (λ b u z=>Heap.get?_push_of_some _ z) (by show(s1.heap.push _).objs.size<=_;rw[Heap.size_push];exact Nat.le_refl _) (ags ?_);have:=Heap.get?_push_size (s1.heap.push {cls:=.type "tuple",data:=.seq us.toArray}) (o:=vA C s1.heap.objs.size) rfl
  rwa[Heap.size_push] at this
 have r2:Vals (V.ref (s1.heap.objs.size+1)::vs) (Value.ref (s1.heap.objs.size+1)::us):=.cons rfl r;refine aho (h:=s1.heap) (g:=s1.gens) (d:=s1.drawn) (t:=s1.toks) (os:=s1.os) I1.kIn c.xc c.xm c.hi c.hf (by show us.length<=_;have:=r.length;have:=rw1.length;have:=s16;omega) ?_;have hq:=F.len (V.ref (s1.heap.objs.size+1)::vs) (upd H1 (s1.heap.objs.size+1) (.ext (XV (s1.heap.objs.size+1) C none #[.ref s1.heap.objs.size,.none,.none,.none,.bool false,.none])))
  (λ v H3=>v=.non/\∃ dx,(upd H1 (s1.heap.objs.size+1) (.ext (XV (s1.heap.objs.size+1) C none #[.ref s1.heap.objs.size,.none,.none,.none,.bool false,.none]))) dx=none/\dx≠s1.heap.objs.size+1 /\
   H3=upd (upd (upd H1 (s1.heap.objs.size+1) (.ext (XV (s1.heap.objs.size+1) C none #[.ref s1.heap.objs.size,.none,.none,.none,.bool false,.none]))) dx (.ext (DX dx (fs.zip vs)))) (s1.heap.objs.size+1) (.ext (XV (s1.heap.objs.size+1) C (some dx) #[.ref s1.heap.objs.size,.none,.none,.none,.bool false,.none]))) E0
  ⟨_,vs,_,rfl,hlv,aq,λ dx hd ne=>⟨rfl,dx,hd,ne,rfl⟩⟩
 have bnd:=hb {s1 with heap:=(s1.heap.push {cls:=.type "tuple",data:=.seq us.toArray}).push (vA C s1.heap.objs.size)} (Value.ref (s1.heap.objs.size+1)::us) J.kIn (by rw[List.append_nil,<- r2.length];exact hq);rw[List.append_nil] at bnd;refine wpAny_call (codeAny_mono (F.run _ X.stack {s1 with heap:=(s1.heap.push {cls:=.type "tuple",data:=.seq us.toArray}).push (vA C s1.heap.objs.size)} _ ⟨Value.ref (s1.heap.objs.size+1)::us,[]⟩ _ _ (λ v H3=>v=.non/\∃ dx,(upd H1 (s1.heap.objs.size+1) (.ext (XV (s1.heap.objs.size+1) C none #[.ref s1.heap.objs.size,.none,.none,.none,.bool false,.none]))) dx=none/\dx≠s1.heap.objs.size+1 /\
   H3=upd (upd (upd H1 (s1.heap.objs.size+1) (.ext (XV (s1.heap.objs.size+1) C none #[.ref s1.heap.objs.size,.none,.none,.none,.bool false,.none]))) dx (.ext (DX dx (fs.zip vs)))) (s1.heap.objs.size+1) (.ext (XV (s1.heap.objs.size+1) C (some dx) #[.ref s1.heap.objs.size,.none,.none,.none,.bool false,.none]))) E0
  (hr.make C us []) (J.ahh.make C us []) bnd r2 ⟨_,vs,_,rfl,hlv,aq,λ dx hd ne=>⟨rfl,dx,hd,ne,rfl⟩⟩) λ rr s' hq'=>?_)
 cases rr with
 | error e=>exact False.elim hq'
 | ok fl =>
  cases fl with
  | next=>exact False.elim hq'
  | brk=>exact False.elim hq'
  | cont=>exact False.elim hq'
  | ret u =>
   obtain⟨v,H3,I3,rv,ev,dx,hd,ne,eH⟩:=J.after hq';subst ev;refine⟨rv,wpAny_bind (wpAny_standAt (wpAny_pure ?_))⟩;generalize ha0:s1.heap.objs.size+1=a at *;generalize hu0:(#[.ref s1.heap.objs.size,.none,.none,.none,.bool false,.none]:Array Value)=u0 at *;have e3a:H3 a=some (.ext (XV a C (some dx) u0)):=by rw[eH,aq]
   have e3d:H3 dx=some (.ext (DX dx (fs.zip vs))):=by rw[eH,aj ne,aq]
   have oa:s'.heap.get? a=some (qr C (some dx) u0):=(I3.hok a _ e3a).1;obtain⟨⟨mA,n1,r1,w1⟩,⟨od,hod⟩,_⟩:=I3.hok dx _ e3d;have I4:=I3.write (x:=dx) (e:=dx) (o:=.frz od (.xd (fs.zip vs))) (h':=s'.heap) (t':=s'.toks) (by rw[e3d];exact True.intro) (.inl rfl) (λ b q _ z=>z) ⟨od,hod⟩ ⟨hod,mA,n1,r1⟩;have e4a:(upd H3 dx (.frz od (.xd (fs.zip vs)))) a=some (.ext (XV a C (some dx) u0)):=by rw[aj (Ne.symm ne)];exact e3a
   have I5:=I4.write (x:=a) (e:=a) (o:=.ext (XF a C (some dx) true)) (h':=s'.heap) (t':=s'.toks) (by rw[e4a];exact True.intro) (.inl rfl) (λ b q _ z=>z) ⟨_,oa⟩ (afW oa λ _=>by rw[<- hu0];rfl);have hdx:H1 dx=none:=by rw[aj ne] at hd;exact hd
   have at5:∀ b,b≠a->b≠dx->(upd (upd H3 dx (.frz od (.xd (fs.zip vs)))) a (.ext (XF a C (some dx) true))) b=H1 b:=λ b z1 z2=>by rw[aj z1,aj z2,eH,aj z1,aj z2,aj z1]
   have st:∀ b u,H1 b=some u->(upd (upd H3 dx (.frz od (.xd (fs.zip vs)))) a (.ext (XF a C (some dx) true))) b=some u:=λ b u z=>by rw[at5 b (λ y=>by rw[y,e0] at z;cases z) (λ y=>by rw[y,hdx] at z;cases z)];exact z
   have k5:Kp H1 (upd (upd H3 dx (.frz od (.xd (fs.zip vs)))) a (.ext (XF a C (some dx) true))):=⟨λ b xs z=>st b _ z,λ b o u z=>st b _ z⟩;have m5:cf X.K (upd (upd H3 dx (.frz od (.xd (fs.zip vs)))) a (.ext (XF a C (some dx) true))) (bN M1 a (.exc C (fs.zip ws))):=λ b mo z=>by
    by_cases hb:b=a
    ·subst hb;rw[ah] at z;cases z;exact⟨_,some dx,aq,λ h ⟨vs,y,c⟩=>⟨vs,y,λ _=>c rfl⟩,.inr ⟨dx,od,fs.zip vs,rfl,by rw[aj ne,aq],tj fs (rw1.keep k5)⟩⟩
    ·rw[aw hb] at z;exact(m1 b mo z).keep k5 λ u y=>st b u y
   refine⟨a,C,some dx,u0,rfl,I5.kIn,c.xc.x,c.ty,oa,by rw[<- hu0];rfl,?_⟩;exact L pins σ _ s' a τ _ I5 ⟨C,some dx,u0,true,aq,oa,.inl (by rw[<- hu0];rfl),λ _=>by rw[<- hu0];rfl⟩ (A.go (kp.trans k5) m5) (q a (m1.free e0))⟩
variable {body suite:List Stmt}{b0:Stmt}{hs:List ExceptHandler}{h0:ExceptHandler}{tb:XE->TSd}{th rest:Addr->TSd}{ts:TSd}
theorem aaD(hst:X.stack=X.env::X.outer)(hf:X.env.frame=some X.env.locals)
  (hb:∀ (H0:Hp) (pn:PN) (xe:VP) (E:XE),Lk (X.lP H0 pn xe) E->PassesOwn (model X.prog X.w) X.A X.env xe->Jd (lb (X.lP H0 pn xe) body (tb E)))(hh:Jd (PHd X (h0::hs) th)):Jd (PSd X (.Try body (h0::hs) [] [] pos) (ah9 tb th)):=
 ⟨D.ad6 hst hf (λ H0 pn xe E l p=>(hb H0 pn xe E l p).h) hh.h⟩
theorem aag:Jd (PHd X hs (λ _ _ _ _=>False)):=⟨λ pins σ H s a D I air ⟨τ,M,Dd,_,h,_⟩=>h.elim⟩
theorem afw(hg:Gl X x)(hm:X.mg x=some (.ref Dc))(ht:sr (λ C b=>W.exmOne X.K (.ref C) (.ref Dc)=some b) l)(hN:X.N.Nodup)(hi:X.N[i]? =some n)(hl:X.env.scope.names.lookup n=some .local)(hk:X.env.scope.kind=.function)
  (hsu:∀ a,Jd (lb (X.gi a) (b0::suite) ts))(hr:Jd (PHd X hs rest))(hdb:ND x:=by decide):Jd (PHd X (.ExceptHandler (some (.Name x np)) (some n) (b0::suite) hpos::hs) (ady (abl l) i ts rest)):=
 ⟨D.ah5 hg hm ht.of hN hi hl hk (λ a=>(hsu a).h) hr.h hdb⟩
theorem mV{f:Str}{cs:List Addr}(hc:vz (λ C=>XC X.K C/\gh X.K C f) cs)(he:Jd (PD X o td))(hb:attributeBase o f X.env (eval o X.env)=eval o X.env:=by rfl):Jd (PD X (.Attribute o f pos) (wR cs td f)):=⟨D.ac1 hc.of he.h hb⟩
theorem zS(hm:X.mg "isinstance" = none)(ht:sr (λ C b=>XC X.K C/\W.kitAny X.K (.ref C) [.ref Dc]=some b) l)(hg:Gl X x)(hx:X.mg x=some (.ref Dc))(ho:Jd (PD X o td))(hgi:Gl X "isinstance":= by rfl)
  (hdb:ND x:=by decide)(h1:fh o=false:=by rfl):Jd (PD X (.Call (.Name "isinstance" p) [o,.Name x p'] [] pos) (agf (abl l) td)):=
 ⟨D.ab1 (cs:=[.ref Dc]) ht.of rfl hgi hm ho.h (rG (v:=.ref Dc) hg hx rfl hdb) (acK _) h1 rfl⟩
theorem aax{x1}(hm:X.mg "isinstance" = none)(ht:sr (λ C b=>XC X.K C/\W.kitAny X.K (.ref C) (cs.map aer)=some b) l)(hc:PCs X es cs)(ho:Jd (PD X o td))(hz:cs.length<=1000:=by decide)(hgi:Gl X "isinstance":= by rfl)
  (h1:fh o=false:=by rfl):Jd (PD X (.Call (.Name "isinstance" p) [o,.Tuple es x1 p'] [] pos) (agf (abl l) td)):=by
 obtain⟨⟨t,g1,g2⟩,g3⟩:=hc;exact⟨D.ab1 (cs:=cs) ht.of g3 hgi hm ho.h (yr g1) (acL g2 hz) h1 rfl⟩
end
section
variable {X:Cx}{K:FG}
end
section
variable {X:Cx}{K:FG}
def ae7(d:PyData)(ds:List PyData):Bool:=k7 d&&k7 (.list ds)
theorem acW(hr:ll k A)(h:SeqAt.shaped d=true):A.units+1+min (PyData.depthAll ds) d.depth<cLine:=by have h1:=SeqAt.depth_of_shaped h;have h2:min (PyData.depthAll ds) d.depth<=d.depth:=Nat.min_le_right _ _;have:=hr.un;omega
def afX(K:FG):V->List V->Hp->VK->Prop:=λ x vs H Q=>∃ y d ds,vs=[y]/\kz K H (.list ds) x/\kz K H d y/\ae7 d ds=true/\Q (.int (ds.countP λ y=>PyData.eqv y d:Nat)) H
theorem aar(hr:cY k X.A):MtM X "list.count" (afX X.K):=by
 intro pins s σ H x vs v us Q I rx rv h;obtain⟨y,d,ds,rfl,h1,h2,o,q⟩:=h;obtain⟨u,rfl,ru⟩:=rv.one;simp only[ae7,k7,Bool.and_eq_true,Bool.not_eq_true'] at o;obtain⟨⟨o1,o2⟩,o3,o4⟩:=o;obtain⟨as,r2⟩:=cT I d h2 ru o2;obtain⟨bs,r1⟩:=cT I (.list ds) h1 rx o4;have c3:PyData.canLayAll0 ds=true:=SeqAt.canLay_of_shaped o3;cases r1 with
 | @list a ob its n _ as1 e1 e2 e3 e4 =>
  obtain⟨cls,dd,data,sl⟩:=ob;simp only at e2 e3;subst e2 e3;refine call_meets F.slot_list_count ⟨_,e1,rfl⟩ F.entry_list_count (F.args_list_count_2 _ _) (SeqAt.list_countAt a its n dd sl u λ z=>PyData.eqv (SeqAt.readOf s.heap z) d) ⟨e1,SeqAt.items_eqAt e4 r2 c3 (SeqAt.canLay_of_shaped o1) (acW hr.h o1),?_⟩;refine⟨.int _,H,I.tok _,⟨_,rfl⟩,?_⟩;have e:its.toList.countP (λ z=>PyData.eqv (SeqAt.readOf s.heap z) d)=ds.countP λ y=>PyData.eqv y d:=by rw[<- SeqAt.readsAll_map ds _ _ c3 e4,List.countP_map];rfl
  rw[e];exact q
def abI(td te:TD)(τ:DS)(M:MH)(Q:QD):Prop:=td τ M λ w M1=>∃ ds,w=.d (.list ds)/\te τ M1 λ y M2=>∃ d,y=.d d/\ae7 d ds=true/\Q (.d (.int (ds.countP λ y=>PyData.eqv y d:Nat))) M2
end
theorem yv(hr:cY k X.A)(ho:Jd (PD X o td))(he:Jd (PD X e te))
  (hbase:attributeBase o "count" X.env (eval o X.env)=eval o X.env:=by rfl)
  (hfew:((backTo cpos (starEach [e] X.env)).all (λ x=>!x.1)&&(backToKw cpos (keywordEach [] X.env)).all (λ x=>x.1.isSome)
   && decide (([e]:List Expr).length+([]:List Keyword).length+(if ([]:List Keyword).isEmpty then 0 else 1)<30))=true:=by rfl)
  (hline:(apos.endLine==cpos.line)=true:=by rfl)(hs:fh e=false:=by rfl):Jd (PD X (.Call (.Attribute o "count" apos) [e] [] cpos) (abI td te)):=⟨have ho:=ho.h;have he:=he.h;
 fN (agM PySem.F.plainAttrs_list PySem.F.slot_list_count PySem.F.type_list_count (aar hr) ho (pac he rj hs) hbase hfew hline (bT e [] X.env hs) rfl) λ σ H Q h=>by obtain⟨τ,M,Qd,A,h,k⟩:=h;refine⟨τ,M,_,A,h,λ x H1 w M1 kp1 r1 m1 hq107=>?_⟩;obtain⟨ds,ew,q1⟩:=hq107;subst ew;have r1':=r1;simp only[aB,ay] at r1';obtain⟨a,vs,ex,hsq,ra⟩:=r1';subst ex;refine⟨.inl ⟨rfl,vs,hsq.sq⟩,τ,M1,ahs (λ y M2=>∃ d,y=.d d/\ae7 d ds=true/\Qd (.d (.int (ds.countP λ y=>PyData.eqv y d:Nat))) M2),A.go kp1 m1,q1,λ ys H2 wys M2 kp2 r2 m2 q2=>?_⟩;obtain⟨y,ey,d,ed,ok,q4⟩:=xT q2;subst ey ed;obtain⟨v,ev,rv⟩:=cZ r2;subst ev;exact⟨v,d,ds,rfl,.inl (r1.keep kp2),.inl rv,ok,k _ _ (.d (.int _)) _ (kp1.trans kp2) (by simp[aB,ay]) m2 q4⟩⟩
end D
namespace PySem.SeqAt
open MeetsSeq MeetsSeq2 MeetsSeq3 SeqRoads2
end PySem.SeqAt
namespace ZT
end ZT
namespace D
open L2
section
variable {X:Cx}{K:FG}{a b:Expr}{p pos:Pos}{t:TAd}
end
section
variable {X:Cx}{K:FG}
end
section
variable {X:Cx}{K:FG}
end
section
variable {X:Cx}{e st:Expr}{te:TE}{ts:TO}{pos p2:Pos}
end
section
variable {X:Cx}{K:FG}{e st:Expr}{te:TD}{ts:TOd}{pos p2:Pos}
end
section
variable {X:Cx}{e st:Expr}{a:Addr}{x:Str}{kvs:List (Str×PyData)}{pos p p2:Pos}{te:TD}{ts:TOd}
end
end D
namespace XO
open PySem.W
section
variable {prog:Program}{w:World}{A:Around}{E:VP}{K:Frag}{C:Addr}{h:Heap}{g:Array GenState}{d:Drawn}{t:Nat}{os:OsState}
end
end XO
namespace D
open L2 XO
section
variable {X:Cx}{pos p cpos np hpos:Pos}{k:Nat}{f C:Addr}{x:Str}{e:Expr}{es:List Expr}{t:TAd}{E:XE}
variable {body suite:List Stmt}{b0:Stmt}{hs:List ExceptHandler}{th rest:Addr->TSd}{ts:TSd}
end
section
variable {X:Cx}{K:FG}
variable {o e:Expr}{td te:TD}{apos cpos:Pos}
end
section
variable {X:Cx}{e st:Expr}{te:TE}{ts:TO}{pos p2:Pos}
end
section
variable {X:Cx}{e st:Expr}{te:TD}{ts:TOd}{pos p2:Pos}
end
section
variable {X:Cx}{K:FG}
end
section
variable {X:Cx}{pos p cpos apos np hpos p2:Pos}{k:Nat}{f C:Addr}{x y:Str}{e o st:Expr}{es:List Expr}{t:TAd}{E:XE}{body suite:List Stmt}{b0:Stmt}{hs:List ExceptHandler}{rest:Addr->TSd}{ts:TSd}{fd:FuncData}{ps:List Str}{sp:SpX}{td te:TD}{to:TOd}
end
end D
namespace ZS
end ZS
namespace D
open L2
section
variable {X:Cx}{K:FG}
end
end D
namespace RT
end RT
namespace D
open L2
section
variable {X:Cx}{K:FG}
variable {o e:Expr}{td:TD}{apos cpos:Pos}
variable {a:Expr}{ta:TA}{p p2 pos pos2:Pos}
end
end D
namespace L2
open PySem.W (envX kla_obj kla_fn)
def zp(X:Cx)(q:Str)(sc:Scope)(N':List Str)(cl:List (Str×Addr))(f c:Addr)(s:Shared)(H:Hp)(pins:PN):Cx:=
 {X with A:=X.A.deeper (envX q sc s.heap.objs.size f (.ref c) cl),N:=N',s₀:=s,H₀:=H,env:=envX q sc s.heap.objs.size f (.ref c) cl,outer:=X.stack,stack:=envX q sc s.heap.objs.size f (.ref c) cl::X.stack,ex:=[],fn:=λ _=>false,calm:=true,pn:=X.pn++pins,xe:=λ _ _=>False}
structure pF(X:Cx)(sc:Scope)(x:Str)(fr:List Nat):Prop where
 kind:sc.kind=.function
 co:sc.isCoroutine=false
 gen:sc.isGenerator=false
 cell:∀ y∈sc.names,y.2 ≠ .cell
 free:∀ y∈sc.names,y.2=.free->(X.env.kindOf y.1=some .cell\/X.env.kindOf y.1=some .free)
 own:sc.names.lookup x=some .local
 fr:ae0 X.N sc fr=true
def yE(X:Cx)(x:Str)(fr:List Nat):List Str:=x::fr.map λ j=>X.N.getD j Str.empty
def afg(v:V)(fr:List Nat)(σ:St):St:=some v::fr.map λ j=>(σ[j]?).getD none
section
variable {X:Cx}{pins:PN}{σ:St}{H:Hp}{s:Shared}{sc:Scope}{x q:Str}{fr:List Nat}{cl:List (Str×Addr)}{f c:Addr}
theorem afE(L:pF X sc x fr)(hc:X.calm=true)(I:Inv X pins σ H s)(c1:∀ n c,cl.lookup n=some c->X.env.cells.lookup n=some c)(c2:∀ n,(n,NameKind.free)∈sc.names->∃ c,cl.lookup n=some c):(zp X q sc (yE X x fr) cl f c s H pins).Ok where
 mod:=I.ok.mod
 kind:=L.kind
 glob:=rfl
 blt:=rfl
 above:=Nat.le_refl _
 inj:=λ x y c a b=>I.ok.inj x y c (c1 _ _ a) (c1 _ _ b)
 has:=λ y hy=>by
  have hy:sc.names.lookup y=some .cell\/sc.names.lookup y=some .free:=hy;rcases hy with hy | hy
  ·exact absurd rfl (L.cell _ (PySem.mem_of_lookup hy))
  ·exact c2 y (PySem.mem_of_lookup hy)
 cab:=λ x c z=>absurd (show false=true from z) Bool.false_ne_true
 hd:=λ _=>I.ok.hd hc
 frames:=Around.frames_deeper I.ok.frames
 stk:=.inr ⟨rfl,rfl⟩
 exf:=λ b z=>nomatch z
 bs:=I.bs
 bsz:=Nat.le_trans I.ok.bsz I.sz
 noex:=λ b o e z=>nomatch z
 exfs:=λ b z=>nomatch z
 nI:=I.stack
 frf:=I.mw
theorem adu(L:pF X sc x fr)(hc:X.calm=true)(I:Inv X pins σ H s)(c1:∀ n c,cl.lookup n=some c->X.env.cells.lookup n=some c)(c2:∀ n,(n,NameKind.free)∈sc.names->∃ c,cl.lookup n=some c)
  {h1:Heap}{tk:Nat}{v:V}{u:Value}(rv:RelV v u)(hn:h1.Ns s.heap.objs.size (λ y=>[(x,u)].reverse.lookup y))(k:∀ b o,s.heap.get? b=some o->h1.get? b=some o) :
  Inv (zp X q sc (yE X x fr) cl f c s H pins) [] (afg v fr σ) H {s with heap:=h1,toks:=tk}:=by
 have ok:=afE (q:=q) (f:=f) (c:=c) L hc I c1 c2;refine⟨ok,rfl,I.bare,Un.kept k,⟨_,hn,λ i y v' e1 e2 e3=>?_⟩,λ y c e=>?_,I.hok.fresh (Nat.le_refl _),λ y c e=>I.freeC y c (c1 _ _ e),λ p hp=>?_,I.hok.kept k,?_⟩
 ·cases i with
  | zero =>
   have e1':some x=some y:=e1;have e2':some (some v)=some (some v'):=e2;cases e1';cases e2';exact⟨u,rv,.inl ⟨L.own,by simp⟩⟩
  | succ i =>
   have e1':(fr.map λ j=>X.N.getD j Str.empty)[i]? =some y:=e1;have e2':(fr.map λ j=>(σ[j]?).getD none)[i]? =some (some v'):=e2;rw[List.getElem?_map] at e1' e2';cases hq:fr[i]? with
   | none=>rw[hq] at e1';cases e1'
   | some j =>
    rw[hq] at e1' e2';obtain⟨z,hz,hzf⟩:=sm L.fr (List.mem_of_getElem? hq);have ex:z=y:=by have:=Option.some.inj e1';rw[<- this];simp[List.getD,hz]
    subst ex;have ev:σ[j]? =some (some v'):=by
     have z':(σ[j]?).getD none=some v':=Option.some.inj e2';cases w:σ[j]? with
     | none=>rw[w] at z';cases z'
     | some o=>rw[w] at z';exact congrArg some z'
    have hm:(z,NameKind.free)∈sc.names:=PySem.mem_of_lookup hzf;have hk:=L.free _ hm rfl;have vis:Vis X.env.scope z:=by
     rcases hk with w | w
     ·exact .inr (.inl w)
     ·exact .inr (.inr w)
    obtain⟨m0,hn0,hl⟩:=I.loc;obtain⟨u',r,l⟩:=hl j z v' hz ev vis;refine⟨u',r,.inr ⟨.inr hzf,?_⟩⟩;obtain⟨c',hc'⟩:=c2 z hm;rcases l with ⟨w,_⟩ | ⟨_,c'',hc'',hcell⟩
    ·rcases hk with q' | q'
     ·exact absurd (show X.env.kindOf z=some .local from w) (by rw[q'];decide)
     ·exact absurd (show X.env.kindOf z=some .local from w) (by rw[q'];decide)
    ·have:c'=c'':=Option.some.inj ((c1 _ _ hc').symm.trans hc'');subst this;obtain⟨o,ho,hd⟩:=hcell;exact⟨c',hc',o,k _ _ ho,hd⟩
 ·obtain⟨w,o,ho,hd⟩:=I.cell y c (c1 _ _ e);exact⟨w,o,k _ _ ho,hd⟩
 ·have hp':p∈X.pn++pins:=by simpa [zp] using hp
  obtain⟨a1,a2,a3,a4,a5⟩:=I.pin p hp';refine⟨k _ _ a1,a2,Nat.ne_of_lt (Heap.lt_size a1),λ z=>?_,a5⟩;rcases List.mem_cons.mp (I.iW _ z) with e | e
  ·exact a3 e
  ·exact a4 e
 ·show(afg v fr σ).length=(yE X x fr).length;simp[afg,yE]
def aey(H:Hp)(q x:Str)(params:Arguments)(body:Expr)(sc:Scope)(cl:List (Str×Addr))(pm:Value)(f:Addr):Prop:=
 ∃ c ctv oc vs t,H f=some (.frz (kla_obj "<lambda>" q params body sc cl pm c ctv) (.own 0))/\H c=some (.frz oc (.own 0))/\oc.data=.fields vs/\vs[1]? =some (.str q t)
theorem adE{k:Nat}{E:VP}{params:Arguments}{body:Expr}{pm:Value}{te:TE}{v:V}{u:Value}{Q:VK}(hr:cY (k+1) X.A)(hc:X.calm=true)(L:pF X sc x fr)(c1:∀ n c,cl.lookup n=some c->X.env.cells.lookup n=some c)(c2:∀ n,(n,NameKind.free)∈sc.names->∃ c,cl.lookup n=some c)
  (hb:∀ cdv ctv u,bindArgs (kla_fn "<lambda>" q params body sc cl pm cdv ctv) ⟨[u],[]⟩=pure [(x,u)])
  (he:∀ c s H pl,cY k (zp X q sc (yE X x fr) cl f c s H pl).A->PE (zp X q sc (yE X x fr) cl f c s H pl) body te)
  (I:Inv X pins σ H s)(hf:aey H q x params body sc cl pm f)(rv:RelV v u)(h:te (afg v fr σ) H Q):wpAny (model X.prog X.w) X.A (call (.ref f) [u]) (EP X pins σ Q) E s:=by
 obtain⟨c,ctv,oc,vs,t,h1,h2,h3,h4⟩:=hf;obtain⟨g1,_⟩:=I.hok f _ h1;obtain⟨g2,_⟩:=I.hok c _ h2;refine wpAny_call (W.kla_callFunE hr.depth g1 rfl L.co L.gen rfl ⟨c,oc,vs,t,rfl,g2,h3,h4⟩ ?_);rw[hb];refine wpAny_pure (wpAny_newFunctionEnv L.cell (λ y hy=>by rw[List.mem_singleton.mp hy];exact L.own) (λ h₁ hns hsb=>⟨(I.nolimit).fresh _ hsb,?_⟩) L.kind);have hk₁:∀ b o,s.heap.get? b=some o->h₁.get? b=some o:=λ b o e=>hsb.extBut b o (Nat.ne_of_lt (Heap.lt_size e)) (Heap.get?_push_of_some _ e);have J:=adu (q:=q) (f:=f) (c:=c) (tk:=s.toks+1) L hc I c1 c2 rv hns hk₁;have hr':cY k (zp X q sc (yE X x fr) cl f c s H pins).A:=hr.deeper _;refine W.kla_codeExpr (wpAny_mono (he c s H pins hr' [] _ _ _ _ J h) (λ u' s' hh=>?_) λ _ _ z=>z.elim);obtain⟨v',H',J',r',q'⟩:=hh;exact I.after ⟨v',H',J'.os,J'.bare,J'.base,J'.hok,r',q'⟩
end
section
variable {X:Cx}{pins:PN}{σ:St}{H:Hp}{s:Shared}
theorem Inv.acB{P:Addr}{ps more:Array Value}{h':Heap}{t':Nat}(I:Inv X pins σ H s)(hP:H P=some (.tbl ps))(k:∀ b u,b≠P->s.heap.get? b=some u->h'.get? b=some u)(e:h'.get? P=some {cls:=.none,data:=.fields (ps++more)}) :
  Inv X pins σ (upd H P (.tbl (ps++more))) {s with heap:=h',toks:=t'}:=by
 have nn:∀ b,H b=none->b≠P:=λ b n=>Ne.symm (aF hP n);have nt:∀ b xs,H b=some (.tup xs)->b≠P:=λ b xs q=>ur q hP (λ z=>nomatch z);have nf:∀ b o u,H b=some (.frz o u)->b≠P:=λ b o u q=>ur q hP (λ z=>nomatch z);have no:∀ b y,H b=some (.own y)->b≠P:=λ b y q=>ur q hP (λ z=>nomatch z);refine I.un ⟨λ b o q n _ _=>k b o (nn b n) q,λ b o q n _ _=>⟨o.slots,k b o (nn b n) q⟩,λ b o _ n _=>by rw[aj (nn b n)];exact n,λ b o q _=>?_,λ b xs q=>by rw[aj (nt b xs q)];exact q,λ b o u q=>by rw[aj (nf b o u q)];exact q,λ b qs q=>?_⟩ λ b u q=>?_
 ·by_cases hb:b=P
  ·subst hb;exact⟨_,e⟩
  ·exact⟨o,k b o hb q⟩
 ·by_cases hb:b=P
  ·subst hb;rw[hP] at q;cases q;exact⟨more,aq⟩
  ·exact⟨#[],by rw[aj hb,q];simp⟩
 ·by_cases hb:b=P
  ·subst hb;rw[aq] at q;cases q;exact e
  ·rw[aj hb] at q;exact(I.hok b u q).qh (λ c v hc r=>k c v (by rcases hc with z | z;rw[z];exact hb;exact no c _ z) r) (λ c r=>by rw[aj (no c _ r)];exact r) λ c xs r=>by rw[aj (nt c xs r)];exact r
theorem Inv.hold{D:Addr}{ob:Obj}(I:Inv X pins σ H s)(e:s.heap.get? D=some ob)(hn:H D=none)
  (h0:X.s₀.heap.objs.size<=D)(hL:D≠X.env.locals)(hc:∀ x c,X.env.cells.lookup x=some c->c≠D)(hp:∀ p∈X.pn++pins,p.1≠D):Inv X pins σ (upd H D (.frz ob (.own 0))) s:=by
 have ne:∀ b u,H b=some u->b≠D:=λ b u q=>aF q hn;refine I.step (h':=s.heap) (g':=s.gens) (d':=s.drawn) (t':=s.toks) (ch:=[D]) (λ b hb=>?_) (λ b o _ _ _ q _=>q) (λ b o _ _ _ q _=>⟨o.slots,q⟩) (λ b o hb q n=>?_) (λ b o _ q=>⟨o,q⟩)
  (λ b xs q=>by rw[aj (ne b _ q)];exact q) (λ b o u q=>by rw[aj (ne b _ q)];exact q) (λ b ps q=>⟨#[],by rw[aj (ne b _ q),q];simp⟩) (λ m hm=>hm) (λ b u q=>?_) I.bare
 ·have e:b=D:=by simpa using hb
  subst e;exact⟨.inr h0,hL,hc,hp⟩
 ·rw[aj (λ z=>hb (by simp[z]))];exact n
 ·by_cases hb:b=D
  ·subst hb;rw[aq] at q;cases q;exact⟨e,ob,e⟩
  ·rw[aj hb] at q;exact(I.hok b u q).qh (λ _ _ _ q=>q) (λ c r=>by rw[aj (ne c _ r)];exact r) λ c xs r=>by rw[aj (ne c _ r)];exact r
def ah4(X:Cx)(sc:Scope)(cl:List (Str×Addr)):Prop:=(∀ n c,cl.lookup n=some c->X.env.cells.lookup n=some c)/\∀ n,(n,NameKind.free)∈sc.names->∃ c,cl.lookup n=some c
abbrev nj(ps:Array Value)(lpos:Pos)(c:Addr):Array Value:=ps ++ #[rawInt lpos.line,rawInt lpos.col,.ref c]
def aiT(X:Cx)(P:Addr)(q:Str)(params:Arguments)(body:Expr)(sc:Scope)(lpos:Pos):TE:=λ σ H Q=>∃ ps,H P=some (.tbl ps)/\TriplesOk ps.toList /\
 ((codeAmong lpos ps.toList=none/\∀ c f oc vs t ctv cl,ah4 X sc cl->H c=none->H f=none->c≠f->oc.data=.fields vs->vs[1]? =some (.str q t) ->
   Q (.ref f) (upd (upd (upd H c (.frz oc (.own 0))) P (.tbl (nj ps lpos c))) f (.frz (kla_obj "<lambda>" q params body sc cl ((X.mg "__name__").getD .none) c ctv) (.own 0)))) \/
∃ c o vs t,codeAmong lpos ps.toList=some (.ref c)/\H c=some (.frz o (.own 0))/\o.data=.fields vs/\vs[1]? =some (.str q t)/\∀ f ctv cl,ah4 X sc cl->H f=none ->
   Q (.ref f) (upd H f (.frz (kla_obj "<lambda>" q params body sc cl ((X.mg "__name__").getD .none) c ctv) (.own 0))))
theorem ae1{P cd:Addr}{params:Arguments}{body:Expr}{sc:Scope}{lpos:Pos}{x:Str}{fr:List Nat}(L:pF X sc x fr)(hcode:X.env.code=.ref cd)(hcd:W.codeHdIn X.K cd P=true)(hdef:defaultsOf params X.env=([],[]):=by rfl) :
  PE X (.Lambda params body sc lpos) (aiT X P (X.env.qual ++ "<lambda>") params body sc lpos):=by
 intro pins s σ H Q I h;obtain⟨ps,hP,ht,h⟩:=h;obtain⟨cl,hcl,c1,c2⟩:=i8 (scope:=sc) (env:=X.env) λ y hy hf=>I.ok.has y.1 (L.free y hy hf);refine W.kla_eval hdef ?_;have hg:=I.ok.mod.glob.keeps I.bk;obtain⟨⟨bm,ob,b1,b2,b3,b4,b5,b6⟩,_⟩:=I.ok.mod.bm;have b3':=I.bk _ _ b3;have hPo:s.heap.get? P=some {cls:=.none,data:=.fields ps}:=I.hok P _ hP;have hgP:mainGlobals≠P:=λ z=>by obtain⟨o,es,ep,e,hd,_⟩:=hg;rw[z,hPo] at e;cases e;cases hd
 have hbP:bm≠P:=λ z=>by rw[z,hPo] at b3';cases b3';cases b4
 have hbG:bm≠mainGlobals:=λ z=>by obtain⟨o,es,ep,e,hd,_⟩:=hg;rw[z,e] at b3';cases b3';rw[hd] at b6;cases b6
 have C:=W.codeHd_of_K I.kIn hcd;rcases h with ⟨hnf,h⟩ | ⟨c,o,vs,t,hf,hc,hd,hv,h⟩
 ·refine W.kla_makeFunction (mg:=X.mg) hcl I.ok.glob hg hcode C hPo ht hnf hgP ⟨bm,ob,b1,b2,hbG,hbP,b3',b4,b5,b6⟩ λ c' ctv h' tk hx hge hlt hrec htb=>?_;obtain⟨c₂,oc,vs,t,e2,hoc,hd,hv⟩:=hrec;cases e2;have hcn:H c'=none:=I.hok.fresh hge;have hfn:H h'.objs.size=none:=I.hok.fresh (Nat.le_trans hge (Nat.le_of_lt hlt));have cP:c'≠P:=Ne.symm (aF hP hcn);have I1:=I.acB (t':=tk) hP (λ b u hb e=>hx b u hb e) htb;have I2:=I1.hold hoc (by rw[aj cP];exact hcn) (Nat.le_trans I.sz hge) (λ z=>by obtain⟨m,hn,_⟩:=I.loc;exact absurd (Nat.lt_of_lt_of_le hn.lt hge) (by rw[z];exact Nat.lt_irrefl _))
   (λ y c hy z=>by obtain⟨w,o,ho,_⟩:=I.cell y c hy;exact absurd (Nat.lt_of_lt_of_le (Heap.lt_size ho) hge) (by rw[z];exact Nat.lt_irrefl _))
   (λ p hp z=>by obtain⟨ho,_⟩:=I.pin p hp;exact absurd (Nat.lt_of_lt_of_le (Heap.lt_size ho) hge) (by rw[z];exact Nat.lt_irrefl _))
  have hsw:upd (upd H P (.tbl (nj ps lpos c'))) c' (.frz oc (.own 0))=upd (upd H c' (.frz oc (.own 0))) P (.tbl (nj ps lpos c')):=by
   funext b;unfold upd
   by_cases e1:b=c'
   ·rw[if_pos e1,if_neg (by rw[e1];exact cP),if_pos e1]
   ·rw[if_neg e1,if_neg e1]
  rw[hsw] at I2;have I3:=I2.laid (t':=tk) (o:=.frz (kla_obj "<lambda>" (X.env.qual ++ "<lambda>") params body sc cl ((X.mg "__name__").getD .none) c' ctv) (.own 0)) (h':=h'.push (kla_obj "<lambda>" (X.env.qual ++ "<lambda>") params body sc cl ((X.mg "__name__").getD .none) c' ctv)) (λ b u e=>Heap.get?_push_of_some _ e) (Nat.le_refl _) ⟨Heap.get?_push_size _ rfl,_,Heap.get?_push_size _ rfl⟩;exact⟨.ref _,_,I3,rfl,h c' h'.objs.size oc vs t ctv cl ⟨c1,c2⟩ hcn hfn (Nat.ne_of_lt hlt) hd hv⟩
 ·refine W.kla_makeFunctionHit (mg:=X.mg) hcl I.ok.glob hg hcode C hPo ht hf ⟨bm,ob,b1,b2,hbG,hbP,b3',b4,b5,b6⟩ λ ctv h' tk hk hsz=>?_;have I3:=(I.kept (t':=tk) hk).laid (t':=tk) (o:=.frz (kla_obj "<lambda>" (X.env.qual ++ "<lambda>") params body sc cl ((X.mg "__name__").getD .none) c ctv) (.own 0)) (h':=h'.push (kla_obj "<lambda>" (X.env.qual ++ "<lambda>") params body sc cl ((X.mg "__name__").getD .none) c ctv)) (λ b u e=>Heap.get?_push_of_some _ e) (Nat.le_refl _) ⟨Heap.get?_push_size _ rfl,_,Heap.get?_push_size _ rfl⟩;exact⟨.ref _,_,I3,rfl,h _ ctv cl ⟨c1,c2⟩ (I.hok.fresh hsz)⟩
end
def ag5(X:Cx):Cx:={X with A:=X.A.in1}
theorem Inv.in1(I:Inv X pins σ H s):Inv (ag5 X) pins σ H s:=
 ⟨⟨I.ok.mod,I.ok.kind,I.ok.glob,I.ok.blt,I.ok.above,I.ok.inj,I.ok.has,I.ok.cab,I.ok.hd,I.ok.frames,I.ok.stk,I.ok.exf,I.ok.bs,I.ok.bsz,I.ok.noex,I.ok.exfs,I.ok.nI,I.ok.frf⟩,I.os,I.bare,I.base,I.loc,I.cell,I.free,I.freeC,I.pin,I.hok,I.len⟩
theorem Inv.aiQ(I:Inv (ag5 X) pins σ H s):Inv X pins σ H s:=
 ⟨⟨I.ok.mod,I.ok.kind,I.ok.glob,I.ok.blt,I.ok.above,I.ok.inj,I.ok.has,I.ok.cab,I.ok.hd,I.ok.frames,I.ok.stk,I.ok.exf,I.ok.bs,I.ok.bsz,I.ok.noex,I.ok.exfs,I.ok.nI,I.ok.frf⟩,I.os,I.bare,I.base,I.loc,I.cell,I.free,I.freeC,I.pin,I.hok,I.len⟩
theorem Inv.aan(I:Inv X pins σ H s)(f:iE X pins H it)(k:∀ b o,b≠it->s.heap.get? b=some o->h'.get? b=some o):Inv X pins σ H {s with heap:=h',toks:=t'}:=
 I.turned k f.1 f.2.1 f.2.2.2.1 f.2.2.2.2.1 f.2.2.2.2.2
theorem Inv.aiZ(I:Inv X pins σ H s)(fa:iE X pins H a)(fb:iE X pins H b)(ea:s.heap.get? a=some oa)(eb:s.heap.get? b=some ob)(ca:∀ v,oa.data ≠ .cell v)(cb:∀ v,ob.data ≠ .cell v):Inv X ((a,oa)::(b,ob)::pins) σ H s:=
 I.dN λ p hp=>by
  rcases List.mem_cons.mp hp with e | hp
  ·subst e;exact⟨ea,fa.1,fa.2.1,fa.2.2.1,ca⟩
  rcases List.mem_cons.mp hp with e | hp
  ·subst e;exact⟨eb,fb.1,fb.2.1,fb.2.2.1,cb⟩
  ·exact I.pin p (List.mem_append_right _ hp)
theorem Inv.af1(I:Inv X ((a,oa)::(b,ob)::pins) σ H s):Inv X pins σ H s/\(s.heap.get? a=some oa/\H a=none)/\s.heap.get? b=some ob/\H b=none:=
 have pa:=I.pin (a,oa) (List.mem_append_right _ (.head _));have pb:=I.pin (b,ob) (List.mem_append_right _ (.tail _ (.head _)))
 ⟨I.dN λ p hp=>I.pin p (List.mem_append_right _ (.tail _ (.tail _ hp))),⟨pa.1,pa.2.1⟩,pb.1,pb.2.1⟩
end L2
namespace D
open L2
open PySem.W (kla_obj kla_fn)
def ab9(w:W)(fr:List Nat)(τ:DS):DS:=some w::fr.map λ j=>(τ[j]?).getD none
section
variable {X:Cx}{K:FG}
theorem acd{H:Hp}{σ:St}{τ:DS}{M:MH}{v:V}{w:W}(A:Abs K H σ τ M)(r:aB K H w v)(fr:List Nat):Abs K H (afg v fr σ) (ab9 w fr τ) M:=(sO A 1 fr).set 0 r
theorem mW{M:MH}{a:Addr}{o:MO}(h:M a=some o):bN M a o=M:=by
 funext b
 by_cases e:b=a
 ·rw[e,ah,h]
 ·rw[aw e]
theorem vc{H:Hp}{M:MH}{P c:Addr}{ps:Array Value}{q:Str}{lpos:Pos}{oc:Obj}{vs:Array Value}{t:Tok}(m:cf K H M)(hP:M P=some (.code q lpos))(hT:H P=some (.tbl ps))(ht:TriplesOk ps.toList)(hn:codeAmong lpos ps.toList=none)(hc:H c=none)(hd:oc.data=.fields vs)(hv:vs[1]? =some (.str q t)) :
  Kp H (upd (upd H c (.frz oc (.own 0))) P (.tbl (nj ps lpos c)))/\cf K (upd (upd H c (.frz oc (.own 0))) P (.tbl (nj ps lpos c))) M:=by
 have cP:c≠P:=Ne.symm (aF hT hc);have hT':upd H c (.frz oc (.own 0)) P=some (.tbl ps):=by rw[aj (Ne.symm cP)];exact hT
 have k2:Kp (upd H c (.frz oc (.own 0))) (upd (upd H c (.frz oc (.own 0))) P (.tbl (nj ps lpos c))):=Kp.set hT' (λ _ z=>nomatch z) (λ _ _ z=>nomatch z);refine⟨(Kp.new hc).trans k2,?_⟩;have e:(nj ps lpos c).toList=ps.toList++[rawInt lpos.line,rawInt lpos.col,.ref c]:=by simp[nj]
 have:=(m.new (o:=.frz oc (.own 0)) hc).put (mo:=.code q lpos) k2 ⟨_,aq,by rw[e];exact TriplesOk_snoc _ _ _ _ ht,.inr ⟨c,oc,vs,t,by rw[e];exact codeAmong_snoc _ ht hn,by rw[aj cP,aq],hd,hv⟩⟩;rw[mW hP] at this;exact this
variable {P cd:Addr}{q x:Str}{lpos pos p kpos:Pos}{params:Arguments}{body o:Expr}{sc:Scope}{fr:List Nat}{to tb:TD}{k:Nat}
theorem aey.keep{H H':Hp}{q x:Str}{params:Arguments}{body:Expr}{sc:Scope}{cl:List (Str×Addr)}{pm:Value}{f:Addr}(h:aey H q x params body sc cl pm f)(kp:Kp H H'):aey H' q x params body sc cl pm f:=by obtain⟨c,ctv,oc,vs,t,h1,h2,h3,h4⟩:=h;exact⟨c,ctv,oc,vs,t,kp.frz _ _ _ h1,kp.frz _ _ _ h2,h3,h4⟩
end
end D
namespace L2
def zQ(ts:List Addr)(H:Hp):Prop:=∀ b,H b=none\/(∃ o xs,H b=some (.frz o (.lst xs)))\/(b∈ts/\H b=some (.tbl #[]))
theorem xv{P:Program}{w:World}{K:FG}{mg mb:Str->Option Value}{CX:CXT}{k:Nat}{fa a:Addr}{fd:FuncData}{x:Str}{sp:Sp}{s₁:Shared}{vs:List Value}{ns:List Int}
  (KX:K.In s₁.heap)(hns:s₁.heap.Ns mainGlobals mg)(hb:s₁.heap.Ns builtinsNs mb)(hbb:∀ x:Str,x ≠ "__name__" -> mb x=bootBuiltins x)(hlim:s₁.heap.NoLimit)(hbm:BM mg s₁.heap)(hg:s₁.gens = #[])
  (ha:s₁.heap.get? a=some {cls:=.type "list",data:=.seq vs.toArray})(hi:IntsAre vs ns)(hl:ns.length<=sizeLine)(hr:cY k callerA)(ts:List Addr)(hts:∀ T∈ts,(∃ c,W.codeHdIn K c T=true)/\K.lookup T=none/\s₁.heap.get? T=some {cls:=.none,data:=.fields #[]})
  (F:∀ base:Heap,K.In base->base.Ns mainGlobals mg->cy P w K mg base CX k fa fd [x] sp)(hbind:∀ (s:Shared) (u:Value),BindsTo s fd ⟨[u],[]⟩ [(x,u)])
  (hsp:∀ H:Hp,zQ ts H->(∀ T∈ts,H T=some (.tbl #[]))->SqL K H a (ns.map V.int)->sp [.ref a] H (λ v _=>v=.bl true) λ _ _ _=>False)
  (hCX:∀ H e s',CX [] H s₁ (λ _ _ _=>False) e s'->False) :
  codeAny (model P w) callerA (.call (.ref fa) ⟨[.ref a],[]⟩) (λ r s'=>r=.ok (.ret (.bool true))/\OldK s₁.heap s'.heap/\s'.os=s₁.os/\AllBare s'.gens) s₁:=by
 have rv:=d6 hi;have lenV:=hi.length;have at':∀ T∈ts,T≠a:=λ T hT e=>by have h:=(hts T hT).2.2;rw[e,ha] at h;cases h
 have core:∀ H:Hp,zQ ts H->(∀ T∈ts,H T=some (.tbl #[]))->SqL K H a (ns.map V.int)->HOk P w H s₁.heap->(∀ b,H b≠none->b=a\/b∈ts)->(H a≠none->K.lookup a=none) ->
   codeAny (model P w) callerA (.call (.ref fa) ⟨[.ref a],[]⟩) (λ r s'=>r=.ok (.ret (.bool true))/\OldK s₁.heap s'.heap/\s'.os=s₁.os/\AllBare s'.gens) s₁:=by
  intro H hO hTb hS hok hA hK;have iD:∀ {b:Addr} {o:Obj},s₁.heap.get? b=some o->H b=none->(zK s₁.heap H).get? b=some o:=λ e n=>aaE e n;have noA:∀ {b:Addr} {o:Obj} {es:Array DictEntry} {ep:Nat},s₁.heap.get? b=some o->o.data=.dict es ep->H b=none:=λ {b o es ep} e d=>by
   cases q:H b with
   | none=>rfl
   | some u =>
    rcases hA b (by rw[q];simp) with e' | e'
    ·subst e';rw[ha] at e;cases e;have d':Data.seq vs.toArray _=Data.dict es ep:=d;cases d'
    ·rw[(hts b e').2.2] at e;cases e;have d':Data.fields _=Data.dict es ep:=d;cases d'
  have nsK:∀ {b:Addr} {m:Str->Option Value},s₁.heap.Ns b m->(zK s₁.heap H).Ns b m:=λ {b m} ⟨o,es,ep,e,d,r⟩=>⟨o,es,ep,iD e (noA e d),d,r⟩;have hKb:K.In (zK s₁.heap H):=λ b o e=>iD (KX b o e) (by
   cases q:H b with
   | none=>rfl
   | some u =>
    rcases hA b (by rw[q];simp) with e' | e'
    ·subst e';rw[hK (by rw[q];simp)] at e;cases e
    ·rw[(hts b e').2.1] at e;cases e)
  have hM:Mod K mg (zK s₁.heap H):=⟨hKb,nsK hns,⟨mb,nsK hb,hbb⟩,let ⟨mc,h1,h2⟩:=hlim; ⟨mc,nsK h1,h2⟩,let ⟨⟨b,o,h1,h2,h3,h4,h5,h6⟩,mm,hmm⟩:=hbm; ⟨⟨b,o,h1,h2,iD h3 (by cases q:H b with | none=>rfl | some u=>(rcases hA b (by rw[q];simp) with e' | e'; (subst e';rw[ha] at h3;cases h3;cases h6); (rw[(hts b e').2.2] at h3;cases h3;cases h6))),h4,h5,h6⟩,mm,nsK hmm⟩⟩;have e0:adm P w K mg (zK s₁.heap H) callerA [] s₁ H:=⟨rfl,hM,λ b o e=>adt e,Nat.le_of_eq (ya _ _),trivial,λ b hb=>absurd (show b∈([]:List Addr) from hb) (by simp),hok,.of_eq hg⟩;refine codeAny_mono ((F _ hKb (nsK hns)).run callerA [] s₁ H ⟨[.ref a],[]⟩ [.ref a] [.ref a] _ _ hr e0 (hbind s₁ (.ref a)) (.cons rfl .nil) (hsp H hO hTb hS)) λ r s' h=>?_;cases r with
  | error e=>exact(hCX H e s' h).elim
  | ok fl =>
   cases fl with
   | next=>exact False.elim h
   | brk=>exact False.elim h
   | cont=>exact False.elim h
   | ret u =>
    obtain⟨v,H',os,bare,un,hok',r',q⟩:=h;have q':v=.bl true:=q;subst q';obtain rfl:u=Value.bool true:=r';have old:∀ b o,s₁.heap.get? b=some o->s'.heap.get? b=some o\/∃ more,b∈ts/\s'.heap.get? b=some {cls:=.none,data:=.fields (#[]++more)}:=λ b o e=>?_;refine⟨rfl,⟨λ b o e=>?_,λ b o e=>(old b o e).elim (λ z=>⟨_,z⟩) λ⟨_,_,z⟩=>⟨_,z⟩⟩,os,bare⟩
    ·rcases old b o e with z | ⟨more,hb,z⟩
     ·exact .inl z
     ·obtain⟨⟨c,hc⟩,_,h3⟩:=hts b hb;rw[h3] at e;cases e;exact .inr (.inl ⟨((W.codeHd_of_K KX hc).tab h3).isCodeTable,rfl,#[],more,rfl,z⟩)
    cases q:H b with
    | none=>exact .inl <| un.keep b o e q (by intro z;exact absurd (show b∈([]:List Addr) from z) (by simp)) (by simp)
    | some u =>
     rcases hO b with z | ⟨ob,xs,z⟩ | ⟨hb,z⟩
     ·rw[q] at z;cases z
     ·refine .inl ?_;have z2:=un.frzs b ob _ z;obtain⟨e1,_⟩:=hok b _ z;obtain⟨e2,_⟩:=hok' b _ z2;rw[e] at e1;cases e1;exact e2
     ·obtain⟨more,z2⟩:=un.tbls b _ z;exact .inr ⟨more,hb,hok' b _ z2⟩
 cases hk:K.lookup a with
 | some o =>
  have e:=KX a o hk;rw[ha] at e;cases e;refine core (λ b=>if b∈ts then some (.tbl #[]) else none) (λ b=>?_) (λ T hT=>if_pos hT) (.inr ⟨_,vs.toArray,_,hk,rfl,rfl,rfl,by rw[List.size_toArray,lenV];exact hl,by simpa using rv⟩) (λ b u z=>?_) (λ b z=>?_) λ z=>absurd (if_neg λ h=>at' a h rfl) z
  ·by_cases hb:b∈ts
   ·exact .inr (.inr ⟨hb,if_pos hb⟩)
   ·exact .inl (if_neg hb)
  ·by_cases hb:b∈ts
   ·have z':=(if_pos hb).symm.trans z;cases z';exact(hts b hb).2.2
   ·have z':=(if_neg hb).symm.trans z;cases z'
  ·by_cases hb:b∈ts
   ·exact .inr hb
   ·exact absurd (if_neg hb) z
 | none =>
  refine core (λ b=>if b=a then some (.frz {cls:=.type "list",data:=.seq vs.toArray} (.lst (ns.map V.int))) else if b∈ts then some (.tbl #[]) else none) (λ b=>?_) (λ T hT=>(if_neg (at' T hT)).trans (if_pos hT)) (.inl (.inr ⟨{cls:=.type "list",data:=.seq vs.toArray},if_pos rfl⟩)) (λ b u z=>?_) (λ b z=>?_) λ _=>hk
  ·by_cases hb:b=a
   ·exact .inr (.inl ⟨_,_,if_pos hb⟩)
   ·by_cases hb2:b∈ts
    ·exact .inr (.inr ⟨hb2,(if_neg hb).trans (if_pos hb2)⟩)
    ·exact .inl ((if_neg hb).trans (if_neg hb2))
  ·by_cases hb:b=a
   ·have z':=(if_pos hb).symm.trans z;cases z';subst hb;exact⟨ha,by rw[List.length_map];exact hl,vs,_,rv,ha⟩
   ·have z0:=(if_neg hb).symm.trans z
    by_cases hb2:b∈ts
    ·have z':=(if_pos hb2).symm.trans z0;cases z';exact(hts b hb2).2.2
    ·have z':=(if_neg hb2).symm.trans z0;cases z'
  ·by_cases hb:b=a
   ·exact .inl hb
   ·by_cases hb2:b∈ts
    ·exact .inr hb2
    ·exact absurd ((if_neg hb).trans (if_neg hb2)) z
theorem zB{l:W.OpenLaw}{n k:Nat}{q:Program}{loose:List Str}{XP:(Str->Option Value)->Heap->Prop}{YP:World->Heap->Prop}{d:DefRec}{K:Params->FG}{CX:World->CXT}{sp:World->Sp}{x:Str}
  (hq:importsNone q=true)(hn:l.most=some n)(hn2:n<=sizeLine)(hdf:d.params.defaults=[])(hr:cY k callerA)
  (ts:List Addr)(hT:∀ w:World,∀ T∈ts,(∃ c,W.codeHdIn (K w.params) c T=true)/\(K w.params).lookup T=none)(hY:∀ (w:World) (h:Heap),YP w h->(K w.params).In h/\∀ T∈ts,h.get? T=some {cls:=.none,data:=.fields #[]})
  (F:∀ (w:World) (mg:Str->Option Value) (fa:Addr) (h:Heap),(K w.params).In h->h.Ns mainGlobals mg->mg d.name=some (.ref fa) ->
   ∃ fd:FuncData,(∀ (s:Shared) (u:Value),BindsTo s fd ⟨[u],[]⟩ [(x,u)]) /\
    ∀ base:Heap,(K w.params).In base->base.Ns mainGlobals mg->cy l.prog w (K w.params) mg base (CX w) k fa fd [x] (sp w))
  (hsp:∀ (w:World) (H:Hp) (a:Addr) (ns:List Int),ns.length<=n->zQ ts H->(∀ T∈ts,H T=some (.tbl #[]))->SqL (K w.params) H a (ns.map V.int)->sp w [.ref a] H (λ v _=>v=.bl true) λ _ _ _=>False)
  (hCX:∀ (w:World) (H:Hp) (s:Shared) (e:Value) (s':Shared),CX w [] H s (λ _ _ _=>False) e s'->False) :
  W.WalkO q loose XP YP l.row.toRowW d [] (λ f vs=>PySem.call f vs):=by
 refine Att.qw hn hdf λ w s₀ s₁ mg mb fa o pm cd doc a vs ns G Y ho hd hcd hmg hobj hints hlen hg=>?_;obtain⟨KX,hTb⟩:=hY w _ Y;obtain⟨fd,hb,hF⟩:=F w mg fa _ KX G.T.g hmg;exact xv KX G.T.g G.T.b G.T.builtins G.T.nolimit (let ⟨bm,ob,b1,b2,b3,b4,b5,b6⟩:=G.T.bmain;let ⟨mm,hmm,_⟩:=(G.T.seer hq).mods; ⟨⟨bm,ob,b1,b2,b3,b4,b5,b6⟩,mm,hmm⟩) hg hobj hints (Nat.le_trans hlen hn2) hr ts (λ T h=>⟨(hT w T h).1,(hT w T h).2,hTb T h⟩) hF hb (λ H hO hB hS=>hsp w H a ns hlen hO hB hS) λ H e s'=>hCX w H s₁ e s'
end L2
namespace D
open L2
section
variable {P:Program}{w:World}{K:FG}{mg:Str->Option Value}{base:Heap}
theorem acZ{x qual:Str}{st:Stmt}{f cd:Addr}{N ps:List Str}{k:Nat}{sp:SpD}{t:TSd}(F:Fun K x qual st f fd)(hcd:fd.code=.ref cd)(S:aH N ps (ao st))(len:∀ ws M Q,sp ws M Q->ws.length=ps.length)
  (hbody:∀ (A:Around) (outer:List Env) (s:Shared) (H:Hp) (E:XK),cY k (A.deeper (envOfC qual (ao st) s.heap.objs.size f (.ref cd)))->lb (uV CX0 P w K mg base N qual (ao st) f (.ref cd) A outer s H E).nox (aM st) t)
  (read:∀ ws M Q,sp ws M Q->t {nx:=λ _ M'=>Q (.d .none) M',rt:=Q} (bw N ws) M):cy P w K mg base CX0 (k+1) f fd ps (dg K sp):=by
 obtain⟨oc,od,kV,doc,pm,an,cdv,ct,osl,e,lk,hcdv⟩:=F.ex;subst e;have e2:cdv=.ref cd:=hcd;subst e2;refine aap lk hcdv S (λ vs H Q E h=>?_) (λ A outer s H vs Q E hr h=>?_)
 ·obtain⟨ws,M,Qd,r,_,q,_⟩:=h;rw[<- r.length];exact len _ _ _ q
 ·obtain⟨ws,M,Qd,r,m,q,kk⟩:=h;refine⟨_,(hbody A outer s H E hr).nox,bw N ws,M,_,gO r m,read ws M Qd q,λ σ' H' τ' M' kp A' q'=>?_,λ v H' w' M' kp r' m' q'=>?_,λ σ' H' τ' M' kp A' q'=>q'.elim,λ σ' H' τ' M' kp A' q'=>q'.elim⟩
  ·exact kk _ H' _ M' kp (by simp[aB,ay]) A'.mem q'
  ·exact kk v H' w' M' kp r' m' q'
end
def M1T(T:Addr)(q:Str)(lpos:Pos):MH:=λ b=>if b=T then some (.code q lpos) else none
theorem um{K:FG}{H:Hp}{a T:Addr}{q:Str}{lpos:Pos}{ns:List Int}{sp:SpD}(hl:ns.length<=63)(hO:L2.zQ [T] H)(hT:∀ x∈[T],H x=some (.tbl #[]))(hS:L2.SqL K H a (ns.map V.int))(h:∀ ns:List Int,ns.length<=63->sp [.d (.list (ns.map PyData.int))] (M1T T q lpos) (λ w _=>w=.d (.bool true))) :
  dg K sp [.ref a] H (λ v _=>v=.bl true) λ _ _ _=>False:=by
 refine⟨[.d (.list (ns.map PyData.int))],M1T T q lpos,_,.cons ?_ .nil,λ a o z=>?_,h ns hl,λ v H' w M' kp r m q=>?_⟩
 ·simp only[aB,ay];refine⟨a,_,rfl,?_,aT.ints ns⟩;rcases hS with (h | h) | h
  ·rcases hO a with z | ⟨ob,xs,z⟩ | ⟨_,z⟩
   ·rw[h] at z;cases z
   ·rw[h] at z;cases z
   ·rw[h] at z;cases z
  ·exact .inl h
  ·exact .inr h
 ·unfold M1T at z
  split at z
  ·cases z
   rename_i e
   subst e;exact⟨#[],hT _ (by simp),trivial,.inl rfl⟩
  ·cases z
 ·subst q;simp only[aB,ay] at r;exact r
def abo(sc scX:Scope)(x:Str)(N:List Str)(fr:List Nat):Bool:=
 (sc.kind==.function)&&!sc.isCoroutine&&!sc.isGenerator&&sc.names.all (λ y=>!(y.2==.cell))&&sc.names.all (λ y=>!(y.2==.free) || scX.names.lookup y.1==some .cell || scX.names.lookup y.1==some .free) &&
  (sc.names.lookup x==some .local)&&ae0 N sc fr
theorem ahn(h:abo sc X.env.scope x X.N fr=true):pF X sc x fr:=by
 simp only[abo,Bool.and_eq_true,Bool.not_eq_true'] at h;obtain⟨⟨⟨⟨⟨⟨h1,h2⟩,h3⟩,h4⟩,h5⟩,h6⟩,h7⟩:=h;refine⟨eq_of_beq h1,h2,h3,λ y hy e=>?_,λ y hy e=>?_,eq_of_beq h6,h7⟩
 ·have:=List.all_eq_true.mp h4 y hy;simp[e] at this
 ·have:=List.all_eq_true.mp h5 y hy;simp only[e,beq_self_eq_true,Bool.not_true,Bool.false_or,Bool.or_eq_true] at this;rcases this with z | z
  ·exact .inl (eq_of_beq z)
  ·exact .inr (eq_of_beq z)
theorem get_dict(hu:X.A.units+1<cLine):ahx X (λ o i H Q=>∃ a kvs k v,o=.ref a/\i=kV k/\H a=some (.dK kvs)/\tI kvs k=some v/\Q v H):=by intro pins s σ H o i ov iv Q I ro ri h;obtain⟨a,kvs,k,v,eo,ei,e,l,q⟩:=h;subst eo ei;cases (show ov=Value.ref a from ro);exact(mi hu I (.inl (.inl e)) l ri λ w' s' I' r'=>⟨v,H,I',r',q⟩).2
def aeJ(to ti te:TD)(f:Int->Int->Int)(D:Ed)(τ:DS)(M:MH):Prop:=to τ M λ w M1=>ti τ M1 λ w' M2=>∃ a kvs k n,w=.m a/\w'=kW k/\M2 a=some (.dic kvs)/\gJ kvs k=some (.d (.int n))/\kvs.length<sizeLine /\
 te τ M2 λ y M3=>∃ n',y=.d (.int n')/\M3=M2/\D.nx τ (bN M3 a (.dic (lQ kvs k (.d (.int (f n n'))))))
theorem vR(hu:X.A.units+1<cLine)(ho:Jd (PD X o to))(hi:Jd (PD X i ti))(he:Jd (PD X e te))(hp:PIp X op (ipI f))
  (ha:∀ ov iv new,augStore i ov iv new=(do holding [new,ov,iv] (setItem ov iv new);release [new,ov,iv] [];pure .next):=by intros;rfl):Jd (PSd X (.AugAssign (.Subscript o i tpos) op e pos) (aeJ to ti te f)):=⟨have ho:=ho.h;have hi:=hi.h;have he:=he.h;
 tH (yH ho hi (get_dict hu) he hp (set_dict hu) ha) λ D σ H h=>by
  obtain⟨τ,M,Dd,A,h,k1,_⟩:=h;refine⟨τ,M,_,A,h,λ x H1 wo M1 kp1 r1 m1 q1=>⟨τ,M1,_,A.go kp1 m1,q1,λ y H2 wi M2 kp2 r2 m2 q2=>?_⟩⟩;obtain⟨a,kvs,key,n,e1,e2,hm,hn,hl,q⟩:=q2;subst e1;subst e2;simp only[aB] at r1;obtain⟨l,e3,pr⟩:=m2 a _ hm;have g:=ki key pr;rw[hn] at g;obtain⟨b,eb,rb⟩:=OR.some_of g;simp only[aB,ay] at rb;refine⟨a,l,key,b,r1,iV r2,e3,eb,?_⟩;refine⟨τ,M2,_,A.go (kp1.trans kp2) m2,q,λ z H3 wz M3 kp3 r3 m3 q3=>?_⟩;obtain⟨n',e5,e6,qn⟩:=q3;subst e5;subst e6;simp only[aB,ay] at r3;refine⟨n,n',rb,r3,?_⟩;obtain⟨l',e3',pr'⟩:=m3 a _ hm;have kp:=(kp1.trans kp2).trans kp3;have kp4:Kp H3 (upd H3 a (.dK (putK l' key (.int (f n n'))))):=Kp.set e3' (λ _ z=>nomatch z) (λ _ _ z=>nomatch z);refine⟨a,_,r1,.inl ⟨l',key,e3',iV r2,by rw[<- ue pr'];exact hl,rfl⟩,?_⟩;have rv':aB X.K H3 (.d (.int (f n n'))) (.int (f n n')):=by simp[aB,ay]
  refine k1 σ _ τ _ (kp.trans kp4) (A.go (kp.trans kp4) (m3.put (mo:=.dic (lQ kvs key (.d (.int (f n n'))))) kp4 ⟨_,aq,?_⟩)) qn;exact Paired.iu (xn key rv' pr') λ p q z=>⟨z.1,z.2.keep kp4⟩⟩
section
variable {X:Cx}{K:FG}
theorem wq:∀ {us:List Value} {ns:List Int},IntsAre us ns->∀ (i:Nat) (v:Value),us[i]? =some v->∃ n t,ns[i]? =some n/\v=.int n t
 | _,_,.nil,i,v,e=>by simp at e
 | _,_,.cons n t h,0,v,e=>by simp at e;exact⟨n,t,rfl,e.symm⟩
 | _,_,.cons n t h,i+1,v,e=>by obtain⟨m,t',e1,e2⟩:=wq h i v (by simpa using e);exact⟨m,t',by simpa using e1,e2⟩
theorem ada:∀ {ns:List Int} {kvs:List (Key×V)} {vs:List (Key×Value)},KV kvs vs->kvs.map (·.2)=ns.map V.int->IntsAre (vs.map (·.2)) ns:=λ {ns kvs vs} r h=>by
 refine d6 r h (by simp) λ i v hi=>?_;rw[List.getElem?_map] at hi;cases e:vs[i]? with
 | none=>rw[e] at hi;cases hi
 | some p=>rw[e] at hi;cases hi;exact⟨p.1,rfl⟩
variable {o e:Expr}{to:TE}{td te:TD}{apos cpos p pos:Pos}
end
end D
set_option maxHeartbeats 0
namespace D
open L2
section
variable {X:Cx}{a b:Expr}{rest:List Expr}{pos:Pos}{ta tb:TE}
end
section
variable {X:Cx}{K:FG}{e:Expr}{te:TE}{p pos kpos kp:Pos}{j:Nat}
end
section
variable {X:Cx}{a b o e:Expr}{rest:List Expr}{ta tb td te:TD}{apos cpos p pos kpos kp:Pos}{j:Nat}
end
section
variable {X:Cx}{K:FG}{pins:PN}{σ:St}{H:Hp}{s:Shared}
end
theorem kZ(ns:List Int):∀ k,k<=ns.length->preSum (λ i=>(ns[i]?).getD 0) k=(ns.take k).sum
 | 0,_=>by simp[preSum]
 | k+1,h=>by
  rw[kj,kZ ns k (by omega),List.take_succ,List.sum_append];have hk:k<ns.length:=by omega
  simp[List.getElem?_eq_getElem hk]
theorem xE(hc:X.calm=true):dk X (.builtin "sum") (λ xs H Q=>∃ v a kvs,∃ ns:List Int,xs=[.ref v]/\H v=some (.ext λ h=>h.IsValuesView v a)/\Rd H a (.dK kvs)/\kvs.map (·.2)=ns.map V.int/\Q (.int ns.sum) H):=by
 intro pins s σ H xs us Q I r h;obtain⟨v,a,kvs,ns,rfl,hv,hr,hk,q⟩:=h;obtain⟨u,rfl,rx⟩:=vals1 r;cases (show u=Value.ref v from rx);obtain⟨hsz,hsys,vs,rel,oo,es,ep,hd⟩:=hr.ok I.hok;obtain⟨hview,_⟩:=(show bY X.prog X.w H s.heap v (.ext λ h=>h.IsValuesView v a) from I.hok v _ hv);have hI:=ada rel hk;have hln:vs.length=ns.length:=by simpa using hI.length
 have src:=W.kdl_values (prog:=X.prog) (w:=X.w) (knd:=aN X.prog X.w) (r:=v) (d:=a) (kvs:=vs) (ep:=ep);have there:=(src.there s.heap ⟨hview,⟨oo,es,hd⟩⟩).2;obtain⟨oI,St,hit,W,st⟩:=src.iter X.A.in1 s (I.ok.hd hc) ⟨hview,⟨oo,es,hd⟩⟩;refine call_sum_walkG (hit _ _ ⟨s.heap.objs.size,_,_,vs.length,_,_,λ i=>(ns[i]?).getD 0,rfl,W,st,λ b hb=>?_,λ i x hP=>?_,λ h' tk t' hk'=>?_⟩)
 ·have z:b=s.heap.objs.size\/b=a:=by simpa using hb
  show b<(s.heap.push oI).objs.size;rw[Heap.size_push];rcases z with z | z
  ·rw[z];exact Nat.lt_succ_self _
  ·rw[z];exact Nat.lt_succ_of_lt there
 ·obtain⟨k,hx⟩:=hP;obtain⟨n,t,e1,rfl⟩:=wq hI i x (by rw[List.getElem?_map,hx];rfl);exact⟨t,by show Value.int n t=Value.int ((ns[i]?).getD 0) t;rw[e1];rfl⟩
 ·have e:preSum (λ i=>(ns[i]?).getD 0) vs.length=ns.sum:=by rw[kZ ns _ (by omega),hln,List.take_length]
  rw[e];exact⟨.int _,H,I.kept (LSm.kept_iter hk'),⟨_,rfl⟩,q⟩
def aie(xs:List V)(H:Hp)(Q:VK):Prop:=∃ v a kvs,∃ ns:List Int,xs=[.ref v]/\H v=some (.ext λ h=>h.IsValuesView v a)/\Rd H a (.dK kvs)/\kvs.map (·.2)=ns.map V.int/\Q (.int ns.sum) H
theorem adl(hc:X.calm=true)(hg:Gl X "sum")(hm:X.mg "sum" = none)(ho:PE X o to)(hbase:attributeBase o "values" X.env (eval o X.env)=eval o X.env:=by rfl)(hline:(apos.endLine==cpos.line)=true:=by rfl) :
  PE X (.Call (.Name "sum" p) [.Call (.Attribute o "values" apos) [] [] cpos] [] pos) (tCB aie (n5 (zz to) abV)):=
 nD (xE hc) hg hm su (fL (zg ho hbase hline) km) (by decide) (by decide) (bT _ [] X.env rfl) (cC pos X.env [] rfl)
def agU(td:TD)(τ:DS)(M:MH)(Q:QD):Prop:=td τ M λ w M1=>∃ a kvs,∃ ns:List Int,w=.m a/\M1 a=some (.dic kvs)/\kvs.map (·.2)=fE ns/\Q (.d (.int ns.sum)) M1
theorem aaz(hc:X.calm=true)(hg:Gl X "sum")(hm:X.mg "sum" = none)(ho:Jd (PD X o td))(hbase:attributeBase o "values" X.env (eval o X.env)=eval o X.env:=by rfl)(hline:(apos.endLine==cpos.line)=true:=by rfl) :
  Jd (PD X (.Call (.Name "sum" p) [.Call (.Attribute o "values" apos) [] [] cpos] [] pos) (agU td)):=⟨have ho:=ho.h;fN (adl hc hg hm ho hbase hline) λ σ H Q hq108=>by
 obtain⟨τ,M,Qd,A,h,k⟩:=hq108;refine⟨τ,M,_,A,h,λ x H1 w M1 kp1 r1 m1 hq109=>?_⟩;obtain⟨a,kvs,ns,ew,hmm,hk,q⟩:=hq109;subst ew;obtain⟨l,e,pr⟩:=m1 _ _ hmm;refine⟨a,l,r1,.inl e,λ v hv=>?_⟩;have na:a≠v:=λ z=>by rw[z,hv] at e;cases e
 have kp2:Kp H1 (upd H1 v (.ext λ h=>h.IsValuesView v a)):=Kp.new hv;exact⟨v,a,l,ns,rfl,aq,.inl (by rw[aj na];exact e),rD hk pr,kgo k kp1 _ _ (.d (.int _)) _ kp2 (by simp[aB,ay]) (m1.new hv) q⟩⟩
section
variable {K:FG}
end
abbrev PFn(K:FG)(x:Str)(st:Stmt):Prop:=∃ (f:Addr) (oc kV dc pm cd ct:Value) (od an:Option Addr) (sl:Array (Option Value)),W.nsIn K mainGlobals x=some (some (.ref f))/\K.lookup f=some ⟨oc,od,.func (W.fnOf x x (bh st) (aM st) (ao st) .none kV dc pm an cd ct),sl⟩/\W.codeIn K cd x=true/\W.keepIn K (.ref f)=true
abbrev PMf(K:FG)(C:Addr)(m x:Str)(st:Stmt):Prop:=∃ (f:Addr) (oc kV dc pm cd ct:Value) (od an:Option Addr) (sl:Array (Option Value)),W.findIn K (.ref C) m=some (some (.ref f))/\W.isFn K (.ref f)=true/\K.lookup f=some ⟨oc,od,.func (W.fnOf m x (bh st) (aM st) (ao st) .none kV dc pm an cd ct),sl⟩/\W.codeIn K cd x=true/\W.keepIn K (.ref f)=true
theorem aeT{K:FG}{x:Str}{st:Stmt}{f:Addr}{oc kV dc pm cd ct:Value}{od an:Option Addr}{sl:Array (Option Value)}(a:W.nsIn K mainGlobals x=some (some (.ref f)))(l:K.lookup f=some ⟨oc,od,.func (W.fnOf x x (bh st) (aM st) (ao st) .none kV dc pm an cd ct),sl⟩)(c:W.codeIn K cd x=true)(k:W.keepIn K (.ref f)=true):PFn K x st:=⟨_,_,_,_,_,_,_,_,_,_,a,l,c,k⟩
theorem agJ{K:FG}{C:Addr}{m x:Str}{st:Stmt}{f:Addr}{oc kV dc pm cd ct:Value}{od an:Option Addr}{sl:Array (Option Value)}(a:W.findIn K (.ref C) m=some (some (.ref f)))(i:W.isFn K (.ref f)=true)(l:K.lookup f=some ⟨oc,od,.func (W.fnOf m x (bh st) (aM st) (ao st) .none kV dc pm an cd ct),sl⟩)(c:W.codeIn K cd x=true)(k:W.keepIn K (.ref f)=true):PMf K C m x st:=⟨_,_,_,_,_,_,_,_,_,_,a,i,l,c,k⟩
theorem PFn.fn{K:FG}{h:Heap}{mg:Str->Option Value}{x:Str}{st:Stmt}{ps:List Str}(p:PFn K x st)(X:K.In h)(G:h.Ns mainGlobals mg)
  (b:∀ (kV doc pm:Value) (an:Option Addr) (cdv ct:Value) (us:List Value),us.length=ps.length->bindArgs (W.fnOf x x (bh st) (aM st) (ao st) .none kV doc pm an cdv ct) ⟨us,[]⟩=pure (ps.zip us)):∃ f fd,Fn K mg x st ps f fd:=
 let ⟨f,_,_,_,_,_,_,_,_,_,a,l,c,k⟩:=p; ⟨f,_,adb X G a l c k b⟩
abbrev ZZ(P:Program)(w:World)(K:FG)(mg:Str->Option Value)(base:Heap)(F:Addr->FuncData->Prop)(n:Nat)(ps:List Str)(sp:SpD):Prop:=∃ f fd,F f fd/\cy P w K mg base CX0 n f fd ps (dg K sp)
end D
namespace L2
section
variable {P:Program}{w:World}{K:FG}{mg:Str->Option Value}{base:Heap}
end
end L2
namespace D
open L2
section
variable {P:Program}{w:World}{K:FG}{mg:Str->Option Value}{base:Heap}
end
open XO
section
variable {X:Cx}{K:FG}
end
end D
namespace PySem.AutoSeq1
open PySem.MeetsSeq PySem.MeetsSeq2 PySem.MeetsSeq3 PyProof.Rows
end PySem.AutoSeq1
namespace D
open L2
section
variable {P:Program}{w:World}{K:FG}{mg:Str->Option Value}{base:Heap}
end
end D
namespace PySem.AutoSeq1
open PySem.MeetsSeq PySem.MeetsSeq2 PySem.MeetsSeq3 PyProof.Rows
end PySem.AutoSeq1
namespace D
open L2
section
variable {X:Cx}{K:FG}
end
end D
namespace XO
open PySem.W
section
variable {prog:Program}{w:World}{A:Around}{E:VP}{s:Shared}{K:Frag}{env:PySem.Env}{e h0 C0:Addr}{dct0:Option Addr}{vs0:Array Value}
end
end XO
namespace L2
open XO
section
variable {P:Program}{w:World}{K:FG}{mg:Str->Option Value}{base:Heap}{C f:Addr}{fd:FuncData}{qual:Str}{st:Stmt}
end
end L2
namespace D
open L2 XO
section
variable {X:Cx}{pos p cpos:Pos}{k:Nat}{f C:Addr}{fd:FuncData}{ps fs:List Str}{x:Str}{e:Expr}{es:List Expr}{t:TAd}{E:XE}
variable {body suite:List Stmt}{b0:Stmt}{hs:List ExceptHandler}{th rest:Addr->TSd}{np hpos:Pos}
end
section
variable {X:Cx}{pos p cpos:Pos}{k:Nat}{f C:Addr}{fd:FuncData}{ps fs:List Str}{x:Str}{e:Expr}{es:List Expr}{t:TAd}{E:XE}
variable {suite:List Stmt}{b0:Stmt}{hs:List ExceptHandler}{rest:Addr->TSd}{np hpos:Pos}
end
section
variable {X:Cx}{K:FG}
variable {o e:Expr}{td te:TD}{apos cpos:Pos}
end
section
variable {X:Cx}{o i:Expr}{td ti:TD}{tpos pos:Pos}
end
end D
namespace L2
section
variable {X:Cx}{CX:CXT}{k:Nat}{f C:Addr}{fd:FuncData}{ps:List Str}{sp:Sp}{E:XK}{pins:PN}{σ:St}{H:Hp}{s:Shared}{Q:VK}{us:List Value}{vs:List V}{dvs:List V}{ds:List Value}
end
end L2
namespace D
open L2 XO
section
variable {X:Cx}{pins:PN}{σ:St}{H:Hp}{s:Shared}{a:Addr}{kvs:List (Str×Addr)}
end
section
variable {X:Cx}{e:Expr}{a:Addr}{x:Str}{kvs:List (Str×Addr)}{pos p apos cpos:Pos}{ty:TE}{te:TD}
end
section
variable {X:Cx}{pos p apos:Pos}{k:Nat}{f C:Addr}{fd:FuncData}{ps:List Str}{sp:SpX}{x m dz:Str}{e o:Expr}{es:List Expr}{t:TAd}{td:TD}{E:XE}
end
section
variable {X:Cx}{e o i:Expr}{a:Addr}{x m dz:Str}{kvs:List (Str×Addr)}{pos p apos cpos tpos:Pos}{te td ti:TD}{k:Nat}{f C:Addr}{fd:FuncData}{ps:List Str}{sp:SpX}{es:List Expr}{t:TAd}{E:XE}
end
end D
namespace L2
section
variable {X:Cx}{CX:CXT}{k:Nat}{f C:Addr}{fd:FuncData}{ps:List Str}{sp:Sp}{E:XK}{pins:PN}{σ:St}{H:Hp}{s:Shared}{Q:VK}{us:List Value}{vs:List V}{v:V}{u:Value}{kn:Str}
end
end L2
namespace D
open L2 XO
section
variable {X:Cx}{pos p apos kpos:Pos}{k:Nat}{f C:Addr}{fd:FuncData}{ps:List Str}{sp:SpX}{m kn:Str}{e o g:Expr}{es:List Expr}{t:TAd}{td tk:TD}{E:XE}
end
section
variable {X:Cx}{pos p apos kpos:Pos}{k:Nat}{f C:Addr}{fd:FuncData}{ps:List Str}{sp:SpX}{m kn:Str}{e o g:Expr}{es:List Expr}{t:TAd}{td tk:TD}{E:XE}
end
open S
section
variable {X:Cx}{pins:PN}{σ:St}{H H':Hp}{s:Shared}{h':Heap}
end
section
variable {X:Cx}{o:Expr}{to:TE}{apos cpos p pos:Pos}
end
section
variable {X:Cx}{o:Expr}{td:TD}{apos cpos p pos:Pos}
end
end D
namespace L2
theorem cY.m{j k:Nat}{A:PySem.Around}(r:cY k A)(h:j<=k:=by decide):cY j A:=r.mono h
end L2
namespace D
open L2
abbrev PXi(K:FG)(C:Addr)(x:Str)(st:Stmt):Prop:=∃ (f:Addr) (oc kV dc pm cd ct:Value) (od an:Option Addr) (sl:Array (Option Value)),W.findIn K (.ref C) "__init__" = some (some (.ref f))/\W.typeIn K (.ref f)=some (.type "function")/\K.lookup f=some ⟨oc,od,.func (W.fnOf "__init__" x (bh st) (aM st) (ao st) .none kV dc pm an cd ct),sl⟩/\W.codeIn K cd x=true/\W.keepIn K (.ref f)=true/\XO.xmk K C=true/\W.typeIn K (.ref C)=some (.type "type")/\W.keepIn K (.ref C)=true
theorem af8{K:FG}{C:Addr}{x:Str}{st:Stmt}{f:Addr}{oc kV dc pm cd ct:Value}{od an:Option Addr}{sl:Array (Option Value)}(a:W.findIn K (.ref C) "__init__" = some (some (.ref f)))(i:W.typeIn K (.ref f)=some (.type "function"))(l:K.lookup f=some ⟨oc,od,.func (W.fnOf "__init__" x (bh st) (aM st) (ao st) .none kV dc pm an cd ct),sl⟩)(c:W.codeIn K cd x=true)(k:W.keepIn K (.ref f)=true)(m:XO.xmk K C=true)(t:W.typeIn K (.ref C)=some (.type "type"))(n:W.keepIn K (.ref C)=true):PXi K C x st:=⟨_,_,_,_,_,_,_,_,_,_,a,i,l,c,k,m,t,n⟩
theorem PXi.xi{K:FG}{C:Addr}{x:Str}{st:Stmt}{ps:List Str}(p:PXi K C x st)(e:XO.XC K C)
  (b:∀ (kV doc pm:Value) (an:Option Addr) (cdv ct:Value) (us:List Value),us.length=ps.length->bindArgs (W.fnOf "__init__" x (bh st) (aM st) (ao st) .none kV doc pm an cdv ct) ⟨us,[]⟩=pure (ps.zip us)):∃ f fd,Xi K C x st ps f fd:=
 let ⟨f,_,_,_,_,_,_,_,_,_,a,i,l,c,k,m,t,n⟩:=p; ⟨f,_,aia e a i l c k m t n b⟩
abbrev PXc(K:FG)(C:Addr):Prop:=XO.abH K C=true/\W.findIn K (.ref C) "__setattr__" = some (some (.builtin "object.__setattr__"))/\W.findIn K (.ref C) "__getattribute__" = some (some (.builtin "BaseException.__getattribute__"))/\W.findIn K (.ref C) "__getattr__" = some none/\W.findIn K (.ref C) "__class__" = some (some (.builtin "object.__class__"))
theorem PXc.xc{K:FG}{C:Addr}(p:PXc K C)(g1:W.specialIn K (.builtin "object.__class__") "__get__" = some (some (.builtin "getset_descriptor.__get__")))(g2:W.takesIn K (.builtin "object.__class__")=some true):XO.XC K C:=⟨p.1,p.2.1,p.2.2.1,p.2.2.2.1,p.2.2.2.2,g1,g2⟩
abbrev EdQ(Q:QD):Ed:={nx:=λ _ M'=>Q (.d .none) M',rt:=Q}
abbrev Ln(sp:SpD)(n:Nat):Prop:=∀ ws M Q,sp ws M Q->ws.length=n
abbrev LnX(sp:SpX)(n:Nat):Prop:=∀ ws M Q E,sp ws M Q E->ws.length=n
abbrev Rd(sp:SpD)(t:TSd)(N:List Str):Prop:=∀ ws M Q,sp ws M Q->t (EdQ Q) (bw N ws) M
abbrev RdX(sp:SpX)(t:XE->TSd)(N:List Str):Prop:=∀ ws M Q E,sp ws M Q E->t (λ a _ M=>E a M) (EdQ Q) (bw N ws) M
abbrev dS(z:Str):TD:=dC (.d (.str z))
abbrev dI(n:Int):TD:=dC (.d (.int n))
section
variable {prog:Program}{w:World}{A:Around}{E:VP}{s:Shared}{x y:Str}{t u v:Tok}{k:Int}{Q:VP}
end
section
variable {X:Cx}{K:FG}
variable {o e e':Expr}{td te tn:TD}{apos cpos:Pos}
end
section
variable {X:Cx}{e f:Expr}{a:Addr}{x:Str}{kvs:List (Str×PyData)}{pos p apos cpos:Pos}{ty tx:TE}{te tf:TD}
end
end D
namespace XO
open PySem.W
section
variable {M:Model}{A:Around}{E:VP}{s:Shared}{base:Heap}{env:PySem.Env}{outer:List PySem.Env}{L e C T:Addr}{dct:Option Addr}{vs:Array Value}
end
end XO
namespace D
open L2 XO
section
variable {X:Cx}{pins:PN}{σ:St}{H:Hp}{s:Shared}{a T:Addr}
end
section
variable {P:Program}{w:World}{K:FG}{mg:Str->Option Value}{base:Heap}
end
end D
namespace L2
open XO D
section
variable {prog:Program}{w:World}{A:Around}{E:VP}{R:Result->Shared->Prop}{s:Shared}
end
section
variable {X:Cx}{pins:PN}{σ:St}{H:Hp}{s:Shared}
end
section
variable {X:Cx}{pins:PN}{σ:St}{H:Hp}{s:Shared}{sc:Scope}{own:List Str}{fr:List Nat}{cl:List (Str×Addr)}{fp:List Addr}{it:Addr}{J:It}{tn:Nat->Heap->Prop}{g:TG}{tt:TT}{te:TE}{W:LcW}{Fin:List V->Hp->Prop}
 {elt tg iter:Expr}{ifs:List Expr}{pos:Pos}{E:VP}
end
end L2
namespace D
open L2 XO
section
variable {K:FG}
end
section
variable {X:Cx}{sc:Scope}{own:List Str}{fr:List Nat}{tg elt iter:Expr}{ifs:List Expr}{pos:Pos}{di:TId}{g:TGd}{tt:TTd}{te:XE->TD}{E:XE}
end
section
variable {P:Program}{w:World}{K:FG}{mg:Str->Option Value}{base:Heap}
end
variable {X:Cx}{sc:Scope}{own:List Str}{fr:List Nat}{tg elt iter:Expr}{ifs:List Expr}{pos:Pos}{di:TId}{g:TGd}{tt:TTd}{te:XE->TD}{E:XE}
end D
namespace D
open L2 S PySem.W
def sI(X:Cx):Cx:=ag5 (ag5 X)
section
variable {X:Cx}{pins:PN}{σ:St}{f a kS:Addr}{xs:List V}{us:List Value}{e1:Nat}
theorem Inv.zZ{H:Hp}{s:Shared}{D:Addr}{vs:List V}{its:List Value}{n:Nat}(I:Inv X pins σ H s)(e:s.heap.get? D=some (seqObj "list" its.toArray n))(f:iE X pins H D)(hl:vs.length<=sizeLine)(rv:Vals vs its):Inv X pins σ (upd H D (.lst vs)) s:=by
 have hn:=f.1;have ne:∀ b u,H b=some u->b≠D:=λ b u q=>aF q hn;refine I.step (h':=s.heap) (g':=s.gens) (d':=s.drawn) (t':=s.toks) (ch:=[D]) (λ b hb=>?_) (λ b o _ _ _ q _=>q) (λ b o _ _ _ q _=>⟨o.slots,q⟩) (λ b o hb q n=>?_) (λ b o _ q=>⟨o,q⟩)
  (λ b xs q=>by rw[aj (ne b _ q)];exact q) (λ b o u q=>by rw[aj (ne b _ q)];exact q) (λ b ps q=>⟨#[],by rw[aj (ne b _ q),q];simp⟩) (λ m hm=>hm) (λ b u q=>?_) I.bare
 ·have e:b=D:=by simpa using hb
  subst e;exact⟨f.2.2.2.1,f.2.1,f.2.2.2.2.1,f.2.2.2.2.2⟩
 ·rw[aj (λ z=>hb (by simp[z]))];exact n
 ·by_cases hb:b=D
  ·subst hb;rw[aq] at q;cases q;exact⟨hl,its,n,rv,e⟩
  ·rw[aj hb] at q;exact(I.hok b u q).qh (λ _ _ _ q=>q) (λ c r=>by rw[aj (ne c _ r)];exact r) λ c xs r=>by rw[aj (ne c _ r)];exact r
theorem sX{E:VP}(Wt:Nat->List V->Hp->Prop)(hak:a≠kS)(fA:∀ H:Hp,H a=none->iE X pins H a)(fS:∀ H:Hp,H kS=none->iE X pins H kS)(rx:Vals xs us)(h64:us.length<64)
  (turn:∀ (i:Nat) (ys:List V) (v:V) (u:Value) (pl:PN) (H:Hp) (s:Shared),xs[i]? =some v->RelV v u->Wt i ys H->Inv X pl σ H s->wpAny (model X.prog X.w) X.A (call (.ref f) [u]) (EP X pl σ λ y H'=>Wt (i+1) (ys++[y]) H') (λ _ _=>False) s)
  {body:Value->PUnit->Sem (ForInStep PUnit)}
  (hb:∀ x ks e (s:Shared) (C:VP),List.length ks<64->wpAny (model X.prog X.w) X.A (call (.ref f) [x]) (λ k s2=>s2.heap.get? kS=some (seqObj "list" (List.toArray ks) e)/\∀ h' c,Heap.SameBut kS s2.heap h'->h'.get? kS=some (seqObj "list" (List.toArray (ks++[k])) c)->C k {s2 with heap:=h'}) (λ _ _=>False) s ->
   wpAny (model X.prog X.w) X.A (body x ⟨⟩) (λ r s'=>r=.yield ⟨⟩/\∃ k c,s'.heap.get? kS=some (seqObj "list" (List.toArray (ks++[k])) c)/\C k s') E s) :
  ∀ (r:List Value) (i:Nat) (ys:List V) (ks:List Value) (e:Nat) (H:Hp) (s:Shared),us.drop i=r->i<=us.length->Vals ys ks->ks.length=i->Wt i ys H->Inv X pins σ H s->H a=none->H kS=none->s.heap.get? a=some (seqObj "list" #[] e1)->s.heap.get? kS=some (seqObj "list" (List.toArray ks) e) ->
   wpAny (model X.prog X.w) X.A (forIn r PUnit.unit body) (λ _ s'=>∃ ys ks e H,Vals ys ks/\ks.length=us.length/\Wt us.length ys H/\Inv X pins σ H s'/\H a=none/\H kS=none/\s'.heap.get? a=some (seqObj "list" #[] e1)/\s'.heap.get? kS=some (seqObj "list" (List.toArray ks) e)) E s
 | [],i,ys,ks,e,H,s,hr,hi,rv,hl,hW,I,na,nk,ga,gk=>by
  rw[List.forIn_nil];have:us.length<=i:=by have:=congrArg List.length hr;rw[List.length_drop] at this;simp at this;omega
  have ei:i=us.length:=by omega
  exact wpAny_pure ⟨ys,ks,e,H,rv,by omega,by rw[<- ei];exact hW,I,na,nk,ga,gk⟩
 | x::r,i,ys,ks,e,H,s,hr,hi,rv,hl,hW,I,na,nk,ga,gk=>by
  have hlt:i<us.length:=by have:=congrArg List.length hr;rw[List.length_drop] at this;simp at this;omega
  have hx:us[i]? =some x:=by
   have:=congrArg (·[0]?) hr
   simpa using this
  have hr':us.drop (i+1)=r:=by
   have:=congrArg List.tail hr
   simpa using this
  obtain⟨v,hv,ru⟩:∃ v,xs[i]? =some v/\RelV v x:=by obtain⟨v,hv⟩:∃ v,xs[i]? =some v:=⟨_,List.getElem?_eq_getElem (show i<xs.length by rw[rx.length];exact hlt)⟩;obtain⟨u,hu,ru⟩:=rx.get hv;rw[hx] at hu;cases hu;exact⟨v,hv,ru⟩
  rw[List.forIn_cons];have JP:=I.aiZ (fA H na) (fS H nk) ga gk (λ _ z=>nomatch z) (λ _ z=>nomatch z);refine wpAny_bind (wpAny_mono (hb x ks e s (λ k s'=>∃ y H',RelV y k/\Wt (i+1) (ys++[y]) H'/\Inv X pins σ H' s'/\H' a=none/\H' kS=none/\s'.heap.get? a=some (seqObj "list" #[] e1)) (by omega) (wpAny_mono (turn i ys v x _ H s hv ru hW JP) (λ k s2 he=>?_) λ _ _ z=>z)) (λ q s' hq=>?_) λ _ _ z=>z)
  ·obtain⟨y,H2,J2,ry,hW2⟩:=he;obtain⟨J3,⟨ga2,na2⟩,gk2,nk2⟩:=J2.af1;refine⟨gk2,λ h' c s1 gk3=>⟨y,H2,ry,hW2,J3.aan (t':=s2.toks) (fS H2 nk2) λ b o hb e=>(s1.2 b hb).trans e,na2,nk2,(s1.2 a hak).trans ga2⟩⟩
  ·obtain⟨rfl,k,c,gk3,y,H2,ry,hW2,J3,na2,nk2,ga2⟩:=hq;show wpAny (model X.prog X.w) X.A (forIn r PUnit.unit body) _ E s';refine sX Wt hak fA fS rx h64 turn hb r (i+1) (ys++[y]) (ks++[k]) c H2 s' hr' hlt ?_ (by simp[hl]) hW2 J3 na2 nk2 ga2 gk3;exact Vals.append rv (.cons ry .nil)
theorem tO{H:Hp}{s:Shared}{st:SortSt}{ks out:List Value}{e:Nat}{P:PySem.Fin->Shared->Prop}{E:VP}(hak:a≠kS)(fA:∀ H:Hp,H a=none->iE X pins H a)(fS:∀ H:Hp,H kS=none->iE X pins H kS)(I:Inv X pins σ H s)(na:H a=none)(nk:H kS=none)(ga:s.heap.get? a=some (seqObj "list" #[] e1))(gk:s.heap.get? kS=some (seqObj "list" (List.toArray ks) e))
  (hout:(arrOf st).map (·.2)=List.toArray out)(hz:out.length<64)(hkz:ks.length<64)(hf:failedOf st=none)
  (fin:∀ s' c,Inv X pins σ H s'->s'.heap.get? a=some (seqObj "list" (List.toArray out) c)->P (.done (.ret .none)) s'):wpAny (model X.prog X.w) X.A (ksk_tail a false e1 (.ref kS) st) P E s:=by
 have s1:=Heap.SameBut.update s.heap kS (Obj.mapSeq λ _=>(#[]:Array Value));have ga1:(s.heap.update kS (Obj.mapSeq λ _=>(#[]:Array Value))).get? a=some (seqObj "list" #[] e1):=(s1.2 a hak).trans ga;have s2:=Heap.SameBut.update (s.heap.update kS (Obj.mapSeq λ _=>(#[]:Array Value))) a (Obj.mapSeq λ _=>List.toArray out);obtain⟨c2,hc2⟩:∃ c2,((s.heap.update kS (Obj.mapSeq λ _=>(#[]:Array Value))).update a (Obj.mapSeq λ _=>List.toArray out)).get? a=some (seqObj "list" (List.toArray out) c2):=⟨_,get?_update_seq ga1 λ _=>List.toArray out⟩;have I1:=I.aan (t':=s.toks) (h':=s.heap.update kS (Obj.mapSeq λ _=>(#[]:Array Value))) (fS H nk) λ b o hb e=>(s1.2 b hb).trans e;have I2:=I1.aan (t':=s.toks) (h':=(s.heap.update kS (Obj.mapSeq λ _=>(#[]:Array Value))).update a (Obj.mapSeq λ _=>List.toArray out)) (fA H na) λ b o hb e=>(s2.2 b hb).trans e;unfold ksk_tail
 try dsimp only
 rw[hout];refine wpAny_bind (listUpdate_at gk rfl ?_ (by rw[List.size_toArray,sizeLine_eq];omega) (Nat.zero_le _));refine wpAny_bind (wpAny_letGo ?_);refine wpAny_bind (seqEpoch_at ga1 rfl ?_);simp only[Bool.false_eq_true,if_false];refine wpAny_bind (listUpdate_at ga1 rfl ?_ (Nat.zero_le _) (by rw[List.size_toArray,sizeLine_eq];omega));rw[hf];simp only[bne_self_eq_false,Bool.false_eq_true,if_false];exact wpAny_pure (fin _ c2 I2 hc2)
theorem aaP{H:Hp}{s:Shared}{n:Nat}{lt:Nat->Nat->Bool}{P:PySem.Fin->Shared->Prop}{E:VP}(Wt:Nat->List V->Hp->Prop)(I:Inv X pins σ H s)(hW:Wt 0 [] H)(ho:s.heap.get? a=some (seqObj "list" us.toArray n))(na:H a=none)(fA:∀ H:Hp,H a=none->iE X pins H a)(rx:Vals xs us)(h64:us.length<64)
  (turn:∀ (i:Nat) (ys:List V) (v:V) (u:Value) (pl:PN) (H:Hp) (s:Shared),xs[i]? =some v->RelV v u->Wt i ys H->Inv X pl σ H s->wpAny (model X.prog X.w) X.A (call (.ref f) [u]) (EP X pl σ λ y H'=>Wt (i+1) (ys++[y]) H') (λ _ _=>False) s)
  (cmp:∀ (ys:List V) (ks:List Value) (H:Hp) (s:Shared),Wt us.length ys H->Vals ys ks->Inv X pins σ H s->ks.length=us.length->2<=us.length->∃ κ,(∀ (Q:SortKind->Shared->Prop),Q κ s->wpAny (model X.prog X.w) X.A (keyKind' ks.toArray) Q (λ _ _=>False) s)/\∀ i j,i<us.length->j<us.length->∀ C:Bool->Shared->Prop,C (lt i j) s->kas_ask X.prog X.w X.A κ ks i j C s)
  (fin:∀ (ys:List V) (H:Hp) (s:Shared) (c:Nat),Wt us.length ys H->Inv X pins σ H s->H a=none->s.heap.get? a=some (seqObj "list" (List.toArray ((bP lt us.length).map λ i=>us.getD i Value.none)) c)->P (.done (.ret .none)) s) :
  wpAny (model X.prog X.w) X.A (ksk_tree a (.ref f) false) P E s:=by
 have ha:a<s.heap.objs.size:=Heap.lt_size ho;have s1:=Heap.SameBut.update s.heap a (Obj.mapSeq λ _=>(#[]:Array Value));obtain⟨e1,ho1⟩:∃ e1,(s.heap.update a (Obj.mapSeq λ _=>(#[]:Array Value))).get? a=some (seqObj "list" #[] e1):=⟨_,get?_update_seq ho λ _=>#[]⟩;have I1:=I.aan (t':=s.toks) (h':=s.heap.update a (Obj.mapSeq λ _=>(#[]:Array Value))) (fA H na) λ b o hb e=>(s1.2 b hb).trans e;generalize hk:((s.heap.update a (Obj.mapSeq λ _=>(#[]:Array Value))).push (seqObj "tuple" us.toArray 0)).objs.size=kS;have hkS:kS=s.heap.objs.size+1:=by rw[<- hk,size_push',Heap.size_update]
 have hge:s.heap.objs.size<=kS:=by rw[hkS];exact Nat.le_succ _
 have nk:H kS=none:=I.hok.fresh hge;have fS:∀ H:Hp,H kS=none->iE X pins H kS:=λ H h=>I.nU hge h;have hak:a≠kS:=by rw[hkS];exact Nat.ne_of_lt (Nat.lt_succ_of_lt ha)
 unfold ksk_tree;refine wpAny_bind (listItems_at ho rfl ?_);refine wpAny_bind (listUpdate_at ho rfl ?_ (by rw[List.size_toArray,sizeLine_eq];omega) (Nat.zero_le _));refine wpAny_bind (seqEpoch_at ho1 rfl ?_);refine wpAny_bind (wpAny_newTuple ?_ (by show us.length<=_;rw[sizeLine_eq];omega));refine wpAny_bind (wpAny_newList ?_ (Nat.zero_le _));refine wpAny_holding ?_;have kp:∀ b o,(s.heap.update a (Obj.mapSeq λ _=>(#[]:Array Value))).get? b=some o->(((s.heap.update a (Obj.mapSeq λ _=>(#[]:Array Value))).push (seqObj "tuple" us.toArray 0)).push (seqObj "list" #[] 0)).get? b=some o:=λ b o e=>Heap.get?_push_of_some _ (Heap.get?_push_of_some _ e);have I2:=I1.kept (t':=s.toks) kp;have gk:(((s.heap.update a (Obj.mapSeq λ _=>(#[]:Array Value))).push (seqObj "tuple" us.toArray 0)).push (seqObj "list" #[] 0)).get? kS=some (seqObj "list" (List.toArray []) 0):=by rw[<- hk];exact Heap.get?_push_size _ rfl
 have ga:=kp a _ ho1;show wpAny _ _ (ksk_rest a (.ref f) false us.toArray e1 (.ref ((s.heap.update a (Obj.mapSeq λ _=>(#[]:Array Value))).push (seqObj "tuple" us.toArray 0)).objs.size)) _ _ _;rw[hk];unfold ksk_rest;refine wpAny_bind (wpAny_rule ?_)
 first
  | rw[List.forIn_toArray]
  | (rw[<- Array.forIn_toList];simp only[List.toList_toArray])
  | rw[<- Array.forIn_toList]
 refine wpAny_bind (wpAny_mono (sX (e1:=e1) Wt hak fA fS rx h64 turn (λ x ks e s' C hz hx=>?_) us 0 [] [] 0 H _ rfl (Nat.zero_le _) .nil rfl hW I2 na nk ga gk) (λ _ s' hd=>?_) λ _ _ x=>x)
 ·refine wpAny_bind (wpAny_attempt (wpAny_mono hx (λ k s2 hk2=>?_) λ _ _ hF=>hF.elim));obtain⟨gk2,c⟩:=hk2;have s3:=Heap.SameBut.update s2.heap kS (Obj.mapSeq (·.push k));have ea:(List.toArray ks).push k=List.toArray (ks++[k]):=by simp
  obtain⟨c2,hc2⟩:∃ c2,(s2.heap.update kS (Obj.mapSeq (·.push k))).get? kS=some (seqObj "list" (List.toArray (ks++[k])) c2):=⟨_,by rw[<- ea];exact get?_update_seq gk2 (·.push k)⟩
  try dsimp only
  refine wpAny_bind (listUpdate_at gk2 rfl ?_ (by rw[List.size_toArray,sizeLine_eq];omega) (Nat.le_trans (Nat.le_of_eq (Array.size_push ..)) (by rw[List.size_toArray,sizeLine_eq];omega)));exact wpAny_pure ⟨rfl,k,c2,hc2,c _ c2 s3 hc2⟩
 ·obtain⟨ys,ks,e,H',rv,hl,hW',J,na',nk',ga',gk'⟩:=hd
  try dsimp only
  refine wpAny_bind (listItems_at gk' rfl ?_);have hz:us.toArray.size=us.length:=by simp
  unfold ksk_end
  try dsimp only
  simp only[Bool.false_eq_true,if_false]
  by_cases h2:us.length<2
  ·rw[if_pos (by rw[hz];exact h2),if_pos (by rw[hz];exact h2)];refine wpAny_bind (wpAny_pure ?_);rw[StateT.run_pure];refine wpAny_bind (wpAny_pure ?_);dsimp only;have out:=kat_snds (ks:=ks) (vs:=us) hl (st:=SortSt.mk' general' (ks.toArray.zip us.toArray) #[] 7 none) (p:=List.toArray (List.range us.length)) (by have e:=kas_range (ks.toArray.zip us.toArray);rw[show(ks.toArray.zip us.toArray).size=us.length by simp[hl]] at e;exact e.symm)
   refine tO hak fA fS J na' nk' ga' gk' out (by simp;omega) (by omega) rfl λ s3 c J3 g3=>fin ys H' s3 c hW' J3 na' ?_;unfold bP;rw[if_pos h2]
   simpa using g3
  ·rw[if_neg (by rw[hz];exact h2),if_neg (by rw[hz];exact h2)];obtain⟨κ,hk',hc'⟩:=cmp ys ks H' s' hW' rv J hl (by omega);refine wpAny_bind (wpAny_mono (hk' (λ κ' s3=>κ'=κ/\s3=s') ⟨rfl,rfl⟩) (λ κ' s3 e3=>?_) λ _ _ z=>z.elim);obtain⟨rfl,rfl⟩:=e3;refine wpAny_bind (wpAny_mono (kat_run (ks:=ks) (vs:=us) (Q:=λ st' s4=>s4=s3/\failedOf st'=none/\(arrOf st').map (·.2)=List.toArray ((bP lt us.length).map λ i=>us.getD i Value.none)/\(bP lt us.length).length=us.length) (G:=λ p s4=>s4=s3/\p=go lt (kas_sort us.length)) hl (by omega) h64 (λ p st' s4 a1 a2 a3 a4=>⟨a4.1,a3,?_,?_⟩) (vZ hc' _ (oH (by omega)) ⟨rfl,rfl⟩)) ?_ λ _ _ e=>e)
   ·unfold bP;rw[if_neg h2,<- a4.2];exact kat_snds hl a2
   ·unfold bP;rw[if_neg h2,<- a4.2,Array.length_toList,a1]
   ·rintro⟨⟨⟩,st'⟩ s4 ⟨rfl,hf,har,hln⟩;dsimp only;exact tO hak fA fS J na' nk' ga' gk' har (by rw[List.length_map,hln];exact h64) (by omega) hf λ s4 c J4 g4=>fin ys H' s4 c hW' J4 na' g4
end
section
variable {X:Cx}{pins:PN}{σ:St}{f d:Addr}
theorem ael{H:Hp}{s:Shared}{t:Bool}{sh:List Bool}{rows:List (List PyData)}{ys:List V}{ks:List Value}(I:Inv X pins σ H s)(hs:∀ r∈rows,Shape (t::sh) r)(ra:aT X.K H (rows.map PyData.tuple) ys)(rv:Vals ys ks)(h2:2<=rows.length) :
  ∃ κ,(∀ (Q:SortKind->Shared->Prop),Q κ s->wpAny (model X.prog X.w) X.A (keyKind' ks.toArray) Q (λ _ _=>False) s)/\∀ i j,i<rows.length->j<rows.length->∀ C:Bool->Shared->Prop,C (cG (rowAt rows i) (rowAt rows j)) s->kas_ask X.prog X.w X.A κ ks i j C s:=by
 have hl:=rv.length;have hl2:=ra.length;rw[List.length_map] at hl2;have R:=qI I hs ra rv;refine⟨tuples' true,λ Q q'=>?_,λ i j hi hj C c=>?_⟩
 ·obtain⟨fs,t1,t2,t3⟩:=fc.lg R;cases t with
  | true=>exact W.kat_kind (T:=.type "str") t1 (by omega) (λ v hv=>by rcases t3 v hv with ⟨_,x,k,rfl⟩ | ⟨e,_⟩;exact .now;cases e) rfl q'
  | false=>exact W.kat_kind (T:=.type "int") t1 (by omega) (λ v hv=>by rcases t3 v hv with ⟨e,_⟩ | ⟨_,x,k,rfl⟩;cases e;exact .now) rfl q'
 ·obtain⟨a,oa,xa,na,e1,g1,c1,d1,s1,w1⟩:=R.get i hi;obtain⟨b,ob,xb,nb,e2,g2,c2,d2,s2,w2⟩:=R.get j hj;unfold W.kas_ask;rw[e1,e2];refine W.kat_lt g1 d1 g2 d2 ?_;have hn:decide (xa.size<xb.size)=false:=by have z1:=vC.len w1;have z2:=vC.len w2;rw[eE s1] at z1;rw[eE s2] at z2;simp only[Array.length_toList] at z1 z2;simp;omega
  rw[hn];exact sj 0 _ s1 s2 w1 w2 c
theorem aa0{lt:Nat->Nat->Bool}{xs:List V}{us:List Value}(rx:Vals xs us):Vals ((bP lt us.length).map λ i=>xs.getD i .non) ((bP lt us.length).map λ i=>us.getD i Value.none):=by
 have hl:=rx.length;have main:∀ is:List Nat,(∀ i∈is,i<us.length)->Vals (is.map λ i=>xs.getD i .non) (is.map λ i=>us.getD i Value.none):=by
  intro is
  induction is with
  | nil=>intro _;exact .nil
  | cons i is ih =>
   intro hi;refine .cons ?_ (ih λ j hj=>hi j (by simp[hj]));have h1:=hi i (by simp);obtain⟨u,e1,e2⟩:=Vals.get (i:=i) (x:=xs.getD i .non) rx (by simp[List.getD_eq_getElem?_getD,List.getElem?_eq_getElem (show i<xs.length by omega)]);have e3:us.getD i Value.none=u:=by rw[List.getD_eq_getElem?_getD,e1];rfl
   show RelV (xs.getD i .non) (us.getD i Value.none);rw[e3];exact e2
 refine main _ λ i hi=>?_
 simpa using (jo _ _).mem_iff.mp hi
theorem qY{H:Hp}{s:Shared}{kvs:List (Key×V)}{zs:List Str}{lt:Nat->Nat->Bool}{Q:VK}{E:VP}(hc:X.calm=true)(Wt:Nat->List V->Hp->Prop)(I:Inv X pins σ H s)(hW:Wt 0 [] H)(hq:L2.Rd H d (.dK kvs))(hk:kvs.map (·.1)=zs.map Sum.inr)(hz:zs.length<64)
  (turn:∀ (i:Nat) (ys:List V) (z:Str) (u:Value) (pl:PN) (H:Hp) (s:Shared),zs[i]? =some z->RelV (.str z) u->Wt i ys H->Inv (sI X) pl σ H s->wpAny (model X.prog X.w) (sI X).A (call (.ref f) [u]) (EP (sI X) pl σ λ y H'=>Wt (i+1) (ys++[y]) H') (λ _ _=>False) s)
  (cmp:∀ (ys:List V) (ks:List Value) (H:Hp) (s:Shared),Wt zs.length ys H->Vals ys ks->Inv (sI X) pins σ H s->ks.length=zs.length->2<=zs.length->∃ κ,(∀ (Q:SortKind->Shared->Prop),Q κ s->wpAny (model X.prog X.w) (sI X).A (keyKind' ks.toArray) Q (λ _ _=>False) s)/\∀ i j,i<zs.length->j<zs.length->∀ C:Bool->Shared->Prop,C (lt i j) s->kas_ask X.prog X.w (sI X).A κ ks i j C s)
  (fin:∀ (ys:List V) (H':Hp),Wt zs.length ys H'->∀ l,H' l=none->Q (.ref l) (upd H' l (.lst ((bP lt zs.length).map λ i=>(zs.map V.str).getD i .non)))) :
  wpAny (model X.prog X.w) X.A (call (.builtin "sorted") [.ref d] [(Str.ofString "key",.ref f)]) (EP X pins σ Q) E s:=by
 obtain⟨hsz,hsys,vs,rel,o,es,ep,hd⟩:=hq.ok I.hok;have hvs:vs.map (·.1)=zs.map Sum.inr:=by
  rw[<- hk];clear hk hd hq hsz
  induction rel with
  | nil=>rfl
  | cons r t ih=>simp only[List.map_cons,ih,r.1]
 have hln:vs.length=zs.length:=by simpa using congrArg List.length hvs
 refine call_function_entry_kw kind_sorted plain_sorted entry_sorted (ksk_s1 _ _) ?_;unfold Builtin.«sorted»;have at1:∀ (h':Heap) (l:List Value),(h'.push (seqObj "list" l.toArray 0)).get? h'.objs.size=some (seqObj "list" l.toArray 0):=λ h' l=>Heap.get?_push_size _ rfl;refine wpAny_bind (m:=checkCount "sorted" 1 1 _) (wpAny_pure (wpAny_bind (W.kdu_collect (A:=X.A.in1) (W.kdl_dict (knd:=aN X.prog X.w) (kvs:=vs) (ep:=ep) hsys) (I.ok.hd hc) ⟨o,es,hd⟩ (by rw[sizeLine_eq];omega) λ h' tk acc old hacc=>?_)));have hla:acc.toList.length=vs.length:=by rw[Array.length_toList];exact hacc.1
 have hS:StrsAre acc.toList zs:=oR hvs hla λ j v hj=>hacc.2 j v (by rw[<- Array.getElem?_toList];exact hj);have rx:Vals (zs.map V.str) acc.toList:=kB hS;have hlz:acc.toList.length=zs.length:=by omega
 refine wpAny_bind (wpAny_newList ?_ (by rw[hla,sizeLine_eq];omega));have I1:=I.kept (t':=tk) old;have I2:=I1.kept (t':=tk) (h':=h'.push (seqObj "list" acc.toList.toArray 0)) λ b o e=>Heap.get?_push_of_some _ e;have na:H h'.objs.size=none:=I1.hok.fresh (Nat.le_refl _);have fA:∀ H:Hp,H h'.objs.size=none->iE X pins H h'.objs.size:=λ H h=>I1.nU (Nat.le_refl _) h;refine wpAny_bind (wpAny_holding (wpAny_call_entry_kw slot_list_sort ⟨_,at1 h' acc.toList,rfl⟩ entry_list_sort ?body (ksk_l1 _ _)))
 case body =>
  show wpAny (model X.prog X.w) X.A.in1.in1 (Builtin.«list.sort» ⟨[.ref h'.objs.size],[(Str.ofString "key",.ref f)]⟩) _ _ _;rw[ksk_t1];refine aaP (X:=sI X) (lt:=lt) Wt (Inv.in1 (Inv.in1 I2)) hW (at1 h' acc.toList) na fA rx (by omega) (λ i ys v u pl H s hv ru hW' J=>?_) (λ ys ks H s hW' rv J hl h2=>?_) λ ys H' s' c hW' J na' g=>?_
  ·rw[List.getElem?_map] at hv;cases hzi:zs[i]? with
   | none=>rw[hzi] at hv;cases hv
   | some z =>
    rw[hzi] at hv;cases hv;exact turn i ys z u pl H s hzi ru hW' J
  ·rw[hlz] at hW' hl h2 ⊢;exact cmp ys ks H s hW' rv J hl h2
  ·have J':Inv X pins σ H' s':=Inv.aiQ (Inv.aiQ J);have ov:=aa0 (lt:=lt) rx;have hov:((bP lt acc.toList.length).map λ i=>(zs.map V.str).getD i .non).length<=sizeLine:=by rw[List.length_map];have:=(jo lt acc.toList.length).length_eq;rw[List.length_range] at this;have:=s16;omega
   have J2:=Inv.zZ J' g (fA H' na') hov ov;refine⟨_,rfl,wpAny_pure ⟨_,rfl,.ref _,_,J2,rfl,?_⟩⟩;rw[hlz] at hW' ⊢;exact fin ys H' hW' _ na'
end
open PySem.W (kla_obj kla_fn)
section
variable {X:Cx}{K:FG}
def sT(rows:List (List PyData))(zs:List Str):List Str:=(bP (λ i j=>cG (rowAt rows i) (rowAt rows j)) zs.length).map λ i=>zs.getD i Str.empty
theorem yt(rows:List (List PyData))(zs:List Str):(sT rows zs).Perm zs:=by
 unfold sT;have h:=(jo (λ i j=>cG (rowAt rows i) (rowAt rows j)) zs.length).map λ i=>zs.getD i Str.empty;have e:(List.range zs.length).map (λ i=>zs.getD i Str.empty)=zs:=by refine List.ext_getElem (by simp) λ i h1 h2=>?_;simp[List.getD_eq_getElem?_getD,List.getElem?_eq_getElem h2]
 rw[e] at h;exact h
def yy(P:Addr)(q:Str)(lpos:Pos)(to tb:TD)(fr:List Nat)(τ:DS)(M:MH)(Q:QD):Prop:=to τ M λ w M1=>∃ a kvs,∃ zs:List Str,w=.m a/\M1 a=some (.dic kvs)/\kvs.map (·.1)=zs.map Sum.inr/\zs.length<64/\M1 P=some (.code q lpos) /\
 ∃ t sh,∃ rows:List (List PyData),rows.length=zs.length/\(∀ r∈rows,Shape (t::sh) r)/\(∀ (i:Nat) z r,zs[i]? =some z->rows[i]? =some r->tb (ab9 (.d (.str z)) fr τ) M1 λ y M2=>y=.d (.tuple r)/\M2=M1)/\∀ p,M1 p=none->Q (.m p) (bN M1 p (.lst (eD (sT rows zs))))
variable {P cd:Addr}{q x:Str}{lpos pos p kpos:Pos}{params:Arguments}{body o:Expr}{sc:Scope}{fr:List Nat}{to tb:TD}{k:Nat}
theorem yA(hr:cY (k+3) X.A)(hc:X.calm=true)(hg:Gl X "sorted")(hm:X.mg "sorted" = none)(L:pF X sc x fr)(hcode:X.env.code=.ref cd)(hcd:W.codeHdIn X.K cd P=true)(hq:X.env.qual ++ "<lambda>" = q)
  (hb:∀ cl pm cdv ctv u,bindArgs (kla_fn "<lambda>" q params body sc cl pm cdv ctv) ⟨[u],[]⟩=pure [(x,u)])(ho:PD X o to)
  (he:∀ cl f c s H pl,cY k (zp (sI X) q sc (yE X x fr) cl f c s H pl).A->PD (zp (sI X) q sc (yE X x fr) cl f c s H pl) body tb)(hso:fh o=false:=by rfl)(hdef:defaultsOf params X.env=([],[]):=by rfl) :
  PD X (.Call (.Name "sorted" p) [o] [⟨some "key",.Lambda params body sc lpos,kpos⟩] pos) (yy P q lpos to tb fr):=by
 intro pins s σ H Q I h;subst hq;have hst:starEach [o] X.env=(false,eval o X.env)::starEach [] X.env:=bT o [] X.env hso;have pa:PA X [o] (n5 (up X.K to) abV):=fL ho km hst;have pk:PK X [⟨some "key",.Lambda params body sc lpos,kpos⟩] (n5 (aiT X P (X.env.qual ++ "<lambda>") params body sc lpos) abV):=yC (ae1 L hcode hcd hdef) ab3;obtain⟨τ,M,Qd,A,h,kk⟩:=h;refine wpAny_Call_Name_kw (fD I hg hm ef (callWith_kw (he:=by rw[hst];rfl) (hplain:=cC pos X.env [o] (by simp[hso])) ?_));refine thn (pa pos pins s σ H (λ vs H1=>∃ v w M1,vs=[v]/\Kp H H1/\aB X.K H1 w v/\cf X.K H1 M1/\∃ a kvs,∃ zs:List Str,w=.m a/\M1 a=some (.dic kvs)/\kvs.map (·.1)=zs.map Sum.inr/\zs.length<64/\M1 P=some (.code (X.env.qual ++ "<lambda>") lpos) /\
  ∃ t sh,∃ rows:List (List PyData),rows.length=zs.length/\(∀ r∈rows,Shape (t::sh) r)/\(∀ (i:Nat) z r,zs[i]? =some z->rows[i]? =some r->tb (ab9 (.d (.str z)) fr τ) M1 λ y M2=>y=.d (.tuple r)/\M2=M1)/\∀ p,M1 p=none->Qd (.m p) (bN M1 p (.lst (eD (sT rows zs))))) I
  ⟨τ,M,_,A,h,λ x H1 w M1 kp r m z=>⟨x,w,M1,rfl,kp,r,m,z⟩⟩) λ us s1 ⟨vs,H1,I1,r1,hx⟩=>?_
 obtain⟨v,w,M1,ev,kp1,rw1,m1,a,kvs,zs,ew,hMa,hkeys,hz,hP,t,sh,rows,hrl,hsh,hkey,hfin⟩:=hx;subst ev ew;have ea:v=.ref a:=rw1;subst ea;obtain⟨u,rfl,ru⟩:=vals1 r1;cases (show u=Value.ref a from ru);obtain⟨ps,hT,ht,hcA⟩:=m1 P _ hP;refine thn (pk pos pins s1 σ H1 (λ ks H2=>∃ f cl,ks=[.ref f]/\Kp H1 H2/\cf X.K H2 M1/\ah4 X sc cl/\aey H2 (X.env.qual ++ "<lambda>") x params body sc cl ((X.mg "__name__").getD .none) f) I1 ?_) λ kus s2 ⟨ks,H2,I2,r2,f,cl,ek,kp2,m2,hcl,hlam⟩=>?_
 ·refine⟨ps,hT,ht,?_⟩;rcases hcA with hn | ⟨c,oc,vs,t,e1,e2,e3,e4⟩
  ·refine .inl ⟨hn,λ c f oc vs t ctv cl hcl hc0 hf0 hcf hd hv=>?_⟩;obtain⟨k3,m3⟩:=vc m1 hP hT ht hn hc0 hd hv;have fP:f≠P:=Ne.symm (aF hT hf0);have cP:c≠P:=Ne.symm (aF hT hc0);have hf1:upd (upd H1 c (.frz oc (.own 0))) P (.tbl (nj ps lpos c)) f=none:=by rw[aj fP,aj (Ne.symm hcf)];exact hf0
   exact⟨f,cl,rfl,k3.trans (Kp.new hf1),m3.new hf1,hcl,c,ctv,oc,vs,t,aq,by rw[aj hcf,aj cP,aq],hd,hv⟩
  ·exact .inr ⟨c,oc,vs,t,e1,e2,e3,e4,λ f ctv cl hcl hf0=>⟨f,cl,rfl,Kp.new hf0,m1.new hf0,hcl,c,ctv,oc,vs,t,aq,by rw[aj (aF e2 hf0)];exact e2,e3,e4⟩⟩
 subst ek;obtain⟨ku,rfl,rk⟩:=vals1 r2;cases (show ku=Value.ref f from rk);show wpAny _ _ (call (.builtin "sorted") [.ref a] [(Str.ofString "key",.ref f)]) _ _ s2;have L':pF (sI X) sc x fr:=⟨L.kind,L.co,L.gen,L.cell,L.free,L.own,L.fr⟩;have A2:∀ {H'},Kp H2 H'->cf X.K H' M1->Abs X.K H' σ τ M1:=λ kp m=>A.go (kp1.trans (kp2.trans kp)) m;obtain⟨l,hl,pr⟩:=m2 _ _ hMa;have hkl:l.map (·.1)=zs.map Sum.inr:=by
  rw[<- hkeys];clear hkeys hl hMa hkey hfin
  induction pr with
  | nil=>rfl
  | cons r t ih=>simp only[List.map_cons,ih,r.1]
 refine qY (lt:=λ i j=>cG (rowAt rows i) (rowAt rows j)) hc (λ i ys H'=>Kp H2 H'/\cf X.K H' M1/\aT X.K H' ((rows.take i).map PyData.tuple) ys) I2 ⟨Kp.refl _,m2,by simp[aT]⟩ (.inl hl) hkl hz (λ i ys z u pl H' s' hzi ru hW J=>?_) (λ ys ks H' s' hW rv J hlk h2=>?_) λ ys H' hW l hln=>?_
 ·obtain⟨r,hri⟩:∃ r,rows[i]? =some r:=⟨_,List.getElem?_eq_getElem (show i<rows.length by rw[hrl];exact(List.getElem?_eq_some_iff.mp hzi).1)⟩;refine adE (X:=sI X) (k:=k) (hr.in1.in1) hc L' hcl.1 hcl.2 (hb cl _) (te:=up X.K tb) (λ c s H pl hr'=>he cl f c s H pl hr') J (D.aey.keep hlam hW.1) ru ?_;refine⟨_,M1,_,acd (A2 hW.1 hW.2.1) (w:=.d (.str z)) (by simp[aB,ay]) fr,hkey i z r hzi hri,λ y H3 w3 M3 kp3 r3 m3 z'=>?_⟩;obtain⟨e1,e2⟩:=z';subst e1 e2;refine⟨hW.1.trans kp3,m3,?_⟩;have e3:(rows.take (i+1)).map PyData.tuple=(rows.take i).map PyData.tuple++[.tuple r]:=by rw[List.take_succ,hri];simp
  rw[e3];refine aT.append (hW.2.2.keep kp3) ?_;simp only[aT];exact⟨y,[],rfl,r3,rfl⟩
 ·have ra:=hW.2.2;rw[<- hrl,List.take_length] at ra;rw[<- hrl] at h2 ⊢;exact ael (X:=sI X) J hsh ra rv h2
 ·have kp:Kp H' (upd H' l (.lst ((sT rows zs).map V.str))):=Kp.new hln;have e:(bP (λ i j=>cG (rowAt rows i) (rowAt rows j)) zs.length).map (λ i=>(zs.map V.str).getD i .non)=(sT rows zs).map V.str:=by
   unfold sT;rw[List.map_map];refine List.map_congr_left λ i hi=>?_;have hi':i<zs.length:=by simpa using (jo _ _).mem_iff.mp hi
   simp[List.getD_eq_getElem?_getD,List.getElem?_eq_getElem hi']
  rw[e];exact kk _ _ (.m l) _ (kp1.trans (kp2.trans (hW.1.trans kp))) rfl (hW.2.1.put (mo:=.lst (eD (sT rows zs))) kp ⟨_,aq,j7 _⟩) (hfin l (hW.2.1.free hln))
end
theorem vX{X:Cx}{P cd:Addr}{q x:Str}{lpos pos p kpos:Pos}{params:Arguments}{body o:Expr}{sc:Scope}{fr:List Nat}{to tb:TD}{k:Nat}(hr:cY (k+3) X.A)(hc:X.calm=true)(hg:Gl X "sorted")(hm:X.mg "sorted" = none)(L:pF X sc x fr)(hcode:X.env.code=.ref cd)(hcd:W.codeHdIn X.K cd P=true)(hq:X.env.qual ++ "<lambda>" = q)
  (hb:∀ cl pm cdv ctv u,bindArgs (kla_fn "<lambda>" q params body sc cl pm cdv ctv) ⟨[u],[]⟩=pure [(x,u)])(ho:Jd (PD X o to))
  (he:∀ cl f c s H pl,cY k (zp (sI X) q sc (yE X x fr) cl f c s H pl).A->Jd (PD (zp (sI X) q sc (yE X x fr) cl f c s H pl) body tb))(hso:fh o=false:=by rfl)(hdef:defaultsOf params X.env=([],[]):=by rfl) :
  Jd (PD X (.Call (.Name "sorted" p) [o] [⟨some "key",.Lambda params body sc lpos,kpos⟩] pos) (yy P q lpos to tb fr)):=⟨D.yA hr hc hg hm L hcode hcd hq hb ho.h (λ cl f c s H pl h=>(he cl f c s H pl h).h) hso hdef⟩
section
variable {X:Cx}{K:FG}
end
open XO
section
variable {X:Cx}{pins:PN}{σ:St}{H:Hp}{s:Shared}{CX:List Env->Hp->Shared->XK->VP}{k:Nat}{f:Addr}{fd:FuncData}{ps:List Str}
end
section
variable {X:Cx}{pos p:Pos}{k:Nat}{f:Addr}{fd:FuncData}{ps:List Str}{sp:SpX}{x:Str}{e:Expr}{es:List Expr}{t:TAd}{E:XE}{d:Int}
end
inductive SV:MH->MH->Prop
 | refl (M:MH):SV M M
 | step {M M':MH} {a l:Addr} {kvs:List (Key×W)} {i:Nat} {k:Key} {ds:List PyData} (ha:M a=some (.dic kvs)) (hi:kvs[i]? =some (k,.m l)) (hl:M l=some (.lst (ds.map W.d))) (n:a≠l) (r:SV (bN (jX M l) a (.dic (kvs.set i (k,.d (.list ds))))) M'):SV M M'
section
variable {X:Cx}{K:FG}
theorem lI{α β:Type}{R:α->β->Prop}{x:α}:∀ {l:List α} {m:List β} (i:Nat) {y:β},Paired R l m->m[i]? =some y->R x y->Paired R (l.set i x) m
 | _,_,_,_,.nil,h,_=>by simp at h
 | _,_,0,_,.cons r t,h,q=>by simp at h;subst h;exact .cons q t
 | _,_,i+1,_,.cons r t,h,q=>.cons r (lI i t (by simpa using h) q)
theorem oz{α β:Type}{R:α->β->Prop}{x:α}:∀ {l:List α} {m:List β} {i:Nat},Paired R l m->l[i]? =some x->∃ y,m[i]? =some y/\R x y
 | _,_,_,.nil,h=>by simp at h
 | _,_,0,.cons r t,h=>by simp at h;subst h;exact⟨_,rfl,r⟩
 | _,_,i+1,.cons r t,h=>by obtain⟨y,e,q⟩:=oz t (by simpa using h);exact⟨y,by simpa using e,q⟩
theorem aaq{M M':MH}(h:SV M M'):∀ {pins:PN} {σ:St} {H:Hp} {s:Shared},cf X.K H M->Inv X pins σ H s->∃ H',Inv X pins σ H' s/\Kp H H'/\cf X.K H' M':=by
 induction h with
 | refl M=>exact λ m I=>⟨_,I,Kp.refl _,m⟩
 | @step M M' a l kvs i k ds ha hi hl n r ih =>
  intro pins σ H s m I;obtain⟨vs,e,ra⟩:=m _ _ hl;obtain⟨lv,ea,pr⟩:=m _ _ ha;obtain⟨o,I2⟩:=I.freeze e trivial;have kp:Kp H (upd H l (.frz o (.lst vs))):=Kp.set e (λ _ z=>nomatch z) (λ _ _ z=>nomatch z);have m2:=m.del (a:=l) kp;have ea2:upd H l (.frz o (.lst vs)) a=some (.dK lv):=by rw[aj n];exact ea
  obtain⟨y,ey,e1,e2⟩:=oz pr hi;have pr2:Paired (λ(p:Key×W) (q:Key×V)=>p.1=q.1/\aB X.K (upd H l (.frz o (.lst vs))) p.2 q.2) (kvs.set i (k,.d (.list ds))) lv:=by refine lI i (Paired.iu pr λ p q z=>⟨z.1,z.2.keep kp⟩) ey ⟨e1,?_⟩;have e3:y.2=.ref l:=e2;simp only[aB,ay];exact⟨l,vs,e3,.inl ⟨o,aq⟩,ra.data.keep kp⟩
  have m3:cf X.K (upd H l (.frz o (.lst vs))) (bN (jX M l) a (.dic (kvs.set i (k,.d (.list ds))))):=λ b ob hb=>by
   by_cases e:b=a
   ·subst e;rw[ah] at hb;cases hb;exact⟨lv,ea2,pr2⟩
   ·rw[aw e] at hb;exact m2 b ob hb
  obtain⟨H',I',kp',m'⟩:=ih m3 I2;exact⟨H',I',kp.trans kp',m'⟩
def aeI(t:TD)(τ:DS)(M:MH)(Q:QD):Prop:=∃ M2,SV M M2/\t τ M2 Q
end
theorem aak{X:Cx}{e:Expr}{t:TD}(ho:Jd (PD X e t)):Jd (PD X e (aeI t)):=⟨have ho:=ho.h;by
 intro pins s σ H Q I h;obtain⟨τ,M,Qd,A,⟨M2,sv,h⟩,k⟩:=h;obtain⟨H2,I2,kp2,m2⟩:=aaq sv A.mem I;exact ho pins s σ H2 Q I2 ⟨τ,M2,Qd,A.go kp2 m2,h,kgo k kp2⟩⟩
theorem aba{a:Addr}:∀ (rest:List (Key×Addr×List PyData)) (pre:List (Key×PyData)) (M:MH),M a=some (.dic (aR pre++rest.map λ x=>(x.1,W.m x.2.1)))->(∀ x∈rest,M x.2.1=some (.lst (x.2.2.map W.d))/\x.2.1≠a)->(rest.map (·.2.1)).Nodup ->
  ∃ M',SV M M'/\M' a=some (.dic (aR (pre++rest.map λ x=>(x.1,.list x.2.2))))/\∀ q,q≠a->q ∉ rest.map (·.2.1)->M' q=M q
 | [],pre,M,ha,_,_=>⟨M,.refl M,by simpa using ha,λ _ _ _=>rfl⟩
 | x::rest,pre,M,ha,hl,hn=>by
  have hx:=hl x (by simp);have hn':=List.nodup_cons.mp hn;have hi:(aR pre++(x::rest).map λ x=>(x.1,W.m x.2.1))[pre.length]? =some (x.1,.m x.2.1):=by rw[List.getElem?_append_right (by simp[aR])];simp[aR]
  have hset:(aR pre++(x::rest).map λ x=>(x.1,W.m x.2.1)).set pre.length (x.1,.d (.list x.2.2))=aR (pre++[(x.1,.list x.2.2)])++rest.map λ x=>(x.1,W.m x.2.1):=by rw[List.set_append_right _ _ (by simp[aR])];simp[aR]
  have hmem:∀ y∈rest,y.2.1≠x.2.1:=λ y hy e=>hn'.1 (by show x.2.1∈_;rw[<- e];exact List.mem_map.mpr ⟨y,hy,rfl⟩);obtain⟨M',sv,h1,h2⟩:=aba (a:=a) rest (pre++[(x.1,.list x.2.2)]) (bN (jX M x.2.1) a (.dic (aR (pre++[(x.1,.list x.2.2)])++rest.map λ x=>(x.1,W.m x.2.1)))) ah (λ y hy=>by have hy':=hl y (by simp[hy]);exact⟨by rw[aw hy'.2,iO (hmem y hy)];exact hy'.1,hy'.2⟩) hn'.2
  refine⟨M',.step ha hi hx.1 hx.2.symm (by rw[hset];exact sv),by rw[h1];simp,λ q hq hnq=>?_⟩;have q1:q≠x.2.1:=λ e=>hnq (by rw[e];simp);rw[h2 q hq (λ z=>hnq (by simp[z])),aw hq,iO q1]
section
variable {X:Cx}{K:FG}
end
section
variable {X:Cx}{o e:Expr}{td te:TD}{apos cpos:Pos}
theorem wu:MtM X "dict.clear" (λ x xs H Q=>∃ a kvs,x=.ref a/\xs=[]/\H a=some (.dK kvs)/\Q .non (upd H a (.dK []))):=by intro pins s σ H x vs v us Q I rx rv h;obtain⟨a,kvs,rfl,rfl,hH,q⟩:=h;cases rx;have hus:=rv.zero;subst hus;exact adw I hH λ s' I'=>⟨.non,_,I',rfl,q⟩
def yZ(td:TD)(τ:DS)(M:MH)(Q:QD):Prop:=td τ M λ w M1=>∃ a kvs,w=.m a/\M1 a=some (.dic kvs)/\Q (.d .none) (bN M1 a (.dic []))
end
theorem vn{X:Cx}{o:Expr}{td:TD}{apos cpos:Pos}(ho:Jd (PD X o td))(hbase:attributeBase o "clear" X.env (eval o X.env)=eval o X.env:=by rfl)(hline:(apos.endLine==cpos.line)=true:=by rfl):Jd (PD X (.Call (.Attribute o "clear" apos) [] [] cpos) (yZ td)):=⟨have ho:=ho.h;
 fN (afl PySem.F.plainAttrs_dict PySem.F.slot_dict_clear PySem.F.type_dict_clear wu ho hbase hline) λ σ H Q h=>by obtain⟨τ,M,Qd,A,h,k⟩:=h;refine⟨τ,M,_,A,h,λ x H1 w M1 kp1 r1 m1 hq110=>?_⟩;obtain⟨a,kvs,ew,hm,q1⟩:=hq110;subst ew;have r1':x=.ref a:=r1;subst r1';obtain⟨l,ea,pr⟩:=m1 _ _ hm;have kp4:Kp H1 (upd H1 a (.dK [])):=Kp.set ea (λ _ z=>nomatch z) (λ _ _ z=>nomatch z);refine⟨.inr (.inr (.inl ⟨rfl,.inl ⟨l,ea⟩⟩)),a,l,rfl,rfl,ea,?_⟩;exact k _ _ (.d .none) _ (kp1.trans kp4) (by simp[aB,ay]) (m1.put (mo:=.dic []) kp4 ⟨_,aq,.nil⟩) q1⟩
section
variable {X:Cx}{K:FG}
def allEq:List PyData->List PyData->Bool
 | d::ds,e::es=>PyData.eqv d e&&allEq ds es
 | _,_=>true
inductive AlD(A:Around) (s:Shared):List (Key×Value)->List (Key×Value)->List PyData->List PyData->Prop
 | nil:AlD A s [] [] [] []
 | cons {k:Key} {v y:Value} {d e:PyData} {va vb:List (Key×Value)} {ds es:List PyData}:SeqAt.EqAt A s v y (PyData.eqv d e)->AlD A s va vb ds es->AlD A s ((k,v)::va) ((k,y)::vb) (d::ds) (e::es)
theorem AlD.hits{A:Around}{s:Shared}{v0:List (Key×Value)}(hn:(v0.map (·.1)).Nodup){va vb:List (Key×Value)}{ds es:List PyData}(h:AlD A s va vb ds es):∀ i,v0.drop i=vb->W.KeqHits A s v0 va (allEq ds es):=by
 induction h with
 | nil=>exact λ _ _=>.nil
 | @cons k v y d e va vb ds es hq _ ih =>
  intro i hi;have h0:v0[i]? =some (k,y):=by
   have:=congrArg (λ l:List (Key×Value)=>l[0]?) hi
   simpa [List.getElem?_drop] using this
  have h1:v0.drop (i+1)=vb:=by
   have:=congrArg List.tail hi
   simpa [List.tail_drop] using this
  exact .hit (valueAt_of_get hn h0) hq (ih (i+1) h1)
theorem ahr{pins:PN}{σ:L2.St}{H:Hp}{s:Shared}(I:Inv X pins σ H s)(hu:X.A.in1.units+64<cLine){ka:List (Key×V)}{ds:List PyData}(pa:Paired (λ p d=>kz X.K H d p.2/\k7 d=true) ka ds):∀ {kb:List (Key×V)} {es:List PyData} {va vb:List (Key×Value)},ka.map (·.1)=kb.map (·.1)->Paired (λ p d=>kz X.K H d p.2/\k7 d=true) kb es->KV ka va->KV kb vb->AlD X.A.in1 s va vb ds es:=by
 induction pa with
 | nil =>
  intro kb es va vb hk pb pc pd;cases pb with
  | nil =>
   cases pc;cases pd;exact .nil
  | cons _ _=>simp at hk
 | cons a _ ih =>
  intro kb es va vb hk pb pc pd;cases pb with
  | nil=>simp at hk
  | cons b pb =>
   cases pc with
   | @cons _ q1 _ _ c pc =>
    cases pd with
    | @cons _ q2 _ _ d pd =>
     obtain⟨k1,v1⟩:=q1;obtain⟨k2,v2⟩:=q2;simp only[List.map_cons,List.cons.injEq] at hk;obtain⟨c1,c2⟩:=c;obtain⟨d1,d2⟩:=d;have e:k1=k2:=c1.symm.trans (hk.1.trans d1);subst e;simp only[k7,Bool.and_eq_true,Bool.not_eq_true'] at a b;obtain⟨as,r1⟩:=cT I _ a.1 c2 a.2.2;obtain⟨bs,r2⟩:=cT I _ b.1 d2 b.2.2;exact .cons (W.keq_at r1 r2 a.2.1 b.2.1 hu) (ih hk.2 pb pc pd)
def aft(K:FG):R2:=λ x y H Q=>∃ a b ka kb ds es,x=.ref a/\y=.ref b/\H a=some (.dK ka)/\H b=some (.dK kb)/\ka.map (·.1)=kb.map (·.1)/\(kb.map (·.1)).Nodup/\Paired (λ p d=>kz K H d p.2/\k7 d=true) ka ds/\Paired (λ p d=>kz K H d p.2/\k7 d=true) kb es/\Q (.bl (!allEq ds es)) H
theorem qW{ka:List (Key×V)}{va:List (Key×Value)}(h:KV ka va):va.map (·.1)=ka.map (·.1):=by
 induction h with
 | nil=>rfl
 | cons a _ ih=>rw[List.map_cons,List.map_cons,ih,a.1]
theorem aco{k:Nat}(hr:ll k X.A):OpR X (compareOp .NotEq) (aft X.K):=by
 intro pins s σ H x y v u Q I rx ry h;obtain⟨a,b,ka,kb,ds,es,rfl,rfl,ha,hb,hk,hn,pa,pb,q⟩:=h;cases rx;cases ry;obtain⟨_,na,va,ra,da⟩:=vO I.hok ha;obtain⟨_,nb,vb,rb,db⟩:=vO I.hok hb;have hl:va.length=vb.length:=by have h1:=congrArg List.length (qW ra);have h2:=congrArg List.length (qW rb);have h3:=congrArg List.length hk;simp only[List.length_map] at h1 h2 h3;omega
 have hu':=hr.units;have hu:X.A.in1.units+64<cLine:=by have:=hr.un;show X.A.units+1+64<cLine;omega
 refine W.keq_ne (r:=allEq ds es) na nb da db (by omega) (λ _=>(ahr I hu pa hk pb ra rb).hits (by rw[qW rb];exact hn) 0 rfl) ⟨.bl _,H,I,rfl,?_⟩;rw[hl]
 simpa using q
def xD(w w':W)(M:MH)(Q:QD):Prop:=∃ a b kvs lvs ds es,w=.m a/\w'=.m b/\M a=some (.dic kvs)/\M b=some (.dic lvs)/\kvs.map (·.1)=lvs.map (·.1)/\(lvs.map (·.1)).Nodup/\Paired (λ(p:Key×W) d=>ux M p.2 d/\k7 d=true) kvs ds/\Paired (λ(p:Key×W) d=>ux M p.2 d/\k7 d=true) lvs es/\Q (.d (.bool (!allEq ds es))) M
theorem rB{H:Hp}{M:MH}(m:cf K H M):∀ {kvs:List (Key×W)} {l:List (Key×V)} {ds:List PyData},Paired (λ(p:Key×W) (q:Key×V)=>p.1=q.1/\aB K H p.2 q.2) kvs l->Paired (λ(p:Key×W) d=>ux M p.2 d/\k7 d=true) kvs ds->Paired (λ p d=>kz K H d p.2/\k7 d=true) l ds/\l.map (·.1)=kvs.map (·.1)
 | _,_,_,.nil,.nil=>⟨.nil,rfl⟩
 | _,_,_,.cons a pa,.cons b pb=>by obtain⟨h1,h2⟩:=rB m pa pb;exact⟨.cons ⟨b.1.sound a.2 m,b.2⟩ h1,by rw[List.map_cons,List.map_cons,h2,a.1]⟩
theorem zF:OpD K (aft K) xD:=by intro x y H w w' M Qd Q r1 r2 m ⟨a,b,kvs,lvs,ds,es,e1,e2,h1,h2,hk,hn,p1,p2,q⟩ k;subst e1 e2;obtain⟨l1,g1,q1⟩:=m _ _ h1;obtain⟨l2,g2,q2⟩:=m _ _ h2;obtain⟨u1,n1⟩:=rB m q1 p1;obtain⟨u2,n2⟩:=rB m q2 p2;exact⟨a,b,l1,l2,ds,es,r1,r2,g1,g2,by rw[n1,n2];exact hk,by rw[n2];exact hn,u1,u2,k _ H (.d (.bool _)) M (Kp.refl H) (by simp[aB,ay]) m q⟩
end
def dnT(ks:List Str):Nat->Nat
 | 0=>0
 | i+1=>if ks.getD i "" ∈ ks.take i then dnT ks i else dnT ks i+1
theorem xB(ks:List Str):∀ i,dnT ks i<=i
 | 0=>Nat.le_refl _
 | i+1=>by
  have:=xB ks i;unfold dnT
  split<;>omega
theorem zx{ks:List Str}{i:Nat}(hi:i<ks.length)(k:Str):decide (k∈ks.take (i+1))=(decide (k∈ks.take i) || decide (k=ks.getD i "")):=by
 have e:ks.take (i+1)=ks.take i++[ks.getD i ""]:=by rw[List.take_add_one,List.getElem?_eq_getElem hi];simp[List.getD,List.getElem?_eq_getElem hi]
 rw[e];simp
section
variable {prog:Program}{w:World}{A:Around}{R:Result->Shared->Prop}{I:Addr}{fp wr:List Addr}{G:Array GenState->Array GenState->Prop}{ks:List Str}{P:Nat->Value->Prop}{St:Nat->Shared->Prop}
abbrev aa8(prog:Program)(w:World)(h:Heap)(S:Addr)(ks:List Str)(i:Nat):Prop:=h.SetOf (strKind prog w) S (λ k=>decide (k∈ks.take i)) (dnT ks i)
theorem wW(Wk:WalksS prog w A.in1 I fp wr G ks.length P St)(S:Addr)(hS:S ∉ fp)(hP:∀ i v,P i v->∃ t,v=.str (ks.getD i "") t)(hb:ks.length+1<scanBound) :
  ∀ (n i:Nat) (s:Shared),i+n=ks.length->St i s->aa8 prog w s.heap S ks i->(∀ s',Moved (S::wr) G s s'->aa8 prog w s'.heap S ks ks.length->R (.ok (.ret .none)) s') ->
   codeAny (model prog w) A (.builtin "set.update.loop" ⟨[.ref S,.ref I],[]⟩) R s:=by
 have hw:S ∉ wr:=λ h=>hS (Wk.sub _ h);have up:∀ b∈wr,b∈S::wr:=λ b h=>List.mem_cons_of_mem _ h;have wc:∀ {s s':Shared} {i:Nat},Moved wr G s s'->aa8 prog w s.heap S ks i->aa8 prog w s'.heap S ks i:=λ hm h=>by obtain⟨o,es,ep,t,ho,rest⟩:=h;exact⟨o,es,ep,t,hm.heap S _ hw ho,rest⟩
 intro n
 induction n with
 | zero =>
  intro i s hi hst hs k;cases (show i=ks.length by omega);refine codeAny_builtin PyProof.Rows.F.entry_set_update_loop ?_;rw[Around.under_plainId PyProof.Rows.F.plain_set_update_loop _];show wpAny _ A.in1 (pyNext (.ref I) >>= _) _ _ s;exact wpAny_bind (Wk.done s _ _ hst λ s' hm=>wpAny_pure (k s' (hm.mono up) (wc hm hs)))
 | succ n ih =>
  intro i s hi hst hs k;have hlt:i<ks.length:=by omega
  refine codeAny_builtin PyProof.Rows.F.entry_set_update_loop ?_;rw[Around.under_plainId PyProof.Rows.F.plain_set_update_loop _];show wpAny _ A.in1 (pyNext (.ref I) >>= _) _ _ s;refine wpAny_bind (Wk.item i s _ _ hlt hst λ v s1 hv hst1 hm=>?_);obtain⟨t,rfl⟩:=hP i v hv;have hs1:=wc hm hs;show wpAny _ A.in1 (holding [Value.str (ks.getD i "") t] (setAdd S (.str (ks.getD i "") t)) >>= _) _ _ s1;refine wpAny_bind (wpAny_holding ?_);unfold setAdd;refine wpAny_holding (wpAny_bind ((strKind prog w).pyHash (k:=ks.getD i "") (strKind_is _ _ _ _) ?_));have hroom:dnT ks i+1<scanBound:=by have:=xB ks i;omega
  refine wpAny_setAddHashed_of (knd:=strKind prog w) (s:={s1 with toks:=s1.toks+1}) (strKind_is _ _ _ _) rfl hs1 hroom λ h' hsb hs2=>?_;have hs3:aa8 prog w h' S ks (i+1):=SetOf_congr hs2 (λ k=>(zx hlt k).symm) (by
   rw[dnT]
   by_cases q:ks.getD i "" ∈ ks.take i
   ·rw[if_pos q,if_pos (decide_eq_true q)]
   ·rw[if_neg q,if_neg (by simpa using q)])
  refine wpAny_pure ⟨plainId_quiet PyProof.Rows.F.plain_set_update_loop _,ih (i+1) _ (by omega) (Wk.frame _ s1 _ _ hst1 (Nat.le_succ _) λ b hb o e=>?_) hs3 λ s2 hm2 hf=>?_⟩
  ·rw[hsb.2 b λ z=>hS (by rw[<- z];exact hb)];exact e
  ·refine k s2 (Moved.trans Wk.gtrans ((hm.mono up).then_heap (Nat.le_succ _) λ b o hb e=>?_) hm2) hf;rw[hsb.2 b λ z=>hb (by rw[z];exact List.mem_cons_self)];exact e
end
section
variable {prog:Program}{w:World}{A:Around}{E:VP}{s:Shared}
abbrev zq(led:Bool):Obj:={cls:=.type "set",dict:=none,data:=.set #[] 0 (.fresh 0 0 led)}
theorem wX{l:Addr}{items:Array Value}{ks:List Str}{led:Bool}(hh:A.handled=none)(hl:s.heap.IsList l items)(hn:items.size=ks.length)(hi:∀ (i:Nat) (v:Value),items[i]? =some v->∃ t,v=Value.str (ks.getD i "") t)(hb:ks.length+1<scanBound)
  {Q:VP}(h:∀ (h':Heap) (tk:Nat),aa8 prog w h' s.heap.objs.size ks ks.length->(∀ b o,b<s.heap.objs.size->s.heap.get? b=some o->h'.get? b=some o)->Q .none {s with heap:=h',toks:=tk}) :
  codeAny (model prog w) A (.call (.builtin "set.__init__") ⟨[.ref s.heap.objs.size,.ref l],[]⟩) (wants Q E) {s with heap:=s.heap.push (zq led)}:=by
 have hS:(s.heap.push (zq led)).get? s.heap.objs.size=some (zq led):=Heap.get?_push_size _ rfl;refine codeAny_call_builtin PySem.F.called_set.init.plain PySem.F.entry_set_init (check_set_init_1 ⟨_,hS,rfl⟩ ?_);obtain⟨⟨ocls,odict,odata,oslots⟩,hol,hcl,nl,hdl⟩:=hl;simp only at hcl hdl;subst hcl hdl;have hol':=Heap.get?_push_of_some (zq led) hol;have hsls:=PySem.F.sub_list_set;have hslf:=PySem.F.sub_list_frozenset;have hne:(Value.type "list" == Value.type "dict")=false:=by decide
 have hl1:(s.heap.push (zq led)).IsList l items:=⟨_,hol',rfl,nl,rfl⟩;have hlS:l<s.heap.objs.size:=Heap.lt_size hol;unfold Builtin.«set.__init__» noKeywords Builtin.Frozenset.updateFrom;generalize hPI:pyIter=PI
 wp_walk
 subst hPI;refine wpAny_pyIter_list hl1 (wpAny_bind (wpAny_runValue ?_));have hz:(s.heap.push (zq led)).objs.size=s.heap.objs.size+1:=Heap.size_push _ _;have h1:l≠(s.heap.push (zq led)).objs.size:=by rw[hz];exact Nat.ne_of_lt (Nat.lt_succ_of_lt hlS)
 have h2:s.heap.objs.size ∉ [(s.heap.push (zq led)).objs.size,l]:=by rw[hz];simp only[List.mem_cons,List.not_mem_nil,or_false,not_or];exact⟨Nat.ne_of_lt (Nat.lt_succ_self _),Nat.ne_of_gt hlS⟩
 have Wk:=(Walks.list (prog:=prog) (w:=w) (A:=A.in1.in1) (by simp[hh]) _ l h1 items).toS;rw[hn] at Wk;refine wW Wk s.heap.objs.size h2 hi hb ks.length 0 _ (by omega) ?_ ?_ ?_
 ·exact⟨⟨_,Heap.get?_push_size _ rfl,rfl,rfl⟩,hl1.push _⟩
 ·exact SetOf_congr ((setObjOf_fresh (knd:=strKind prog w) led).setOf (Heap.get?_push_of_some _ hS) (by unfold scanBound;omega)) (λ k=>by simp) rfl
 ·intro s' hm hs;obtain⟨h',g',d',tk',os'⟩:=s';have e1:g'=s.gens:=hm.gens;have e2:d'=s.drawn:=hm.drawn;have e3:os'=s.os:=hm.os;subst e1 e2 e3;refine wpAny_pure (wpAny_pure (h h' tk' hs λ b o hb e=>?_));refine hm.heap b o ?_ (Heap.get?_push_of_some _ (Heap.get?_push_of_some _ e));simp only[List.mem_cons,List.not_mem_nil,or_false,not_or];exact⟨Nat.ne_of_lt hb,by rw[hz];exact Nat.ne_of_lt (Nat.lt_succ_of_lt hb)⟩
theorem wk{l:Addr}{items:Array Value}{ks:List Str}(hh:A.handled=none)(hl:s.heap.IsList l items)(hn:items.size=ks.length)(hi:∀ (i:Nat) (v:Value),items[i]? =some v->∃ t,v=Value.str (ks.getD i "") t)(hb:ks.length+1<scanBound)
  {Q:VP}(h:∀ (h':Heap) (tk:Nat),aa8 prog w h' s.heap.objs.size ks ks.length->(∀ b o,b<s.heap.objs.size->s.heap.get? b=some o->h'.get? b=some o)->Q (.ref s.heap.objs.size) {s with heap:=h',toks:=tk}) :
  wpAny (model prog w) A (call (.type "set") [.ref l]) Q E s:=by
 obtain⟨c,tl,hmro⟩:=PySem.F.called_set.mro;have hmade:=PySem.F.called_set.made;have hsub:=PySem.F.called_set.sub;have h1:=PySem.F.called_set.notType;have h2:=PySem.F.called_set.canCreate;have hct:=PySem.F.typeCall_set_1 (.ref l);refine wpAny_call (codeAny_of_tree ?_);show wpAny _ _ (callAny (.type "set") _) _ _ _;refine wpAny_pure ⟨Code.quiet_builtin _ (by decide +kernel),codeAny_builtin PySem.F.entry_type_call ?_⟩;rw[Around.under_plain (weight_type_call_type "set" [.ref l] []) rfl]
 repeat (any_goals (first | assumption | wp_step))
 refine codeAny_mono (code_set_new_1 (.ref l) (E:=E) (Q₁:=λ x s1=>∃ led:Bool,x=.ref s.heap.objs.size/\s1={s with heap:=s.heap.push (zq led)}) λ led=>⟨led,rfl,rfl⟩) λ r s1 hr=>?_
 match r,hr with
 | .ok (.ret _),⟨led,e1,e2⟩ =>
  subst e1 e2;have hT:Shared.TypeIs {s with heap:=s.heap.push (zq led)} (.ref s.heap.objs.size) "set":= ⟨_,Heap.get?_push_size _ rfl,rfl⟩;have hli:=PySem.F.called_set.init.lookup;have hbi:=PySem.F.called_set.init.bind (.ref s.heap.objs.size)
  repeat (any_goals (first | assumption | wp_step))
  refine codeAny_mono (wX (E:=E) (Q:=λ x s2=>x=.none/\∃ h' tk,s2={s with heap:=h',toks:=tk}/\aa8 prog w h' s.heap.objs.size ks ks.length/\∀ b o,b<s.heap.objs.size->s.heap.get? b=some o->h'.get? b=some o) (by simp[hh]) hl hn hi hb λ h' tk a b=>⟨rfl,h',tk,rfl,a,b⟩) λ r2 s2 hr2=>?_
  match r2,hr2 with
  | .ok (.ret _),⟨e3,h',tk,e4,a,b⟩ =>
   subst e3 e4
   repeat (any_goals (first | assumption | wp_step))
   exact h h' tk a b
  | .error _,q=>exact q
 | .error _,q=>exact q
end
open L2
section
variable {X:Cx}{K:FG}{e:Expr}{to:TE}{td:TD}{p1 p2 pos1 pos2:Pos}
theorem oB:∀ {zs:List Str} {its:List Value},Vals (zs.map V.str) its->∀ (i:Nat) (v:Value),its[i]? =some v->∃ t,v=Value.str (zs.getD i "") t
 | [],_,.nil,i,v,h=>by simp at h
 | z::zs,_,.cons a r,0,v,h=>by obtain⟨t,e⟩:=a;simp only[List.getElem?_cons_zero,Option.some.injEq] at h;exact⟨t,by rw[<- h,e];rfl⟩
 | z::zs,_,.cons a r,i+1,v,h=>by simp only[List.getElem?_cons_succ] at h;obtain⟨t,e⟩:=oB r i v h;exact⟨t,by rw[e];rfl⟩
def ac6(Q:V->Hp->Prop)(vs:List V)(H:Hp):Prop:=match vs with
 | [x]=>Q x H
 | _=>False
theorem aaU{Q:V->Hp->Prop}{vs:List V}{H:Hp}(h:ac6 Q vs H):∃ x,vs=[x]/\Q x H:=by
 match vs,h with
 | [x],h=>exact⟨x,rfl,h⟩
def ahW(K:FG)(Q:VK)(x:V)(H1:Hp):Prop:=∃ (a:Addr) (zs:List Str),x=.ref a/\SqL K H1 a (zs.map V.str)/\zs.length<=1000/\Q (.int (dnT zs zs.length:Nat)) H1
def ac3(K:FG)(to:TE):TE:=λ σ H Q=>to σ H (ahW K Q)
theorem wV(hc:X.calm=true)(hg1:Gl X "len")(hm1:X.mg "len" = none)(hg2:Gl X "set")(hm2:X.mg "set" = none)(he:PE X e to)(hs:starEach [e] X.env=(false,eval e X.env)::starEach [] X.env:=by rfl)(hpl:(backTo pos2 (starEach [] X.env)).any (·.1)=false:=by rfl) :
  PE X (.Call (.Name "len" p1) [.Call (.Name "set" p2) [e] [] pos2] [] pos1) (ac3 X.K to):=by
 intro pins s σ H Q I h;refine wpAny_Call_Name_kw (fD I hg1 hm1 (u:=.builtin "len") rfl ?_);refine PyProof.Rows.callWith_builtin1 ?_;show wpAny _ _ (spliced ((false,eval (.Call (.Name "set" p2) [e] [] pos2) X.env)::backTo pos1 (starEach [] X.env))) _ _ s;refine Calls.spliced_cons ?_;refine wpAny_Call_Name_kw (fD I hg2 hm2 (u:=.type "set") rfl ?_);refine PyProof.Rows.callWith_type1 (thn (fL he km hs pos2 pins s σ H (ac6 (ahW X.K Q)) I (show n5 to abV σ H (ac6 (ahW X.K Q)) from h)) λ us s1 ⟨vs,H1,I1,r1,q1⟩=>?_) hs hpl;obtain⟨x,rfl,a,zs,rfl,hsq,hl,q⟩:=aaU q1;obtain⟨u,rfl,rx⟩:=vals1 r1;cases rx;obtain⟨its,rv,pl,_⟩:=I1.list hsq;have hn:its.toArray.size=zs.length:=by have:=rv.length;simp only[List.length_map] at this;simp only[List.size_toArray];omega
 refine wk (I1.ok.hd hc) pl.isList hn (λ i v hv=>oB rv i v (by simpa using hv)) (by unfold scanBound;omega) λ h' tk hS hk=>?_;have I2:Inv X pins σ H1 {s1 with heap:=h',toks:=tk}:=I1.kept λ b o e=>hk b o (Heap.lt_size e) e;refine Calls.spliced_nil ?_;obtain⟨o,es,ep,t,ho,hex,hd,_,_,_,hf,hz⟩:=hS;have hle:=xB zs zs.length;refine call_len_set ho hex hd hf (by rw[hz];omega) ⟨.int (dnT zs zs.length:Nat),H1,I2.tok _,⟨_,by rw[hz]⟩,q⟩
def zo(td:TD)(τ:DS)(M:MH)(Q:QD):Prop:=td τ M λ w M1=>∃ zs:List Str,xx M1 w (zs.map PyData.str)/\zs.length<=1000/\Q (.d (.int (dnT zs zs.length:Nat))) M1
theorem pW{H:Hp}:∀ {zs:List Str} {vs:List V},aT K H (zs.map PyData.str) vs->vs=zs.map V.str
 | [],_,h=>by simp only[List.map_nil,aT] at h;rw[h];rfl
 | z::zs,_,h=>by simp only[List.map_cons,aT] at h;obtain⟨v,vs,rfl,h1,h2⟩:=h;simp only[ay] at h1;rw[h1,pW h2];rfl
end
theorem uB{X:Cx}{e:Expr}{td:TD}{p1 p2 pos1 pos2:Pos}(hc:X.calm=true)(hg1:Gl X "len")(hm1:X.mg "len" = none)(hg2:Gl X "set")(hm2:X.mg "set" = none)(he:Jd (PD X e td))(hs:fh e=false:=by rfl) :
  Jd (PD X (.Call (.Name "len" p1) [.Call (.Name "set" p2) [e] [] pos2] [] pos1) (zo td)):=⟨have he:=he.h;fN (wV hc hg1 hm1 hg2 hm2 he (bT e [] X.env hs)) λ σ H Q hq111=>by
 obtain⟨τ,M,Qd,A,h,k⟩:=hq111;refine⟨τ,M,_,A,h,λ x H1 w M1 kp1 r1 m1 hq112=>?_⟩;obtain⟨zs,g,hl,q⟩:=hq112;obtain⟨a,vs,e1,hsq,ra⟩:=g.sound r1 m1;rw[pW ra] at hsq;exact⟨a,zs,e1,hsq,hl,k _ H1 (.d (.int _)) M1 kp1 (by simp[aB,ay]) m1 q⟩⟩
end D
namespace K35
open L2 D Rc Stc
abbrev dU:Addr:=24
abbrev dH:Addr:=44
abbrev eC:Addr:=63
abbrev aE:Addr:=82
abbrev bC:Addr:=191
abbrev aC:Addr:=187
abbrev mY:List Str:=["self", "first", "demanded", "room"]
abbrev eZ:List Str:=["numbers"]
abbrev bS:Str:=(("greatest_first" : Str) ++ ".<locals>." ++ "<lambda>")
def eV:TSd:=
  dR (yy aC bS ⟨104,31,104,66⟩ (au 0) (mL (ag (dUn acg (ft (au 1) (au 0))) (ag (au 0) (aO)))) [0])
abbrev sC:List Str:=["berths", "asked", "demands", "short", "first", "demanded", "room", "left", "laid", "kind", "chosen", "machine"]
def sy(Ex:XE)(aG:SpD)(bK:SpD)(bz:SpD)(bb:SpD)(aI:SpD):TSd:=
  bI (j9 (bG aG (ag (au 0) (ag (au 1) (aO))))) <|
  bI (cq (bG bK (ag (au 1) (aO))) (gN 2)) <|
  bI (cq (bG bz (ag (bG bb (ag (au 0) (aO))) (ag (au 2) (aO)))) (gN 3)) <|
  bI (dIf (bH (dOp (pf true) (au 3) (dC (.d .none))))
   (bI (cq (au 3) (gT 3 (aU (gN 4) (aU (gN 5) (aU (gN 6) (fm)))))) <|
   abR aE ["first", "demanded", "room"] Ex (ag (au 4) (ag (au 5) (ag (au 6) (aO)))))
   (cU)) <|
  bI (cq (dCB gZ (ag (au 0) (aO))) (gN 7)) <|
  bI (nR (cq (dDC (kQ (au 7)) (gN 0) (pE) (au 0) (uA (aO)) 1 []) (gN 8))) <|
  bI (kG (cm (fk (bG aI (ag (au 2) (aO))))) (gN 9)
   (bI (cq (dSl (fk (bG aI (ag (au 7) (aO)))) (eF) (lu (ft (au 2) (au 9)))) (gN 10)) <|
   kG (cm (au 10)) (gN 11)
    (bI (j9 (ix (ft (au 8) (au 11)) (au 9))) <|
    aeJ (au 7) (au 11) (dI 1) (λ i j=>i-j)))) <|
  dR (aeI (jY (dDC (rq (au 8)) (gT 2 (aU (gN 0) (aU (gN 1) (fm)))) (pE) (au 0) (dCB qQ (ag (au 1) (aO))) 2 [])))
abbrev rY:List Str:=["_law_berths_here", "_law_asked_here", "e", "_law_good"]
def sS(cV:SpX):TSd:=
  ah9 (λ Ex =>
   dR (ae8 (ag (dS "told") (ag (abX cV Ex (ag (au 0) (ag (au 1) (aO)))) (aO))))) (ady (abl [(aE,true)]) 2
   (bI (cq (jC (agf (abl [(aE,true)]) (au 2)) (aaw (agf (abl [(aE,false)]) (au 2)))) (gN 3)) <|
    dR (mL (ag (dS "refused") (ag (mL (ag (wR [aE] (au 2) "first") (ag (wR [aE] (au 2) "demanded") (ag (wR [aE] (au 2) "room") (aO))))) (ag (au 3) (aO)))))) (λ _ _ _ _=>False))
abbrev tQ:List Str:=["_law_berths_here", "_law_asked_here", "_law_demands_here", "_law_room", "_law_found", "_law_less", "_law_kind", "_law_order", "_law_fewer", "_law_machine"]
def tT(aQ:SpD):TSd:=
  bI (cq (bG aQ (ag (au 1) (aO))) (gN 2)) <|
  bI (cq (dCB gZ (ag (au 0) (aO))) (gN 3)) <|
  bI (cq (dCB gZ (ag (dLC (cm (au 0)) (gT 2 (aU (gN 0) (aU (gN 1) (fm)))) (pE) (mL (ag (au 0) (ag (aa3 (aO)) (aO)))) 2 []) (aO))) (gN 4)) <|
  bI (kG (cm (fk (dCB nO (ag (jY (dLC (kQ (au 2)) (gN 0) (pE) (mL (ag (dOp qN (dI 0) (ft (au 1) (au 0))) (ag (au 0) (aO)))) 1 [2])) (aO))))) (gT 2 (aU (gN 5) (aU (gN 6) (fm))))
   (bI (cq (fk (dCB nO (ag (jY (dLC (kQ (au 3)) (gN 0) (pE) (mL (ag (dOp qN (dI 0) (ft (au 1) (au 0))) (ag (au 0) (aO)))) 1 [3])) (aO)))) (gN 7)) <|
   kG (cm (dSl (au 7) (eF) (lu (dOp qN (dI 0) (au 5))))) (gT 2 (aU (gN 8) (aU (gN 9) (fm))))
    (bI (rg (au 4) (au 9) (fk (dCB qQ (ag (ag8 (ft (au 4) (au 9)) (aa3 (ag (au 6) (aO)))) (aO))))) <|
    rg (au 3) (au 9) (dOp qN (ft (au 3) (au 9)) (dI 1))))) <|
  dR (au 4)
abbrev pT:List Str:=["_law_found", "_law_berths_here", "_law_demands_here", "_law_machine", "_law_many", "_law_laid_here"]
def qf:TSd:=
  bI (kG (cm (au 1)) (gT 2 (aU (gN 3) (aU (gN 4) (fm))))
   (dIf (dOr (bH (dOp zV (dCB lD (ag (ft (au 0) (au 3)) (aO))) (au 4))) (bH (dOp ahT (zo (ft (au 0) (au 3))) (dCB lD (ag (ft (au 0) (au 3)) (aO))))))
    (dR (dC (.d (.bool false))))
    (cU))) <|
  bI (cq (aa3 (aO)) (gN 5)) <|
  bI (nR (kG (qJ (au 0)) (gN 3)
   (cq (ag8 (au 5) (ft (au 0) (au 3))) (gN 5)))) <|
  dR (jC (dCB acJ (ag (jY (dLC (kQ (au 2)) (gN 0) (pE) (dOp yF (abI (au 1) (au 0)) (ft (au 2) (au 0))) 1 [5,2])) (aO))) (dOp yF (dCB lD (ag (au 5) (aO))) (agU (au 2))))
abbrev oA:List Str:=["_law_berths_here", "_law_asked_here", "_law_handed", "_law_sums_here", "_law_turn", "_law_found", "_law_machine"]
def p8(cO:SpD)(aQ:SpD)(cQ:SpD)(cR:SpD)(cx:SpD):TSd:=
  bI (cq (mL (ag (fk (dCB ia (ag (au 0) (aO)))) (ag (fk (dCB ia (ag (au 1) (aO)))) (aO)))) (gN 2)) <|
  bI (cq (bG cO (ag (au 0) (ag (bG aQ (ag (au 1) (aO))) (aO)))) (gN 3)) <|
  bI (kG (u3 (ag (dI 2) (aO))) (gN 4)
   (bI (cq (bG cQ (ag (dOp dP (au 2) (dI 0)) (ag (dOp dP (au 2) (dI 1)) (aO)))) (gN 5)) <|
   bI (dIf (bH (dOp uW (au 2) (mL (ag (au 0) (ag (au 1) (aO))))))
    (dR (dC (.d (.bool false))))
    (cU)) <|
   bI (dIf (aev (bH (dOp (pf true) (au 3) (dC (.d .none)))) (dOr (bH (dOp uW (au 5) (mL (ag (dS "refused") (ag (au 3) (ag (dC (.d (.bool true))) (aO))))))) (bH (dOp uW (dCB rK (ag (dOp dP (au 5) (dI 1)) (aO))) (dCB rK (ag (au 3) (aO)))))))
    (dR (dC (.d (.bool false))))
    (cU)) <|
   bI (dIf (aev (bH (dOp (pf false) (au 3) (dC (.d .none)))) (dOr (bH (dOp uW (dOp dP (au 5) (dI 0)) (dS "told"))) (bH (dOp xD (dOp dP (au 5) (dI 1)) (bG cR (ag (au 0) (ag (au 1) (aO))))))))
    (dR (dC (.d (.bool false))))
    (cU)) <|
   bI (dIf (aev (bH (dOp (pf false) (au 3) (dC (.d .none)))) (vw (bH (bG cx (ag (dOp dP (au 5) (dI 1)) (ag (au 0) (ag (bG aQ (ag (au 1) (aO))) (aO))))))))
    (dR (dC (.d (.bool false))))
    (cU)) <|
   dIf (bH (dOp (pf false) (au 3) (dC (.d .none))))
    (bI (nR (kG (qJ (dOp dP (au 5) (dI 1))) (gN 6)
     (j9 (ix (ft (dOp dP (au 5) (dI 1)) (au 6)) (dS "x"))))) <|
    j9 (yZ (dOp dP (au 5) (dI 1))))
    (cU))) <|
  dR (dC (.d (.bool true)))
abbrev afS:List Str:=["_law_script", "_law_bag_here", "_law_k", "_law_berths_here", "_law_asked_here", "_law_fitting", "_law_fewer"]
def agq(dY:SpD)(bZ:SpD)(cz:SpD)(cw:SpD)(b9:SpD):TSd:=
  bI (cq (bG dY (ag (au 0) (aO))) (gN 1)) <|
  bI (kG (u3 (ag (dI 3) (aO))) (gN 2)
   (bI (ah6 3 4 (ag (bG bZ (ag (au 1) (ag (dI 8) (ag (dOp dP (aa3 (ag (dI 6) (ag (dI 2) (ag (dI 3) (aO))))) (au 2)) (aO))))) (ag (fk (bG cz (ag (au 1) (ag (dI 8) (ag (dI 6) (aO)))))) (aO)))) <|
   bI (cq (dCB gZ (ag (fk (bG cw (ag (fk (dCB ia (ag (au 3) (aO)))) (ag (fk (dCB ia (ag (au 4) (aO)))) (aO))))) (aO))) (gN 5)) <|
   bI (cq (dLC (cm (au 4)) (gT 3 (aU (gN 0) (aU (gN 1) (aU (gN 2) (fm))))) (pE) (mL (ag (au 0) (ag (au 1) (ag (dCB rV (ag (au 2) (ag (ft (au 3) (au 0)) (aO)))) (aO))))) 3 [5]) (gN 6)) <|
   dIf (dOr (vw (bH (bG b9 (ag (au 3) (ag (au 4) (aO)))))) (vw (bH (bG b9 (ag (au 3) (ag (au 6) (aO)))))))
    (dR (dC (.d (.bool false))))
    (cU))) <|
  dR (dC (.d (.bool true)))
abbrev Code(M:MH):Prop:=M aC=some (.code bS ⟨104,31,104,66⟩)
structure Nb(M:MH)(a:Addr)(zs:List Str):Prop where
 ex:∃ kvs,M a=some (.dic kvs)/\kvs.map (·.1)=zs.map Sum.inr/\∀ z∈zs,∃ n:Int,gJ kvs (.inr z)=some (.d (.int n))
def kR(v:Str->Int)(z:Str):List PyData:=[.int (-(v z)),.str z]
theorem jz(v:Str->Int)(zs:List Str):∀ r∈zs.map (kR v),S.Shape [false,true] r:=λ r hr=>by obtain⟨z,_,rfl⟩:=List.mem_map.mp hr;exact⟨⟨_,rfl⟩,⟨_,rfl⟩,trivial⟩
theorem k6(v:Str->Int)(zs:List Str):((sT (zs.map (kR v)) zs).map (kR v)).Perm (zs.map (kR v))/\((sT (zs.map (kR v)) zs).map (kR v)).Pairwise λ x y=>S.cG y x=false:=by
 by_cases z:zs=[]
 ·subst z;simp[sT,S.bP]
 have z':zs.map (kR v)≠[]:=λ e=>z (List.map_eq_nil_iff.mp e);have hs:=jz v zs;have e:(sT (zs.map (kR v)) zs).map (kR v)=(S.bP (λ i j=>S.cG (S.rowAt (zs.map (kR v)) i) (S.rowAt (zs.map (kR v)) j)) (zs.map (kR v)).length).map (S.rowAt (zs.map (kR v))):=by
  unfold sT;rw[List.map_map,List.length_map];refine List.map_congr_left λ i hi=>?_;have hlt:i<zs.length:=by
   have:=(S.ig (S.fT z' hs) zs.length).1.mem_iff.mp hi
   simpa using this
  simp[Function.comp,S.rowAt,List.getD,List.getElem?_map,List.getElem?_eq_getElem hlt]
 rw[e];exact S.si z' hs
def ord(v:Str->Int)(zs:List Str):List Str:=sT (zs.map (kR v)) zs
theorem cu(v:Str->Int)(zs:List Str):(ord v zs).Perm zs:=yt _ _
theorem zY{v:Str->Int}{zs:List Str}{rows:List (List PyData)}(p:rows.Perm (zs.map (kR v)))(h:rows.Pairwise λ x y=>S.cG y x=false):rows=(ord v zs).map (kR v):=
 S.rH (sh:=[false,true]) (λ r hr=>jz v zs r (p.mem_iff.mp hr)) (p.trans (k6 v zs).1.symm) h (k6 v zs).2
def nKV(v:Str->Int)(zs:List Str):List (Key×W):=zs.map λ z=>(.inr z,.d (.int (v z)))
theorem gG{v:Str->Int}{zs:List Str}{z:Str}(h:z∈zs):gJ (nKV v zs) (.inr z)=some (.d (.int (v z))):=by
 unfold gJ nKV;rw[List.find?_map];cases e:zs.find? ((λ p:Key×W=>decide (p.1=.inr z)) ∘ λ z=>(.inr z,W.d (.int (v z)))) with
 | none =>
  have:=List.find?_eq_none.mp e z h;simp at this
 | some y =>
  have:=List.find?_some e;simp only[Function.comp,decide_eq_true_eq] at this;cases Sum.inr.inj this;rfl
theorem xy{v:Str->Int}{zs:List Str}{z:Str}{n:Int}(h:z∈zs):lQ (nKV v zs) (.inr z) (.d (.int n))=nKV (λ y=>if y=z then n else v y) zs:=by
 unfold lQ;rw[if_pos]
 ·unfold nKV;rw[List.map_map];refine List.map_congr_left λ y _=>?_;show(if (.inr y:Key)=.inr z then ((.inr y:Key),W.d (.int n)) else (.inr y,W.d (.int (v y))))=(.inr y,W.d (.int (if y=z then n else v y)))
  by_cases q:y=z
  ·rw[if_pos (by rw[q]),if_pos q]
  ·rw[if_neg λ e=>q (Sum.inr.inj e),if_neg q]
 ·exact List.any_eq_true.mpr ⟨(.inr z,.d (.int (v z))),List.mem_map.mpr ⟨z,h,rfl⟩,decide_eq_true rfl⟩
def aI:SpD:=λ ws M Q=>∃ (a:Addr) (zs:List Str) (v:Str->Int),ws=[.m a]/\M a=some (.dic (nKV v zs))/\zs.length<64/\Code M/\∀ p,M p=none->Q (.m p) (bN M p (.lst (eD (ord v zs))))
theorem gW:Ln aI 1:=by rintro ws M Q ⟨a,zs,v,rfl,_⟩;rfl
theorem gA:Rd aI eV eZ:=by
 rintro ws M Q ⟨a,zs,v,rfl,h1,hl,hT,k⟩;refine⟨_,rfl,a,nKV v zs,zs,rfl,h1,by unfold nKV;rw[List.map_map];rfl,hl,hT,false,[true],zs.map (kR v),by simp,jz v zs,λ i z r hz hr=>?_,λ p hp=>k p hp⟩;rw[List.getElem?_map,hz] at hr;cases hr;exact⟨_,rfl,_,rfl,a,_,.inr z,_,rfl,.inl h1,rfl,gG (List.mem_of_getElem? hz),_,rfl,_,rfl,_,rfl,few (by simp),rfl,rfl⟩
def Fd(rs ds:List Int):Prop:=∀ k:Nat,k<=ds.length->(ds.take k).sum<=room rs (k:Int)
theorem yG{d:Int}{ds:List Int}(hd:∀ e∈ds,e<=d)(k:Nat)(hk:k<=ds.length):(ds.take k).sum<=((d::ds).take k).sum:=by
 cases k with
 | zero=>simp
 | succ j =>
  have hlt:j<ds.length:=by omega
  have h1:=hd ds[j] (List.getElem_mem hlt);rw[List.take_succ,List.getElem?_eq_getElem hlt,List.sum_append,List.take_succ_cons,List.sum_cons];simp only[Option.toList_some,List.sum_cons,List.sum_nil];omega
theorem yk{T U:List Int}{d:Int}{ds:List Int}(hT:(T.length:Int)=d)(ho:∀ t∈T,∀ u∈U,u<=t)(hf:Fd (T++U) (d::ds)):∀ t∈T,0<t:=by
 intro t ht
 by_cases h:0<t
 ·exact h
 exfalso
 have h1:=hf 1 (by simp);rw[List.take_succ_cons,List.take_zero,List.sum_cons,List.sum_nil,aaI] at h1;have h2:=lO ht (by omega:t<=0);have h3:=ym (U:=U) λ u hu=>by have:=ho t ht u hu;omega
 have e:((1:Nat):Int)=1:=rfl;rw[e] at h1;omega
theorem adN{rs:List Int}{d:Int}{ds:List Int}(hf:Fd rs (d::ds)):d<=rs.length:=by have h1:=hf 1 (by simp);rw[List.take_succ_cons,List.take_zero,List.sum_cons,List.sum_nil] at h1;have:=acs rs;have e:((1:Nat):Int)=1:=rfl;rw[e] at h1;omega
theorem aaS{T U:List Int}{d:Int}{ds:List Int}(hT:(T.length:Int)=d)(ho:∀ t∈T,∀ u∈U,u<=t)(hd:∀ e∈ds,e<=d)(hf:Fd (T++U) (d::ds)):Fd (T.map (λ m=>m-1)++U) ds:=by
 have pos:=yk hT ho hf;intro k hk;rw[aaI]
 by_cases h:∀ u∈U,u<=(k:Int)
 ·have h1:=hf (k+1) (by simp;omega);rw[List.take_succ_cons,List.sum_cons,aaI] at h1;have h2:=rR (k:=(k:Int)) (by omega) pos;have h3:=sG h;have e:((k+1:Nat):Int)=(k:Int)+1:=by omega
  rw[e] at h1;omega
 ·have hex:∃ u∈U,(k:Int)<u:=by
   by_cases q:∃ u∈U,(k:Int)<u
   ·exact q
   ·exact absurd (λ u hu=>by
     by_cases z:u<=(k:Int)
     ·exact z
     ·exact absurd ⟨u,hu,by omega⟩ q) h
  obtain⟨u,hu,hk2⟩:=hex;have h2:=oQ (k:=(k:Int)) (T:=T) λ t ht=>by have:=ho t ht u hu;omega
  have h1:=hf k (by simp;omega);rw[aaI] at h1;have:=yG hd k hk;omega
theorem afM{v:Str->Int}{x y:Str}(h:S.cG (kR v y) (kR v x)=false):v y<=v x:=by
 have h':(if S.sEq (.int (-(v y))) (.int (-(v x)))=true then S.cG [.str y] [.str x] else S.sLt (.int (-(v y))) (.int (-(v x))))=false:=h
 split at h'
 ·rename_i q
  have:=eq_of_beq (show(-(v y) == -(v x))=true from q);omega
 ·have:=of_decide_eq_false (show decide (-(v y) < -(v x))=false from h');omega
theorem yW(v:Str->Int)(zs:List Str):(ord v zs).Pairwise λ x y=>v y<=v x:=by have:=(k6 v zs).2;rw[List.pairwise_map] at this;exact this.imp λ h=>afM h
theorem adj(v:Str->Int)(zs:List Str)(n:Nat):∀ x∈(ord v zs).take n,∀ y∈(ord v zs).drop n,v y<=v x:=by have:=yW v zs;rw[<- List.take_append_drop n (ord v zs),List.pairwise_append] at this;exact this.2.2
theorem abO{zs:List Str}(h:zs.Nodup):∀ i,i<=zs.length->dnT zs i=i
 | 0,_=>rfl
 | i+1,hi=>by
  have ih:=abO h i (by omega);have hlt:i<zs.length:=by omega
  rw[dnT,if_neg,ih];intro q;have e:zs[i]? =some (zs.getD i ""):=by simp[List.getD,List.getElem?_eq_getElem hlt]
  exact iU h e q
def gR(ns:List Str)(n:Int)(z:Str)(st:(Str->Int)×(Str->List Str)):(Str->Int)×(Str->List Str):=
 (λ y=>if y∈(ord st.1 ns).take n.toNat then st.1 y-1 else st.1 y,λ y=>if y∈(ord st.1 ns).take n.toNat then st.2 y++[z] else st.2 y)
def jh(ns:List Str)(n:Str->Int):List Str->(Str->Int)×(Str->List Str)->(Str->Int)×(Str->List Str)
 | [],st=>st
 | z::zs,st=>jh ns n zs (gR ns (n z) z st)
theorem Fd.perm{rs rs' ds:List Int}(h:Fd rs ds)(p:rs.Perm rs'):Fd rs' ds:=λ k hk=>by rw[<- ahN p];exact h k hk
theorem sZ{v:Str->Int}{ns:List Str}(h:ns.Nodup):(ord v ns).Nodup:=(cu v ns).nodup_iff.mpr h
theorem ua{zs:List Str}(h:zs.Nodup)(m:Nat){y:Str}(hy:y∈zs.drop m):y ∉ zs.take m:=λ q=>by rw[<- List.take_append_drop m zs,List.nodup_append] at h;exact h.2.2 y q y hy rfl
theorem vg{ns:List Str}(nd:ns.Nodup)(n:Int)(z:Str)(st:(Str->Int)×(Str->List Str)) :
  (ns.map (gR ns n z st).1).Perm ((((ord st.1 ns).take n.toNat).map st.1).map (λ m=>m-1)++((ord st.1 ns).drop n.toNat).map st.1):=by
 have p:(ns.map (gR ns n z st).1).Perm ((ord st.1 ns).map (gR ns n z st).1):=(cu st.1 ns).symm.map _;refine p.trans ?_;have e:(ord st.1 ns).map (gR ns n z st).1=((ord st.1 ns).take n.toNat).map (gR ns n z st).1++((ord st.1 ns).drop n.toNat).map (gR ns n z st).1:=by rw[<- List.map_append,List.take_append_drop]
 rw[e];have e1:((ord st.1 ns).take n.toNat).map (gR ns n z st).1=(((ord st.1 ns).take n.toNat).map st.1).map (λ m=>m-1):=by rw[List.map_map];refine List.map_congr_left λ y hy=>?_;show(if y∈(ord st.1 ns).take n.toNat then st.1 y-1 else st.1 y)=st.1 y-1;rw[if_pos hy]
 have e2:((ord st.1 ns).drop n.toNat).map (gR ns n z st).1=((ord st.1 ns).drop n.toNat).map st.1:=by refine List.map_congr_left λ y hy=>?_;show(if y∈(ord st.1 ns).take n.toNat then st.1 y-1 else st.1 y)=st.1 y;rw[if_neg (ua (sZ nd) _ hy)]
 rw[e1,e2]
theorem zu{ns:List Str}(nd:ns.Nodup){n:Int}(n0:0<=n){z:Str}{st:(Str->Int)×(Str->List Str)}{ds:List Int}(hd:∀ e∈ds,e<=n)(hf:Fd (ns.map st.1) (n::ds)) :
  Fd (ns.map (gR ns n z st).1) ds/\(∀ y∈(ord st.1 ns).take n.toNat,0<st.1 y)/\(((ord st.1 ns).take n.toNat).length:Int)=n:=by
 have hl:n<=ns.length:=by have:=adN hf;rw[List.length_map] at this;exact this
 have hol:(ord st.1 ns).length=ns.length:=(cu st.1 ns).length_eq;have hlen:(((ord st.1 ns).take n.toNat).length:Int)=n:=by rw[List.length_take];omega
 have pp:(ns.map st.1).Perm (((ord st.1 ns).take n.toNat).map st.1++((ord st.1 ns).drop n.toNat).map st.1):=by rw[<- List.map_append,List.take_append_drop];exact(cu st.1 ns).symm.map _
 have hf2:=hf.perm pp;have hT:((((ord st.1 ns).take n.toNat).map st.1).length:Int)=n:=by rw[List.length_map];exact hlen
 have ho:∀ t∈((ord st.1 ns).take n.toNat).map st.1,∀ u∈((ord st.1 ns).drop n.toNat).map st.1,u<=t:=by intro t ht u hu;obtain⟨x,hx,rfl⟩:=List.mem_map.mp ht;obtain⟨y,hy,rfl⟩:=List.mem_map.mp hu;exact adj st.1 ns n.toNat x hx y hy
 exact⟨(aaS hT ho hd hf2).perm (vg nd n z st).symm,λ y hy=>yk hT ho hf2 _ (List.mem_map.mpr ⟨y,hy,rfl⟩),hlen⟩
theorem aaN{ns:List Str}(nd:ns.Nodup){n:Int}{z:Str}{st:(Str->Int)×(Str->List Str)}(pos:∀ y∈(ord st.1 ns).take n.toNat,0<st.1 y)(h0:∀ y∈ns,0<=st.1 y)(hz:∀ y,z ∉ st.2 y)(hn:∀ y,(st.2 y).Nodup) :
  (∀ y∈ns,0<=(gR ns n z st).1 y)/\(∀ y,(((gR ns n z st).2 y).length:Int)+(gR ns n z st).1 y=(st.2 y).length+st.1 y)/\(∀ y,((gR ns n z st).2 y).Nodup):=by
 refine⟨λ y hy=>?_,λ y=>?_,λ y=>?_⟩
 ·show 0<=if y∈(ord st.1 ns).take n.toNat then st.1 y-1 else st.1 y
  by_cases q:y∈(ord st.1 ns).take n.toNat
  ·rw[if_pos q];have:=pos y q;omega
  ·rw[if_neg q];exact h0 y hy
 ·show((if y∈(ord st.1 ns).take n.toNat then st.2 y++[z] else st.2 y).length:Int)+(if y∈(ord st.1 ns).take n.toNat then st.1 y-1 else st.1 y)=_
  by_cases q:y∈(ord st.1 ns).take n.toNat
  ·rw[if_pos q,if_pos q,List.length_append,List.length_singleton];omega
  ·rw[if_neg q,if_neg q]
 ·show(if y∈(ord st.1 ns).take n.toNat then st.2 y++[z] else st.2 y).Nodup
  by_cases q:y∈(ord st.1 ns).take n.toNat
  ·rw[if_pos q,List.nodup_append];exact⟨hn y,by simp,λ a ha b hb e=>hz y (by rw[List.mem_singleton.mp hb] at e;rw[<- e];exact ha)⟩
  ·rw[if_neg q];exact hn y
theorem ee(z:Str)(f:Str->List Str):∀ ns:List Str,(ns.flatMap f).count z=(ns.map λ y=>(f y).count z).sum
 | []=>rfl
 | y::ns=>by rw[List.flatMap_cons,List.count_append,List.map_cons,List.sum_cons,ee z f ns]
theorem vq{ns:List Str}(nd:ns.Nodup){n:Int}{z:Str}{st:(Str->Int)×(Str->List Str)}(hz:∀ y,z ∉ st.2 y)(hl:(((ord st.1 ns).take n.toNat).length:Int)=n):((ns.flatMap (gR ns n z st).2).count z:Int)=n:=by
 have p:(ns.flatMap (gR ns n z st).2).Perm ((ord st.1 ns).flatMap (gR ns n z st).2):=(cu st.1 ns).symm.flatMap_right _;rw[p.count_eq,<- List.take_append_drop n.toNat (ord st.1 ns),List.flatMap_append,List.count_append,ee,ee];have e1:((ord st.1 ns).take n.toNat).map (λ y=>((gR ns n z st).2 y).count z)=((ord st.1 ns).take n.toNat).map λ _=>1:=by refine List.map_congr_left λ y hy=>?_;show(if y∈(ord st.1 ns).take n.toNat then st.2 y++[z] else st.2 y).count z=1;rw[if_pos hy,List.count_append,List.count_eq_zero.mpr (hz y)];simp
 have e2:((ord st.1 ns).drop n.toNat).map (λ y=>((gR ns n z st).2 y).count z)=((ord st.1 ns).drop n.toNat).map λ _=>0:=by refine List.map_congr_left λ y hy=>?_;show(if y∈(ord st.1 ns).take n.toNat then st.2 y++[z] else st.2 y).count z=0;rw[if_neg (ua (sZ nd) _ hy)];exact List.count_eq_zero.mpr (hz y)
 rw[e1,e2];have s1:∀ l:List Str,(l.map λ _=>1).sum=l.length:=λ l=>by induction l with | nil=>rfl | cons _ _ ih=>rw[List.map_cons,List.sum_cons,ih,List.length_cons];omega
 have s0:∀ l:List Str,(l.map λ _=>0).sum=0:=λ l=>by induction l with | nil=>rfl | cons _ _ ih=>rw[List.map_cons,List.sum_cons,ih]
 rw[s1,s0];omega
theorem lM{ns:List Str}(nd:ns.Nodup){n:Str->Int}:∀ (zs:List Str) (st:(Str->Int)×(Str->List Str)),zs.Nodup->zs.Pairwise (λ x y=>n y<=n x)->(∀ z∈zs,0<=n z)->Fd (ns.map st.1) (zs.map n)->(∀ y∈ns,0<=st.1 y)->(∀ z∈zs,∀ y,z ∉ st.2 y)->(∀ y,(st.2 y).Nodup) ->
  (∀ y∈ns,0<=(jh ns n zs st).1 y)/\(∀ y,(((jh ns n zs st).2 y).length:Int)+(jh ns n zs st).1 y=(st.2 y).length+st.1 y)/\(∀ y,((jh ns n zs st).2 y).Nodup)/\(∀ z,z ∉ zs->∀ y,((jh ns n zs st).2 y).count z=(st.2 y).count z)/\∀ z∈zs,((ns.flatMap (jh ns n zs st).2).count z:Int)=n z
 | [],st,_,_,_,_,h0,_,hn=>⟨h0,λ _=>rfl,hn,λ _ _ _=>rfl,λ z hz=>by cases hz⟩
 | z::zs,st,hzs,hp,hn0,hf,h0,hno,hn=>by
  rw[List.nodup_cons] at hzs;rw[List.pairwise_cons] at hp;rw[List.map_cons] at hf;obtain⟨g1,g2,g3⟩:=zu (z:=z) nd (hn0 z (by simp)) (λ e he=>by obtain⟨y,hy,rfl⟩:=List.mem_map.mp he;exact hp.1 y hy) hf
  have hz:∀ y,z ∉ st.2 y:=hno z (by simp);obtain⟨a1,a2,a3⟩:=aaN (z:=z) nd g2 h0 hz hn;have cnt:∀ x,x≠z->∀ y,((gR ns (n z) z st).2 y).count x=(st.2 y).count x:=λ x hx y=>by
   show(if y∈(ord st.1 ns).take (n z).toNat then st.2 y++[z] else st.2 y).count x=_
   by_cases q:y∈(ord st.1 ns).take (n z).toNat
   ·rw[if_pos q,List.count_append,List.count_eq_zero.mpr (λ e=>hx (List.mem_singleton.mp e))];rfl
   ·rw[if_neg q]
  obtain⟨b1,b2,b3,b4,b5⟩:=lM nd zs (gR ns (n z) z st) hzs.2 hp.2 (λ x hx=>hn0 x (by simp[hx])) g1 a1 (λ x hx y=>by have hxz:x≠z:=λ e=>hzs.1 (by rw[<- e];exact hx);have:=cnt x hxz y;rw[List.count_eq_zero.mpr (hno x (by simp[hx]) y)] at this;exact List.count_eq_zero.mp this) a3
  refine⟨b1,λ y=>(b2 y).trans (a2 y),b3,λ x hx y=>?_,λ x hx=>?_⟩
  ·exact(b4 x (λ q=>hx (by simp[q])) y).trans (cnt x (λ e=>hx (by simp[e])) y)
  ·rcases List.mem_cons.mp hx with e | hx
   ·subst e;show((ns.flatMap (jh ns n zs (gR ns (n x) x st)).2).count x:Int)=n x;have e1:(ns.flatMap (jh ns n zs (gR ns (n x) x st)).2).count x=(ns.flatMap (gR ns (n x) x st).2).count x:=by rw[ee,ee];exact congrArg List.sum (List.map_congr_left λ y _=>b4 x hzs.1 y)
    rw[e1];exact vq nd hz g3
   ·exact b5 x hx
def vB(B:Bs)(z:Str):Int:=((fd Prod.fst B z).map (·.2)).getD 0
theorem xg{B:Bs}(nd:(B.map (·.1)).Nodup){r:Str×Int}(h:r∈B):vB B r.1=r.2:=by
 unfold vB;rw[ain (nm:=Prod.fst) nd h];rfl
theorem kh{B:Bs}(nd:(B.map (·.1)).Nodup):aR (rk Prod.fst gI B)=nKV (vB B) (B.map (·.1)):=by
 unfold aR rk nKV;rw[List.map_map,List.map_map];refine List.map_congr_left λ r hr=>?_;show((.inr r.1:Key),W.d (.int r.2))=(.inr r.1,W.d (.int (vB B r.1)));rw[xg nd hr]
theorem tK{B:Bs}(nd:(B.map (·.1)).Nodup):(B.map (·.1)).map (vB B)=vals B:=by
 unfold vals;rw[List.map_map];exact List.map_congr_left λ r hr=>xg nd hr
theorem kL(A:As):((dmd A).map (·.1)).Nodup:=by
 have:∀ (A:As) (D:Dm),(D.map Prod.fst).Nodup->((A.foldl (λ D r=>more D r.2.1 r.2.2) D).map Prod.fst).Nodup:=by
  intro A
  induction A with
  | nil=>intro D h;exact h
  | cons r A ih=>intro D h;exact ih _ (acQ h)
 exact this A [] List.nodup_nil
theorem abh{α:Type}(xs:List α){n:Int}(h:0<=n):D.cutD xs none (some n)=xs.take n.toNat:=by
 unfold D.cutD;have e:HT.sIx xs.length 0 none=0:=rfl;obtain⟨k,rfl⟩:∃ k:Nat,n=(k:Int):=⟨n.toNat,by omega⟩;rw[e,HT.adI,List.drop_zero,Nat.sub_zero,Int.toNat_natCast]
 by_cases q:k<=xs.length
 ·rw[Nat.min_eq_left q]
 ·rw[Nat.min_eq_right (by omega),List.take_length,List.take_of_length_le (by omega)]
theorem oY:∀ (r:List Str) (x:Str),risingS x r=true->(x::r).Pairwise λ a b=>a.cps.toList<=b.cps.toList
 | [],x,_=>by simp
 | y::r,x,h=>by
  rw[risingS] at h;simp only[Bool.and_eq_true,Bool.not_eq_true',ltCps_eq,decide_eq_false_iff_not] at h;have ih:=oY r y h.2;have hxy:x.cps.toList<=y.cps.toList:=List.not_lt.mp h.1;refine List.pairwise_cons.mpr ⟨λ z hz=>?_,ih⟩;rcases List.mem_cons.mp hz with rfl | hz
  ·exact hxy
  ·exact List.le_trans hxy ((List.pairwise_cons.mp ih).1 z hz)
theorem qg{l:List Str}(h:sortedS l=true):l.Pairwise λ a b=>a.cps.toList<=b.cps.toList:=by
 cases l with
 | nil=>exact .nil
 | cons x r=>exact oY r x h
theorem agi{a b:Str}(h:a.cps.toList=b.cps.toList):a=b:=by
 cases a;cases b;congr 1;exact Array.toList_inj.mp h
theorem vo{as bs:List Str}(p:as.Perm bs)(h1:sortedS as=true)(h2:sortedS bs=true):as=bs:=
 List.Perm.eq_of_pairwise (λ _ _ _ _ a b=>agi (List.le_antisymm a b)) (qg h1) (qg h2) p
def lyc(ms:List Str)(z:Str)(st:(Str->Int)×(Str->List Str)):(Str->Int)×(Str->List Str):=
 (λ y=>if y∈ms then st.1 y-1 else st.1 y,λ y=>if y∈ms then st.2 y++[z] else st.2 y)
theorem zj(z:Str)(st:(Str->Int)×(Str->List Str)):lyc [] z st=st:=by
 unfold lyc;simp
theorem wQ{ms:List Str}{m:Str}(h:m ∉ ms)(z:Str)(st:(Str->Int)×(Str->List Str)):lyc (ms++[m]) z st=(λ y=>if y=m then (lyc ms z st).1 m-1 else (lyc ms z st).1 y,λ y=>if y=m then (lyc ms z st).2 m++[z] else (lyc ms z st).2 y):=by
 unfold lyc;dsimp only;rw[if_neg h,if_neg h];refine Prod.ext (funext λ y=>?_) (funext λ y=>?_)
 ·dsimp only
  by_cases e:y=m
  ·subst e;rw[if_pos (by simp),if_pos rfl]
  ·rw[if_neg e]
   by_cases q:y∈ms
   ·rw[if_pos (by simp[q]),if_pos q]
   ·rw[if_neg (by simp[q,e]),if_neg q]
 ·dsimp only
  by_cases e:y=m
  ·subst e;rw[if_pos (by simp),if_pos rfl]
  ·rw[if_neg e]
   by_cases q:y∈ms
   ·rw[if_pos (by simp[q]),if_pos q]
   ·rw[if_neg (by simp[q,e]),if_neg q]
theorem ph(ns:List Str)(n:Str->Int)(z:Str):∀ (as:List Str) (st:(Str->Int)×(Str->List Str)),jh ns n (as++[z]) st=gR ns (n z) z (jh ns n as st)
 | [],_=>rfl
 | a::as,st=>ph ns n z as (gR ns (n a) a st)
theorem oZ{ns:List Str}{n:Str->Int}{zs:List Str}{i:Nat}{z:Str}(h:zs[i]? =some z)(st:(Str->Int)×(Str->List Str)):jh ns n (zs.take (i+1)) st=lyc ((ord (jh ns n (zs.take i) st).1 ns).take (n z).toNat) z (jh ns n (zs.take i) st):=by rw[List.take_succ,h];exact ph ns n z _ st
theorem qy(ms:List Str)(z:Str)(st:(Str->Int)×(Str->List Str))(y:Str):((lyc ms z st).2 y).length<=(st.2 y).length+1:=by
 unfold lyc;dsimp only
 split
 ·rw[List.length_append,List.length_singleton];exact Nat.le_refl _
 ·omega
theorem jA(ns:List Str)(n:Str->Int):∀ (zs:List Str) (st:(Str->Int)×(Str->List Str)) (y:Str),((jh ns n zs st).2 y).length<=(st.2 y).length+zs.length
 | [],_,_=>Nat.le_refl _
 | z::zs,st,y=>by have h1:=jA ns n zs (gR ns (n z) z st) y;have h2:=qy ((ord st.1 ns).take (n z).toNat) z st y;have e:gR ns (n z) z st=lyc ((ord st.1 ns).take (n z).toNat) z st:=rfl;rw[<- e] at h2;show((jh ns n zs (gR ns (n z) z st)).2 y).length<=_;rw[List.length_cons];omega
structure Ld(M0 M:MH)(c:Addr)(L:List (Str×Addr×List Str)):Prop where
 d:M c=some (.dic (L.map λ x=>(.inr x.1,.m x.2.1)))
 l:∀ x∈L,M x.2.1=some (.lst (eD x.2.2))/\x.2.1≠c/\M0 x.2.1=none
 n:(L.map (·.2.1)).Nodup
theorem kU{B:Bs}(h:OkB B):(B.map (·.1)).Nodup:=by
 have tr:∀ (d:Nat) (i:Nat) r s,B[i]? =some r->B[i+1+d]? =some s->r.1.cps.toList<s.1.cps.toList:=by
  intro d
  induction d with
  | zero=>intro i r s h1 h2;exact of_decide_eq_true (h.up i r s h1 h2)
  | succ d ih =>
   intro i r s h1 h2;have hlt:=(List.getElem?_eq_some_iff.mp h2).1;have hm:B[i+1+d]? =some (B[i+1+d]'(by omega)):=List.getElem?_eq_getElem (by omega);exact List.lt_trans (ih i r _ h1 hm) (of_decide_eq_true (h.up (i+1+d) _ s hm h2))
 rw[List.nodup_iff_pairwise_ne,List.pairwise_iff_getElem];intro i j hi hj hij e;rw[List.length_map] at hi hj;simp only[List.getElem_map] at e;have:=tr (j-i-1) i B[i] B[j] (List.getElem?_eq_getElem hi) (by rw[show i+1+(j-i-1)=j by omega];exact List.getElem?_eq_getElem hj);rw[e] at this;exact List.lt_irrefl _ this
theorem uL{rs:List Int}{D:Dm}:dB rs D=.none\/∃ i j k,dB rs D=.tuple [.int i,.int j,.int k]:=by
 unfold dB mQ;cases (List.range (dsc (vals D)).length).find? (nB rs (dsc (vals D))) with
 | none=>exact .inl rfl
 | some i=>exact .inr ⟨_,_,_,rfl⟩
theorem sA{κ α:Type}[DecidableEq κ]{t:List (κ×α)}{k:κ}{v:α}(h:k ∉ t.map (·.1)):lQ t k v=t++[(k,v)]:=by
 unfold lQ;rw[if_neg];intro q;obtain⟨p,hp,e⟩:=List.any_eq_true.mp q;exact h (List.mem_map.mpr ⟨p,hp,of_decide_eq_true e⟩)
theorem Ld.get{M0 M:MH}{c:Addr}{L:List (Str×Addr×List Str)}(nd:(L.map (·.1)).Nodup){x:Str×Addr×List Str}(hx:x∈L):gJ (L.map λ x=>((.inr x.1:Key),W.m x.2.1)) (.inr x.1)=some (.m x.2.1):=by
 unfold gJ;rw[List.find?_map];have:L.find? ((λ p:Key×W=>decide (p.1=.inr x.1)) ∘ λ x=>(.inr x.1,W.m x.2.1))=some x:=by rw[List.find?_eq_some_iff_getElem];obtain⟨i,hi,e⟩:=List.mem_iff_getElem.mp hx;refine⟨by simp,i,hi,e,λ j hj=>?_⟩;simp only[Function.comp,Bool.not_eq_true',decide_eq_false_iff_not];intro q;have q:L[j].1=x.1:=Sum.inr.inj q;rw[List.nodup_iff_pairwise_ne,List.pairwise_iff_getElem] at nd;exact nd j i (by rw[List.length_map];omega) (by rw[List.length_map];omega) hj (by simp only[List.getElem_map];rw[q,<- e])
 rw[this];rfl
theorem fI{M:MH}{l:Addr}{o:MO}(h:M l=none):jX (bN M l o) l=M:=by
 funext q
 by_cases e:q=l
 ·subst e;rw[h];simp[jX]
 ·rw[iO e,aw e]
theorem gE(zs:List Str):eD zs=(zs.map PyData.str).map W.d:=by rw[List.map_map];rfl
theorem ado(xs:List Str)(lo hi:Option Int):D.cutD (xs.map PyData.str) lo hi=(D.cutD xs lo hi).map PyData.str:=by
 unfold D.cutD;rw[List.length_map,List.map_take,List.map_drop]
theorem zN(xs:List Str)(lo hi:Option Int):slW (.d (.list (xs.map PyData.str))) lo hi=some (.d (.list ((D.cutD xs lo hi).map PyData.str))):=by simp only[slW,ado]
theorem aa4{L:List (Str×Addr×List Str)}(nd:(L.map (·.1)).Nodup){x y:Str×Addr×List Str}(hx:x∈L)(hy:y∈L)(e:y.1=x.1):y=x:=by
 obtain⟨i,hi,ei⟩:=List.mem_iff_getElem.mp hx;obtain⟨j,hj,ej⟩:=List.mem_iff_getElem.mp hy;rw[List.nodup_iff_pairwise_ne,List.pairwise_iff_getElem] at nd
 by_cases q:i=j
 ·subst q;rw[<- ei,<- ej]
 ·exfalso
  rcases Nat.lt_or_gt_of_ne q with q | q
  ·exact nd i j (by rw[List.length_map];exact hi) (by rw[List.length_map];exact hj) q (by simp only[List.getElem_map];rw[ei,ej,e])
  ·exact nd j i (by rw[List.length_map];exact hj) (by rw[List.length_map];exact hi) q (by simp only[List.getElem_map];rw[ei,ej,e])
theorem aaR{L:List (Str×Addr×List Str)}(nd:(L.map (·.2.1)).Nodup){x y:Str×Addr×List Str}(hx:x∈L)(hy:y∈L)(e:y.2.1=x.2.1):y=x:=by
 obtain⟨i,hi,ei⟩:=List.mem_iff_getElem.mp hx;obtain⟨j,hj,ej⟩:=List.mem_iff_getElem.mp hy;rw[List.nodup_iff_pairwise_ne,List.pairwise_iff_getElem] at nd
 by_cases q:i=j
 ·subst q;rw[<- ei,<- ej]
 ·exfalso
  rcases Nat.lt_or_gt_of_ne q with q | q
  ·exact nd i j (by rw[List.length_map];exact hi) (by rw[List.length_map];exact hj) q (by simp only[List.getElem_map];rw[ei,ej,e])
  ·exact nd j i (by rw[List.length_map];exact hj) (by rw[List.length_map];exact hi) q (by simp only[List.getElem_map];rw[ei,ej,e])
theorem acP{B:Bs}{i:Nat}{w:W}(h:(cE (rk Prod.fst gI B))[i]? =some w):∃ r,B[i]? =some r/\w=.d (.str r.1):=by
 unfold cE rk at h;rw[List.map_map] at h;obtain⟨r,hr,rfl⟩:=cS h;exact⟨r,hr,rfl⟩
structure Ly(M M0 M':MH)(a p c:Addr)(A:As)(ns:List Str)(L:List (Str×Addr×List Str))(st:(Str->Int)×(Str->List Str)):Prop where
 ld:Ld M0 M' c L
 nm:L.map (·.1)=ns
 ls:∀ x∈L,x.2.2=st.2 x.1
 nb:M' p=some (.dic (nKV st.1 ns))
 dc:Dc M' a (dmd A)
 x:Ext M M'
theorem Ly.step{M M0 M':MH}{a p c:Addr}{A:As}{ns:List Str}{L:List (Str×Addr×List Str)}{st:(Str->Int)×(Str->List Str)}(h:Ly M M0 M' a p c A ns L st)(nd:ns.Nodup)(hx0:Ext M M0)(ha0:M0 a≠none)(hp0:M0 p≠none)(hpM:M p=none)(hcp:c≠p)(hap:a≠p){x:Str×Addr×List Str}(hx:x∈L){z:Str} :
  ∃ L',Ly M M0 (bN (bN M' x.2.1 (.lst (eD x.2.2++[.d (.str z)]))) p (.dic (lQ (nKV st.1 ns) (.inr x.1) (.d (.int (st.1 x.1-1)))))) a p c A ns L' (λ y=>if y=x.1 then st.1 x.1-1 else st.1 y,λ y=>if y=x.1 then st.2 x.1++[z] else st.2 y):=by
 have hxl:=h.ld.l x hx;have xp:x.2.1≠p:=λ e=>hp0 (by rw[<- e];exact hxl.2.2);have xa:x.2.1≠a:=λ e=>ha0 (by rw[<- e];exact hxl.2.2);have xM:M x.2.1=none:=hx0.none hxl.2.2;have nd':(L.map (·.1)).Nodup:=by rw[h.nm];exact nd
 have hns:x.1∈ns:=by rw[<- h.nm];exact List.mem_map.mpr ⟨x,hx,rfl⟩
 rw[xy hns];refine⟨L.map λ y=>if y.1=x.1 then (y.1,y.2.1,y.2.2++[z]) else y,⟨?_,λ y hy=>?_,?_⟩,?_,λ y hy=>?_,ah,?_,?_⟩
 ·rw[aw hcp,aw hxl.2.1.symm,h.ld.d,List.map_map];refine congrArg (λ t=>some (MO.dic t)) (List.map_congr_left λ y _=>?_);show(.inr y.1,W.m y.2.1)=((.inr (if y.1=x.1 then (y.1,y.2.1,y.2.2++[z]) else y).1:Key),W.m (if y.1=x.1 then (y.1,y.2.1,y.2.2++[z]) else y).2.1)
  split<;>rfl
 ·obtain⟨y0,hy0,rfl⟩:=List.mem_map.mp hy;have hyl:=h.ld.l y0 hy0;have yp:y0.2.1≠p:=λ e=>hp0 (by rw[<- e];exact hyl.2.2)
  by_cases e:y0.1=x.1
  ·have:=aa4 nd' hx hy0 e;subst this;rw[if_pos rfl];exact⟨by rw[aw yp,ah];unfold eD;rw[List.map_append];rfl,hyl.2⟩
  ·rw[if_neg e];have na:y0.2.1≠x.2.1:=λ q=>e (by rw[aaR h.ld.n hx hy0 q]);exact⟨by rw[aw yp,aw na];exact hyl.1,hyl.2⟩
 ·rw[List.map_map];have e:L.map ((λ y:Str×Addr×List Str=>y.2.1) ∘ λ y=>if y.1=x.1 then (y.1,y.2.1,y.2.2++[z]) else y)=L.map (·.2.1):=List.map_congr_left λ y _=>by
   show(if y.1=x.1 then (y.1,y.2.1,y.2.2++[z]) else y).2.1=y.2.1
   split<;>rfl
  rw[e];exact h.ld.n
 ·rw[List.map_map,<- h.nm];exact List.map_congr_left λ y _=>by
   show(if y.1=x.1 then (y.1,y.2.1,y.2.2++[z]) else y).1=y.1
   split<;>rfl
 ·obtain⟨y0,hy0,rfl⟩:=List.mem_map.mp hy
  by_cases e:y0.1=x.1
  ·rw[if_pos e];dsimp only;rw[if_pos e,h.ls y0 hy0,e]
  ·rw[if_neg e];dsimp only;rw[if_neg e];exact h.ls y0 hy0
 ·unfold Dc;rw[aw hap,aw xa.symm];exact h.dc
 ·exact(h.x.upd xM).upd hpM
def kds(A:As):List Str:=ord (vB (dmd A)) ((dmd A).map (·.1))
def fin(B:Bs)(A:As):(Str->Int)×(Str->List Str):=jh (B.map (·.1)) (vB (dmd A)) (kds A) (vB B,λ _=>[])
structure Laid(M M':MH)(e:Addr)(B:Bs)(A:As)(L:List (Str×Addr×List Str)):Prop where
 ld:Ld M M' e L
 nm:L.map (·.1)=B.map (·.1)
 ls:∀ x∈L,x.2.2.Perm ((fin B A).2 x.1)/\sortedS x.2.2=true
 e0:M e=none
 x:Ext M M'
def xN(i j k:Int):MO:=.exc aE [("first",.d (.int i)),("demanded",.d (.int j)),("room",.d (.int k))]
def cV:SpX:=λ ws M Q E=>∃ (B:Bs) (A:As),ws=[.d (bsD B),.d (asD A)]/\OkB B/\OkA A/\Code M/\(dB (rooms B) (dmd A)=.none->∀ e M' L,Laid M M' e B A L->Q (.m e) M')/\∀ i j k,dB (rooms B) (dmd A)=.tuple [.int i,.int j,.int k]->∀ a M1,Ext M M1->M1 a=none->E a (bN M1 a (xN i j k))
theorem uO:LnX cV 2:=by rintro ws M Q E ⟨d1,d2,rfl,_⟩;rfl
theorem wF{A:As}(h:OkA A)(z:Str):0<=vB (dmd A) z:=by
 unfold vB;cases e:fd Prod.fst (dmd A) z with
 | none=>exact Int.le_refl _
 | some r=>exact((wB h.c).2 r (abC e).1).1
theorem qL:RdX cV (λ Ex=>sy Ex aG bK bz bb aI) sC:=by
 rintro ws M Q E ⟨B,A,rfl,hB,hA,hT,K,KX⟩;have s16':=s16;refine⟨_,rfl,_,rfl,B,A,rfl,hB,hA,?_⟩;have hd8:(dmd A).length<=8:=by have:=(jQ hA.c A.length (Nat.le_refl _)).1;rw[List.take_length] at this;have:=hA.len;omega
 have hB8:=hB.len;refine⟨_,rfl,A,rfl,hA.c,λ a M1 ha1 h1 x1=>?_⟩;refine⟨_,rfl,B,rfl,hB.len,_,rfl,rooms B,a,dmd A,rfl,h1,by omega,hB.r,λ M2 x2=>?_⟩;have h2:Dc M2 a (dmd A):=x2 _ _ h1;have x02:Ext M M2:=x1.trans x2;refine⟨_,rfl,rfl,_,rfl,?_⟩;rcases uL (rs:=rooms B) (D:=dmd A) with e | ⟨i,j,k,e⟩
 ·replace K:=K e;rw[e];have nd:=kU hB;have ndd:=kL A;have ep:(rk Prod.fst gI B).map _root_.D.pairD=B.map bD:=by unfold rk;rw[List.map_map];rfl
  have nk:((rk Prod.fst gI B).map (·.1)).Nodup:=by
   have:(rk Prod.fst gI B).map (·.1)=(B.map (·.1)).map Sum.inr:=by unfold rk;rw[List.map_map,List.map_map];rfl
   rw[this];exact List.Pairwise.map _ (λ a b hab e=>hab (Sum.inr.inj e)) nd
  refine jx ⟨_,rfl,_,rk Prod.fst gI B,rfl,by rw[ep];exact .d,nk,λ p hp=>?_⟩;have hpM:M p=none:=x02.none hp;have ap:a≠p:=λ q=>by rw[<- q] at hp;unfold Dc at h2;rw[hp] at h2;cases h2
  refine⟨p,aR (rk Prod.fst gI B),ah,?_⟩;rw[g7];refine⟨_,rfl,p,rk Prod.fst gI B,rfl,ah,λ c hc=>?_⟩;generalize hM0:bN M2 p (.fdic (aR (rk Prod.fst gI B)))=M0 at hc;have hp0:M0 p=some (.fdic (aR (rk Prod.fst gI B))):=by rw[<- hM0];exact ah
  have ha0:M0 a=some (.dic (aR (rk Prod.fst gI (dmd A)))):=by rw[<- hM0,aw ap];exact h2
  have x0:Ext M M0:=by rw[<- hM0];exact x02.upd hpM
  have hcp:c≠p:=λ q=>by rw[q,hp0] at hc;cases hc
  have hac:a≠c:=λ q=>by rw[<- q,ha0] at hc;cases hc
  refine⟨λ i τ M'=>∃ L:List (Str×Addr×List Str),L.map (·.1)=(B.take i).map (·.1)/\Ld M0 M' c L/\(∀ x∈L,x.2.2=[])/\Ext M0 M'/\∃ x,τ=[x],⟨[],by simp,⟨ah,λ x hx=>(by cases hx),List.nodup_nil⟩,λ x hx=>(by cases hx),Ext.new hc,_,rfl⟩,?_,?_⟩
  ·rintro i w τ M' hw ⟨L,e1,hL,hem,xM,x,rfl⟩;obtain⟨r,hr,rfl⟩:=acP hw;have hi:=(List.getElem?_eq_some_iff.mp hr).1;have hll:L.length<=8:=by have:=congrArg List.length e1;rw[List.length_map,List.length_map,List.length_take] at this;omega
   refine⟨_,rfl,few (by simp),λ l hl=>?_⟩;have lc:l≠c:=λ q=>by rw[q,hL.d] at hl;cases hl
   have hnew:(.inr r.1:Key) ∉ (L.map λ x=>((.inr x.1:Key),W.m x.2.1)).map (·.1):=by
    intro q;rw[List.map_map] at q;obtain⟨y,hy,ey⟩:=List.mem_map.mp q;have ey:y.1=r.1:=Sum.inr.inj ey;have hm:r.1∈(B.take i).map (·.1):=by rw[<- e1,<- ey];exact List.mem_map.mpr ⟨y,hy,rfl⟩
    rw[List.map_take] at hm;exact iU nd (by rw[List.getElem?_map,hr];rfl) hm
   refine⟨L.map λ x=>(.inr x.1,.m x.2.1),.inr r.1,by rw[aw lc.symm];exact hL.d,rfl,by rw[List.length_map];omega,L++[(r.1,l,[])],?_,⟨?_,λ y hy=>?_,?_⟩,λ y hy=>?_,?_,_,rfl⟩
   ·rw[List.map_append,e1,List.take_succ,hr];simp
   ·rw[ah,sA hnew];simp
   ·rcases List.mem_append.mp hy with hy | hy
    ·have hyl:=hL.l y hy;have yl:y.2.1≠l:=λ q=>by rw[<- q,hyl.1] at hl;cases hl
     exact⟨by rw[aw hyl.2.1,aw yl];exact hyl.1,hyl.2⟩
    ·rw[List.mem_singleton.mp hy];exact⟨by rw[aw lc,ah];rfl,lc,xM.none hl⟩
   ·rw[List.map_append,List.nodup_append];refine⟨hL.n,by simp,λ u hu v hv q=>?_⟩;obtain⟨y,hy,rfl⟩:=List.mem_map.mp hu;have hv:v=l:=by simpa using hv
    rw[hv] at q;rw[<- q,(hL.l y hy).1] at hl;cases hl
   ·rcases List.mem_append.mp hy with hy | hy
    ·exact hem y hy
    ·rw[List.mem_singleton.mp hy]
   ·exact(xM.upd (xM.none hl)).upd hc
  ·rintro τ M' ⟨L,e1,hL,hem,xM,x,rfl⟩;have en:(cE (rk Prod.fst gI B)).length=B.length:=by simp[cE,rk]
   have en:(cE (rk Prod.fst gI B)).length=B.length:=by simp[cE,rk]
   rw[en,List.take_length] at e1;refine⟨xM _ _ hp0,?_⟩;have ly0:Ly M M0 (bN M' p (.dic (aR (rk Prod.fst gI B)))) a p c A (B.map (·.1)) L (vB B,λ _=>[]):=by
    refine⟨⟨by rw[aw hcp];exact hL.d,λ y hy=>?_,hL.n⟩,e1,hem,by rw[ah,kh nd],?_,(x0.trans xM).upd hpM⟩
    ·have hyl:=hL.l y hy;have yp:y.2.1≠p:=λ q=>by rw[q,hp0] at hyl;cases hyl.2.2
     exact⟨by rw[aw yp];exact hyl.1,hyl.2⟩
    ·unfold Dc;rw[aw ap];exact xM _ _ ha0
   generalize bN M' p (.dic (aR (rk Prod.fst gI B)))=M4 at ly0;have c4:Code M4:=ly0.x _ _ hT;have dc4:M4 a=some (.dic (nKV (vB (dmd A)) ((dmd A).map (·.1)))):=by rw[<- kh ndd];exact ly0.dc
   refine⟨_,rfl,a,(dmd A).map (·.1),vB (dmd A),rfl,dc4,by rw[List.length_map];omega,c4,λ l hl=>⟨l,(kds A).map PyData.str,rfl,by rw[ah,gE];rfl,_,rfl,?_⟩⟩;have del4:jX (bN M4 l (.lst (eD (ord (vB (dmd A)) ((dmd A).map (·.1)))))) l=M4:=fI hl;rw[del4];have perm:(kds A).Perm ((dmd A).map (·.1)):=cu _ _;have hfin:fin B A=jh (B.map (·.1)) (vB (dmd A)) (kds A) (vB B,λ _=>[]):=rfl;generalize kds A=zs at perm hfin;have hzl:zs.length<=8:=by rw[perm.length_eq,List.length_map];exact hd8
   refine⟨λ i τ M'=>∃ L,Ly M M0 M' a p c A (B.map (·.1)) L (jh (B.map (·.1)) (vB (dmd A)) (zs.take i) (vB B,λ _=>[]))/\∃ y9 y10 y11,τ=[some (.d (bsD B)),some (.d (asD A)),some (.m a),some (.d .none),none,none,none,some (.m p),some (.m c),y9,y10,y11],⟨L,ly0,_,_,_,rfl⟩,?_,?_⟩
   ·rintro i w τ M5 hw ⟨L,ly,y9,y10,y11,rfl⟩;rw[List.map_map] at hw;obtain⟨z9,hz9,rfl⟩:=cS hw;have hi:i<zs.length:=(List.getElem?_eq_some_iff.mp hz9).1;have hzm:z9∈(dmd A).map (·.1):=perm.mem_iff.mp (List.mem_of_getElem? hz9);have hn0:=wF hA z9;have hs:=oZ (ns:=B.map (·.1)) (n:=vB (dmd A)) hz9 (vB B,λ _=>[]);have hlen:∀ y,((jh (B.map (·.1)) (vB (dmd A)) (zs.take i) (vB B,λ _=>[])).2 y).length<=i:=λ y=>by have:=jA (B.map (·.1)) (vB (dmd A)) (zs.take i) (vB B,λ _=>[]) y;rw[List.length_take] at this;simp only[List.length_nil] at this;omega
    generalize jh (B.map (·.1)) (vB (dmd A)) (zs.take i) (vB B,λ _=>[])=st at ly hlen hs;refine⟨_,rfl,p,B.map (·.1),st.1,rfl,ly.nb,by rw[List.length_map];omega,ly.x _ _ hT,λ l2 hl2=>⟨l2,(ord st.1 (B.map (·.1))).map PyData.str,rfl,by rw[ah,gE],?_⟩⟩;rw[fI hl2];have dc5:M5 a=some (.dic (nKV (vB (dmd A)) ((dmd A).map (·.1)))):=by rw[<- kh ndd];exact ly.dc
    refine⟨_,rfl,_,rfl,a,_,.inr z9,_,rfl,.inl dc5,rfl,gG hzm,_,rfl,_,zN _ none (some (vB (dmd A) z9)),rfl,?_⟩;rw[abh _ hn0];have perm2:=cu st.1 (B.map (·.1));have cnd:((ord st.1 (B.map (·.1))).take (vB (dmd A) z9).toNat).Nodup:=(List.take_sublist _ _).nodup (perm2.nodup_iff.mpr nd);have hsub:∀ z∈(ord st.1 (B.map (·.1))).take (vB (dmd A) z9).toNat,z∈B.map (·.1):=λ z hz=>perm2.mem_iff.mp (List.mem_of_mem_take hz);generalize (ord st.1 (B.map (·.1))).take (vB (dmd A) z9).toNat=cs at cnd hsub hs;refine⟨_,rfl,_,rfl,?_⟩;refine⟨λ j τ M'=>∃ L,Ly M M0 M' a p c A (B.map (·.1)) L (lyc (cs.take j) z9 st)/\∃ y11,τ=[some (.d (bsD B)),some (.d (asD A)),some (.m a),some (.d .none),none,none,none,some (.m p),some (.m c),some (.d (.str z9)),some (.d (.list (cs.map PyData.str))),y11],⟨L,by rw[List.take_zero,zj];exact ly,_,rfl⟩,?_,?_⟩
    ·rintro j w τ M6 hw2 ⟨L,ly,y11,rfl⟩;rw[List.map_map] at hw2;obtain⟨z,hz,rfl⟩:=cS hw2;have hzn:z∈B.map (·.1):=hsub z (List.mem_of_getElem? hz);obtain⟨x,hx,rfl⟩:∃ x∈L,x.1=z:=by rw[<- ly.nm] at hzn;obtain⟨x,hx,e⟩:=List.mem_map.mp hzn;exact⟨x,hx,e⟩
     have nd':(L.map (·.1)).Nodup:=by rw[ly.nm];exact nd
     have hxl:=ly.ld.l x hx;have xp:x.2.1≠p:=λ q=>by rw[q,hp0] at hxl;cases hxl.2.2
     have hle:x.2.2.length<=9:=by rw[ly.ls x hx];have:=qy (cs.take j) z9 st x.1;have:=hlen x.1;omega
     have hnt:x.1 ∉ cs.take j:=iU cnd hz;have ly':=ly.step nd x0 (by rw[ha0];simp) (by rw[hp0];simp) hpM hcp ap hx (z:=z9);rw[<- wQ hnt,show cs.take j++[x.1]=cs.take (j+1) from by rw[List.take_succ,hz];rfl] at ly';obtain⟨L',ly'⟩:=ly';refine⟨_,rfl,_,rfl,c,_,.inr x.1,_,rfl,.inl ly.ld.d,rfl,Ld.get (M0:=M0) (M:=M6) (c:=c) nd' hx,x.2.1,_,rfl,hxl.1,_,rfl,_,hxl.1,by unfold eD;rw[List.length_map];omega,?_⟩;refine⟨_,rfl,_,rfl,p,_,.inr x.1,(lyc (cs.take j) z9 st).1 x.1,rfl,rfl,by rw[aw xp.symm];exact ly.nb,gG hzn,by unfold nKV;rw[List.length_map,List.length_map];omega,_,rfl,rfl,?_⟩;exact⟨L',ly',_,rfl⟩
    ·rintro τ M6 ⟨L,ly,y11,rfl⟩;rw[List.length_map,List.length_map,List.take_length] at ly;exact⟨L,by rw[hs];exact ly,_,_,_,rfl⟩
   ·rintro τ M5 ⟨L,ly,y9,y10,y11,rfl⟩;rw[List.length_map,List.length_map,List.take_length,<- hfin] at ly;have hlen:∀ x∈L,x.2.2.length<=8:=λ x hx=>by have:=jA (B.map (·.1)) (vB (dmd A)) zs (vB B,λ _=>[]) x.1;rw[<- hfin,<- ly.ls x hx] at this;simp only[List.length_nil] at this;omega
    obtain⟨M6,sv,g1,g2⟩:=aba (a:=c) (L.map λ x=>((.inr x.1:Key),x.2.1,x.2.2.map PyData.str)) [] M5 (by rw[ly.ld.d,List.map_map];rfl) (λ y hy=>by obtain⟨x,hx,rfl⟩:=List.mem_map.mp hy;have:=ly.ld.l x hx;exact⟨by rw[this.1,gE],this.2.1⟩) (by rw[List.map_map];exact ly.ld.n)
    have x6:Ext M M6:=λ q o e=>by
     have hq:=x0 q o e;rw[g2 q (λ z=>by rw[z,hc] at hq;cases hq) λ z=>by rw[List.map_map] at z;obtain⟨x,hx,rfl⟩:=List.mem_map.mp z;have:=(ly.ld.l x hx).2.2;rw[show((λ x:Key×Addr×List PyData=>x.2.1) ∘ λ x:Str×Addr×List Str=>((.inr x.1:Key),x.2.1,x.2.2.map PyData.str)) x=x.2.1 from rfl] at hq;rw[this] at hq;cases hq]
     exact ly.x q o e
    have hcM:M c=none:=x0.none hc;rw[List.nil_append,List.map_map] at g1;refine⟨M6,sv,c,_,g1,_,rfl,c,_,rfl,ah,λ e he=>?_⟩;have ec:e≠c:=λ q=>by rw[q,ah] at he;cases he
    have he6:M6 e=none:=by rw[aw ec] at he;exact he
    have heM:=x6.none he6;refine⟨λ i τ M'=>∃ R,Ld M M' e R/\R.map (·.1)=(L.take i).map (·.1)/\(∀ x∈R,x.2.2.Perm ((fin B A).2 x.1)/\sortedS x.2.2=true)/\Ext M M'/\M' c=some (.fdic _)/\∃ x y,τ=[x,y],⟨[],⟨ah,λ x hx=>(by cases hx),List.nodup_nil⟩,by simp,λ x hx=>(by cases hx),(x6.upd hcM).upd heM,by rw[aw ec.symm];exact ah,_,_,rfl⟩,?_,?_⟩
    ·rintro i w τ M7 hw ⟨R,hR,e1,hp7,x7,c7,x,y,rfl⟩;unfold lJ at hw;rw[List.map_map] at hw;obtain⟨v,hv,rfl⟩:=cS hw;have hi:i<L.length:=(List.getElem?_eq_some_iff.mp hv).1;have hL8:L.length<=8:=by have:=congrArg List.length ly.nm;rw[List.length_map,List.length_map] at this;omega
     have hR8:R.length<=8:=by have:=congrArg List.length e1;rw[List.length_map,List.length_map,List.length_take] at this;omega
     have hvm:=List.mem_of_getElem? hv;have hv8:=hlen v hvm;refine⟨_,rfl,rfl,_,_,rfl,_,_,rfl,rfl,_,rfl,_,rfl,_,v.2.2,rfl,.d,by omega,λ zs' perm' srt' q hq=>?_⟩;have qc:q≠c:=λ z=>by rw[z,c7] at hq;cases hq
     have qe:q≠e:=λ z=>by rw[z,hR.d] at hq;cases hq
     have hqM:=x7.none hq;have hnew:(.inr v.1:Key) ∉ (R.map λ x=>((.inr x.1:Key),W.m x.2.1)).map (·.1):=by
      intro q;rw[List.map_map] at q;obtain⟨y,hy,ey⟩:=List.mem_map.mp q;have ey:y.1=v.1:=Sum.inr.inj ey;have hm:v.1∈(L.take i).map (·.1):=by rw[<- e1,<- ey];exact List.mem_map.mpr ⟨y,hy,rfl⟩
      rw[List.map_take,ly.nm] at hm;exact iU nd (by rw[<- ly.nm,List.getElem?_map,hv];rfl) hm
     refine⟨R.map λ x=>(.inr x.1,.m x.2.1),.inr v.1,by rw[aw qe.symm];exact hR.d,rfl,by rw[List.length_map];omega,R++[(v.1,q,zs')],⟨?_,λ y hy=>?_,?_⟩,?_,λ y hy=>?_,(x7.upd hqM).upd heM,by rw[aw ec.symm,aw qc.symm];exact c7,_,_,rfl⟩
     ·rw[ah,sA hnew];simp
     ·rcases List.mem_append.mp hy with hy | hy
      ·have hyl:=hR.l y hy;have yl:y.2.1≠q:=λ z=>by rw[<- z,hyl.1] at hq;cases hq
       exact⟨by rw[aw hyl.2.1,aw yl];exact hyl.1,hyl.2⟩
      ·rw[List.mem_singleton.mp hy];exact⟨by rw[aw qe,ah],qe,hqM⟩
     ·rw[List.map_append,List.nodup_append];refine⟨hR.n,by simp,λ u hu v' hv' z=>?_⟩;obtain⟨y,hy,rfl⟩:=List.mem_map.mp hu;have hv':v'=q:=by simpa using hv'
      rw[hv'] at z;rw[<- z,(hR.l y hy).1] at hq;cases hq
     ·rw[List.map_append,e1,List.take_succ,hv];simp
     ·rcases List.mem_append.mp hy with hy | hy
      ·exact hp7 y hy
      ·rw[List.mem_singleton.mp hy];exact⟨by rw[<- ly.ls v hvm];exact perm',srt'⟩
    ·rintro τ M7 ⟨R,hR,e1,hp7,x7,c7,x,y,rfl⟩;refine⟨c7,K e _ R ⟨⟨by rw[aw ec];exact hR.d,λ y hy=>?_,hR.n⟩,?_,hp7,heM,x7.upd hcM⟩⟩
     ·have hyl:=hR.l y hy;have yc:y.2.1≠c:=λ z=>by rw[z,c7] at hyl;cases hyl.1
      exact⟨by rw[aw yc];exact hyl.1,hyl.2⟩
     ·rw[e1,<- ly.nm];congr 1;refine List.take_of_length_le ?_;simp[lJ]
 ·replace KX:=KX i j k e;rw[e];exact nV ⟨_,rfl,_,rfl,rfl,_,_,rfl,_,_,rfl,_,_,rfl,rfl,_,rfl,_,rfl,_,rfl,rfl,by simp,λ b hb=>KX b M2 x02 hb⟩
theorem sL(v:Str->Int)(zs:List Str):nKV v zs=aR (zs.map λ z=>(.inr z,.int (v z))):=by
 unfold nKV aR;rw[List.map_map];rfl
theorem sQ{i:Nat}{τ:DS}{M:MH}{a:Addr}{v:Str->Int}{zs:List Str}{Q:QD}(hτ:τ[i]? =some (some (.m a)))(hm:M a=some (.dic (nKV v zs)))(hl:zs.length<60)(q:Q (.d (.list ((ord v zs).map λ z=>.tuple (kR v z)))) M) :
  fk (dCB nO (ag (jY (dLC (kQ (au i)) (gN 0) (pE) (mL (ag (dOp qN (dI 0) (ft (au 1) (au 0))) (ag (au 0) (aO)))) 1 [i])) (aO))) τ M Q:=by
 refine⟨a,nKV v zs,hm,?_⟩;refine⟨.m a,hτ,a,zs.map λ z=>(.inr z,.int (v z)),rfl,by rw[ah,sL],?_⟩;have ek:cE (zs.map λ z=>((.inr z:Key),PyData.int (v z)))=zs.map λ z=>.d (.str z):=by
  unfold cE;rw[List.map_map];rfl
 have el:aaF 1 [i] τ=[none,some (.m a)]:=by
  unfold aaF;simp[hτ]
 rw[ek,el];refine eR zs (λ z=>.d (.str z)) (λ z=>.tuple [.int (0-v z),.str z]) (λ τ=>∃ x,τ=[x,some (.m a)]) (by omega) ⟨_,rfl⟩ (λ z hz τ hτ R h=>?_) (λ τ=>?_)
 ·obtain⟨x,rfl⟩:=hτ;exact⟨_,rfl,_,rfl,a,_,.inr z,_,rfl,.inr ah,rfl,gG hz,_,_,rfl,rfl,_,rfl,_,rfl,few (by simp),_,rfl,h _ ⟨_,rfl⟩⟩
 ·refine⟨ah,?_⟩;rw[g7,mW hm];have er:zs.map (λ z=>PyData.tuple [.int (0-v z),.str z])=(zs.map (kR v)).map PyData.tuple:=by rw[List.map_map];exact List.map_congr_left λ z _=>by show PyData.tuple [.int (0-v z),.str z]=.tuple [.int (-(v z)),.str z];rw[Int.zero_sub]
  rw[er];refine⟨_,zs.map (kR v),false,[true],rfl,.d,jz v zs,by rw[List.length_map];omega,λ rows' p h l hl=>?_⟩;rw[zY p h];refine⟨l,(ord v zs).map λ z=>.tuple (kR v z),rfl,?_,?_⟩
  ·rw[ah];unfold acY;rw[List.map_map,List.map_map];rfl
  ·rw[fI hl];exact q
def lKV(g:Str->List Str)(zs:List Str):List (Key×W):=zs.map λ z=>(.inr z,.d (.list ((g z).map PyData.str)))
theorem ac2{g:Str->List Str}{zs:List Str}{z:Str}(h:z∈zs):gJ (lKV g zs) (.inr z)=some (.d (.list ((g z).map PyData.str))):=by
 unfold gJ lKV;rw[List.find?_map];cases e:zs.find? ((λ p:Key×W=>decide (p.1=.inr z)) ∘ λ z=>(.inr z,W.d (.list ((g z).map PyData.str)))) with
 | none =>
  have:=List.find?_eq_none.mp e z h;simp at this
 | some y =>
  have:=List.find?_some e;simp only[Function.comp,decide_eq_true_eq] at this;cases Sum.inr.inj this;rfl
theorem adX{g:Str->List Str}{zs:List Str}{z:Str}{l:List Str}(h:z∈zs):lQ (lKV g zs) (.inr z) (.d (.list (l.map PyData.str)))=lKV (λ y=>if y=z then l else g y) zs:=by
 unfold lQ;rw[if_pos]
 ·unfold lKV;rw[List.map_map];refine List.map_congr_left λ y _=>?_;show(if (.inr y:Key)=.inr z then ((.inr y:Key),W.d (.list (l.map PyData.str))) else (.inr y,W.d (.list ((g y).map PyData.str))))=(.inr y,W.d (.list ((if y=z then l else g y).map PyData.str)))
  by_cases q:y=z
  ·rw[if_pos (by rw[q]),if_pos q]
  ·rw[if_neg λ e=>q (Sum.inr.inj e),if_neg q]
 ·exact List.any_eq_true.mpr ⟨(.inr z,.d (.list ((g z).map PyData.str))),List.mem_map.mpr ⟨z,h,rfl⟩,decide_eq_true rfl⟩
structure Lw(M M':MH)(a p c:Addr)(A:As)(ns:List Str)(st:(Str->Int)×(Str->List Str))(g:Str->List Str):Prop where
 dc:M' a=some (.dic (nKV (vB (dmd A)) ((dmd A).map (·.1))))
 nb:M' p=some (.dic (nKV st.1 ns))
 lc:M' c=some (.dic (lKV g ns))
 ls:∀ z,(g z).Perm (st.2 z)/\sortedS (g z)=true
 x:Ext M M'
theorem Lw.step{M M':MH}{a p c:Addr}{A:As}{ns:List Str}{st:(Str->Int)×(Str->List Str)}{g:Str->List Str}(h:Lw M M' a p c A ns st g)(hpM:M p=none)(hcM:M c=none)(hcp:c≠p)(hap:a≠p)(hac:a≠c){m:Str}(hm:m∈ns){z:Str}{l:List Str}(hl:l.Perm (g m++[z]))(sl:sortedS l=true) :
  Lw M (bN (bN M' c (.dic (lQ (lKV g ns) (.inr m) (.d (.list (l.map PyData.str)))))) p (.dic (lQ (nKV st.1 ns) (.inr m) (.d (.int (st.1 m-1)))))) a p c A ns (λ y=>if y=m then st.1 m-1 else st.1 y,λ y=>if y=m then st.2 m++[z] else st.2 y) (λ y=>if y=m then l else g y):=by
 rw[adX hm,xy hm];refine⟨by rw[aw hap,aw hac];exact h.dc,ah,by rw[aw hcp];exact ah,λ y=>?_,(h.x.upd hcM).upd hpM⟩
 by_cases e:y=m
 ·dsimp only;rw[if_pos e,if_pos e];exact⟨hl.trans ((h.ls m).1.append_right _),sl⟩
 ·dsimp only;rw[if_neg e,if_neg e];exact h.ls y
def cR:SpD:=λ ws M Q=>∃ (B:Bs) (A:As),ws=[.d (bsD B),.d (asD A)]/\OkB B/\OkA A/\∀ c M' g,M c=none->M' c=some (.dic (lKV g (B.map (·.1))))->(∀ z,(g z).Perm ((fin B A).2 z)/\sortedS (g z)=true)->Ext M M'->Q (.m c) M'
theorem uq:Ln cR 2:=by rintro ws M Q ⟨B,A,rfl,_⟩;rfl
theorem qP:Rd cR (tT aQ) tQ:=by
 rintro ws M Q ⟨B,A,rfl,hB,hA,K⟩;have s16':=s16;have hd8:(dmd A).length<=8:=by have:=(jQ hA.c A.length (Nat.le_refl _)).1;rw[List.take_length] at this;have:=hA.len;omega
 have hB8:=hB.len;have nd:=kU hB;have ndd:=kL A;have ep:(rk Prod.fst gI B).map _root_.D.pairD=B.map bD:=by unfold rk;rw[List.map_map];rfl
 have nk:((rk Prod.fst gI B).map (·.1)).Nodup:=by
  have:(rk Prod.fst gI B).map (·.1)=(B.map (·.1)).map Sum.inr:=by unfold rk;rw[List.map_map,List.map_map];rfl
  rw[this];exact List.Pairwise.map _ (λ a b hab e=>hab (Sum.inr.inj e)) nd
 refine⟨_,rfl,A,rfl,hA.c,λ a M1 ha1 h1 x1=>?_⟩;have h1':M1 a=some (.dic (nKV (vB (dmd A)) ((dmd A).map (·.1)))):=by rw[<- kh ndd];exact h1
 refine⟨_,rfl,_,rk Prod.fst gI B,rfl,by rw[ep];exact .d,nk,λ p hp=>?_⟩;rw[kh nd];have hpM:M p=none:=x1.none hp;have ap:a≠p:=λ q=>by rw[<- q,h1'] at hp;cases hp
 refine⟨_,rfl,_,rfl,?_⟩;rw[List.map_map];refine eR B (W.d ∘ bD) (λ r=>.tuple [.str r.1,.list []]) (λ τ=>∃ x y,τ=[x,y]) (by omega) ⟨_,_,rfl⟩ (λ r hr τ hτ R h=>?_) (λ τ=>?_)
 ·obtain⟨x,y,rfl⟩:=hτ;exact⟨_,rfl,rfl,_,_,rfl,_,_,rfl,rfl,_,rfl,_,rfl,few (by simp),_,rfl,few (by simp),_,rfl,h _ ⟨_,_,rfl⟩⟩
 refine⟨_,B.map λ r=>(.inr r.1,.list []),rfl,by rw[List.map_map];exact .d,?_,λ c hc=>?_⟩
 ·rw[List.map_map];have:B.map ((λ r:Key×PyData=>r.1) ∘ λ r:Str×Int=>((.inr r.1:Key),PyData.list []))=(B.map (·.1)).map Sum.inr:=by rw[List.map_map];rfl
  rw[this];exact List.Pairwise.map _ (λ a b hab e=>hab (Sum.inr.inj e)) nd
 have e0:aR (B.map λ r=>((.inr r.1:Key),PyData.list []))=lKV (λ _=>[]) (B.map (·.1)):=by unfold aR lKV;rw[List.map_map,List.map_map];rfl
 rw[e0];have pc:p≠c:=λ q=>by rw[<- q,ah] at hc;cases hc
 have hc1:M1 c=none:=by rw[aw pc.symm] at hc;exact hc
 have hcM:M c=none:=x1.none hc1;have ac:a≠c:=λ q=>by rw[<- q,h1'] at hc1;cases hc1
 have lw0:Lw M (bN (bN M1 p (.dic (nKV (vB B) (B.map (·.1))))) c (.dic (lKV (λ _=>[]) (B.map (·.1))))) a p c A (B.map (·.1)) (vB B,λ _=>[]) (λ _=>[]):=
  ⟨by rw[aw ac,aw ap];exact h1',by rw[aw pc];exact ah,ah,λ _=>⟨List.Perm.refl _,rfl⟩,(x1.upd hpM).upd hcM⟩
 generalize bN (bN M1 p (.dic (nKV (vB B) (B.map (·.1))))) c (.dic (lKV (λ _=>[]) (B.map (·.1))))=M2 at lw0;dsimp only[gN,bI,kG,cm,cq];refine sQ (i:=2) (a:=a) (v:=vB (dmd A)) (zs:=(dmd A).map (·.1)) ?_ ?_ ?_ ?_
 ·rfl
 ·exact lw0.dc
 ·rw[List.length_map];omega
 refine⟨_,rfl,?_⟩;have perm:(kds A).Perm ((dmd A).map (·.1)):=cu _ _;have hfin:fin B A=jh (B.map (·.1)) (vB (dmd A)) (kds A) (vB B,λ _=>[]):=rfl;have ek:ord (vB (dmd A)) ((dmd A).map (·.1))=kds A:=rfl;rw[ek];generalize kds A=zs at perm hfin;clear ek;have hzl:zs.length<=8:=by rw[perm.length_eq,List.length_map];exact hd8
 refine⟨λ i τ M'=>∃ g,Lw M M' a p c A (B.map (·.1)) (jh (B.map (·.1)) (vB (dmd A)) (zs.take i) (vB B,λ _=>[])) g/\∃ y5 y6 y7 y8 y9,τ=[some (.d (bsD B)),some (.d (asD A)),some (.m a),some (.m p),some (.m c),y5,y6,y7,y8,y9],⟨_,lw0,_,_,_,_,_,rfl⟩,?_,?_⟩
 ·rintro i w τ M5 hw ⟨g,lw,y5,y6,y7,y8,y9,rfl⟩;rw[List.map_map] at hw;obtain⟨z9,hz9,rfl⟩:=cS hw;have hi:i<zs.length:=(List.getElem?_eq_some_iff.mp hz9).1;have hn0:=wF hA z9;have hs:=oZ (ns:=B.map (·.1)) (n:=vB (dmd A)) hz9 (vB B,λ _=>[]);have hlen:∀ y,((jh (B.map (·.1)) (vB (dmd A)) (zs.take i) (vB B,λ _=>[])).2 y).length<=i:=λ y=>by have:=jA (B.map (·.1)) (vB (dmd A)) (zs.take i) (vB B,λ _=>[]) y;rw[List.length_take] at this;simp only[List.length_nil] at this;omega
  generalize jh (B.map (·.1)) (vB (dmd A)) (zs.take i) (vB B,λ _=>[])=st at lw hlen hs;refine⟨_,rfl,rfl,_,_,rfl,_,_,rfl,rfl,?_⟩;dsimp only[gN,bI,kG,cm,cq];refine sQ (i:=3) (a:=p) (v:=st.1) (zs:=B.map (·.1)) ?_ ?_ ?_ ?_
  ·rfl
  ·exact lw.nb
  ·rw[List.length_map];omega
  refine⟨_,rfl,_,rfl,0,_,rfl,rfl,_,rfl,_,rfl,rfl,_,rfl,?_⟩;rw[show(0 - -(vB (dmd A) z9))=vB (dmd A) z9 from by omega,abh _ hn0,<- List.map_take];have perm2:=cu st.1 (B.map (·.1));have cnd:((ord st.1 (B.map (·.1))).take (vB (dmd A) z9).toNat).Nodup:=(List.take_sublist _ _).nodup (perm2.nodup_iff.mpr nd);have hsub:∀ z∈(ord st.1 (B.map (·.1))).take (vB (dmd A) z9).toNat,z∈B.map (·.1):=λ z hz=>perm2.mem_iff.mp (List.mem_of_mem_take hz);generalize (ord st.1 (B.map (·.1))).take (vB (dmd A) z9).toNat=cs at cnd hsub hs;refine⟨λ j τ M'=>∃ g,Lw M M' a p c A (B.map (·.1)) (lyc (cs.take j) z9 st) g/\∃ y7 y8 y9,τ=[some (.d (bsD B)),some (.d (asD A)),some (.m a),some (.m p),some (.m c),some (.d (.int (-(vB (dmd A) z9)))),some (.d (.str z9)),y7,y8,y9],⟨g,by rw[List.take_zero,zj];exact lw,_,_,_,rfl⟩,?_,?_⟩
  ·rintro j w τ M6 hw2 ⟨g,lw,y7,y8,y9,rfl⟩;rw[List.map_map] at hw2;obtain⟨m,hz,rfl⟩:=cS hw2;have hzn:m∈B.map (·.1):=hsub m (List.mem_of_getElem? hz);have hle:(g m).length<=9:=by rw[(lw.ls m).1.length_eq];have:=qy (cs.take j) z9 st m;have:=hlen m;omega
   have hnt:m ∉ cs.take j:=iU cnd hz;refine⟨_,rfl,rfl,_,_,rfl,_,_,rfl,rfl,?_⟩;refine⟨_,rfl,_,rfl,c,_,.inr m,_,rfl,.inl lw.lc,rfl,ac2 hzn,_,rfl,_,rfl,few (by simp),_,_,.d,.d,by rw[List.length_map];simp only[List.length_cons,List.length_nil];omega,?_⟩;refine⟨_,g m++[z9],rfl,by rw[List.map_append];exact .d,by rw[List.length_append,List.length_singleton];omega,λ l pl sl q hq=>⟨q,l.map PyData.str,rfl,by rw[ah,gE],?_⟩⟩;rw[fI hq];refine⟨_,rfl,_,rfl,c,_,.inr m,rfl,lw.lc,rfl,by unfold lKV;rw[List.length_map,List.length_map];omega,?_⟩;refine⟨_,rfl,_,rfl,p,_,.inr m,_,rfl,.inl (by rw[aw pc];exact lw.nb),rfl,gG hzn,_,_,rfl,rfl,_,rfl,_,rfl,p,_,.inr m,rfl,by rw[aw pc];exact lw.nb,rfl,by unfold nKV;rw[List.length_map,List.length_map];omega,?_⟩;have lw':=lw.step hpM hcM pc.symm ap ac hzn pl sl;rw[<- wQ hnt,show cs.take j++[m]=cs.take (j+1) from by rw[List.take_succ,hz];rfl] at lw';exact⟨_,lw',_,_,_,rfl⟩
  ·rintro τ M6 ⟨g,lw,y7,y8,y9,rfl⟩;rw[List.length_map,List.length_map,List.take_length] at lw;exact⟨g,by rw[hs];exact lw,_,_,_,_,_,rfl⟩
 ·rintro τ M5 ⟨g,lw,y5,y6,y7,y8,y9,rfl⟩;rw[List.length_map,List.length_map,List.take_length,<- hfin] at lw;exact⟨_,rfl,K c M5 g hcM lw.lc lw.ls lw.x⟩
theorem xh{A:As}(h:OkA A):∀ z∈(dmd A).map (·.1),wd z=true:=by
 have:∀ (A:As) (D:Dm),(∀ r∈A,wd r.2.1=true)->(∀ r∈D,wd r.1=true)->∀ r∈A.foldl (λ D r=>more D r.2.1 r.2.2) D,wd r.1=true:=by
  intro A
  induction A with
  | nil=>intro D _ h r hr;exact h r hr
  | cons x A ih =>
   intro D h1 h2;refine ih _ (λ r hr=>h1 r (by simp[hr])) λ r hr=>?_;rcases abz (nm:=Prod.fst) hr with e | e
   ·rw[e];exact h1 x (by simp)
   ·exact h2 r e
 intro z hz;obtain⟨r,hr,rfl⟩:=List.mem_map.mp hz;exact this A [] (λ r hr=>(h.row r hr).k) (λ r hr=>by cases hr) r hr
theorem ahi{B:Bs}{A:As}(hB:OkB B)(h:dB (rooms B) (dmd A)=.none):Fd ((B.map (·.1)).map (vB B)) ((kds A).map (vB (dmd A))):=by
 have e1:(B.map (·.1)).map (vB B)=rooms B:=tK (kU hB);have e2:(kds A).map (vB (dmd A))=dsc (vals (dmd A)):=by
  refine mM ?_ ?_
  ·rw[<- tK (kL A)];exact(cu _ _).map _
  ·rw[List.pairwise_map];exact(yW _ _).imp λ h=>h
 rw[e1,e2];have hf:abT (rooms B) (dsc (vals (dmd A)))=true:=by rw[<- tV];unfold dB at h;rw[h];rfl
 unfold abT at hf;rw[List.all_eq_true] at hf;intro k hk;cases k with
 | zero =>
  rw[List.take_zero,List.sum_nil];exact(abY hB.r (Int.le_refl 0)).1
 | succ k =>
  have:=of_decide_eq_true (hf k (List.mem_range.mpr (by omega)));rw[show((k+1:Nat):Int)=(k:Int)+1 from by omega];exact this
structure Kp9(B:Bs)(A:As):Prop where
 le:∀ r∈B,(((fin B A).2 r.1).length:Int)<=r.2
 nd:∀ y,((fin B A).2 y).Nodup
 mm:∀ y,∀ z∈(fin B A).2 y,z∈kds A
 ct:∀ z∈kds A,(((B.map (·.1)).flatMap (fin B A).2).count z:Int)=vB (dmd A) z
theorem keeps{B:Bs}{A:As}(hB:OkB B)(hA:OkA A)(h:dB (rooms B) (dmd A)=.none):Kp9 B A:=by
 have nd:=kU hB;have h0:∀ y∈B.map (·.1),0<=vB B y:=λ y hy=>by obtain⟨r,hr,rfl⟩:=List.mem_map.mp hy;rw[xg nd hr];exact(hB.row r hr).2.1
 obtain⟨k1,k2,k3,k4,k5⟩:=lM nd (kds A) (vB B,λ _=>[]) (sZ (kL A)) (yW _ _) (λ z _=>wF hA z) (ahi hB h) h0 (λ _ _ _=>by simp) (λ _=>by simp);refine⟨λ r hr=>?_,k3,λ y z hz=>?_,k5⟩
 ·have a1:=k1 r.1 (List.mem_map.mpr ⟨r,hr,rfl⟩);have a2:=k2 r.1;have a3:=xg nd hr;simp only[List.length_nil] at a2;rw[a3] at a2;unfold fin;omega
 ·by_cases q:z∈kds A
  ·exact q
  ·have:=k4 z q y;exact absurd hz (List.count_eq_zero.mp (this.trans rfl))
theorem gB{α:Type}(z:Str)(f:α->List Str):∀ ns:List α,(ns.flatMap f).count z=(ns.map λ y=>(f y).count z).sum
 | []=>rfl
 | y::ns=>by rw[List.flatMap_cons,List.count_append,List.map_cons,List.sum_cons,gB z f ns]
theorem lY:∀ (zs l:List Str),zs.Nodup->(∀ x∈l,x∈zs)->l.length=(zs.map λ z=>l.count z).sum
 | [],l,_,h=>by
  cases l with
  | nil=>rfl
  | cons x l=>exact absurd (h x (by simp)) (by simp)
 | z::zs,l,nd,h=>by
  rw[List.nodup_cons] at nd;have ih:=lY zs (l.filter λ x=>x != z) nd.2 (λ x hx=>by
   rw[List.mem_filter] at hx;rcases List.mem_cons.mp (h x hx.1) with e | e
   ·simp[e] at hx
   ·exact e)
  rw[List.map_cons,List.sum_cons];have e1:zs.map (λ y=>l.count y)=zs.map λ y=>(l.filter λ x=>x != z).count y:=by refine List.map_congr_left λ y hy=>?_;have hne:y≠z:=λ e=>nd.1 (by rw[<- e];exact hy);rw[List.count_filter];simp[hne]
  rw[e1,<- ih];have:l.count z+(l.filter λ x=>x != z).length=l.length:=by rw[<- List.countP_eq_length_filter,List.count];have:=List.length_eq_countP_add_countP (λ x=>x==z) (l:=l);rw[this];congr 1;exact List.countP_congr λ x _=>by simp
  omega
theorem tP:∀ l:List Nat,((l.sum:Nat):Int)=(l.map λ n:Nat=>(n:Int)).sum
 | []=>rfl
 | a::l=>by rw[List.sum_cons,List.map_cons,List.sum_cons,<- tP l];omega
structure Fl(B:Bs)(A:As)(l:List Str):Prop where
 mm:∀ z∈l,wd z=true
 ct:∀ z∈(dmd A).map (·.1),(l.count z:Int)=vB (dmd A) z
 ln:(l.length:Int)=(vals (dmd A)).sum
theorem acw{B:Bs}{A:As}(hB:OkB B)(hA:OkA A)(h:dB (rooms B) (dmd A)=.none){L:List (Str×Addr×List Str)}(nm:L.map (·.1)=B.map (·.1))(ls:∀ x∈L,x.2.2.Perm ((fin B A).2 x.1)):Fl B A (L.flatMap λ x=>x.2.2):=by
 have K:=keeps hB hA h;have pk:(kds A).Perm ((dmd A).map (·.1)):=cu _ _;have mm:∀ z∈L.flatMap (λ x=>x.2.2),z∈kds A:=λ z hz=>by obtain⟨x,hx,hz⟩:=List.mem_flatMap.mp hz;exact K.mm x.1 z ((ls x hx).mem_iff.mp hz)
 have ct:∀ z∈kds A,((L.flatMap λ x=>x.2.2).count z:Int)=vB (dmd A) z:=λ z hz=>by rw[<- K.ct z hz,gB,gB,<- nm,List.map_map];congr 2;exact List.map_congr_left λ x hx=>(ls x hx).count_eq z
 refine⟨λ z hz=>xh hA z (pk.mem_iff.mp (mm z hz)),λ z hz=>ct z (pk.mem_iff.mpr hz),?_⟩;rw[lY (kds A) _ (sZ (kL A)) mm,tP,List.map_map,<- tK (kL A)];have e:(kds A).map ((λ n:Nat=>(n:Int)) ∘ λ z=>(L.flatMap λ x=>x.2.2).count z)=(kds A).map (vB (dmd A)):=List.map_congr_left λ z hz=>ct z hz;rw[e];exact tU (pk.map _)
theorem Laid.upd{M M':MH}{e:Addr}{B:Bs}{A:As}{L:List (Str×Addr×List Str)}(h:Laid M M' e B A L){t:Addr}{o:MO}(ht:M' t=none):Laid M (bN M' t o) e B A L:=by
 have te:e≠t:=λ q=>by rw[<- q,h.ld.d] at ht;cases ht
 refine⟨⟨by rw[aw te];exact h.ld.d,λ x hx=>?_,h.ld.n⟩,h.nm,h.ls,h.e0,h.x.upd (h.x.none ht)⟩;have hl:=h.ld.l x hx;have tx:x.2.1≠t:=λ q=>by rw[<- q,hl.1] at ht;cases ht
 exact⟨by rw[aw tx];exact hl.1,hl.2⟩
def cQ:SpD:=λ ws M Q=>∃ (B:Bs) (A:As),ws=[.d (bsD B),.d (asD A)]/\OkB B/\OkA A/\Code M/\(dB (rooms B) (dmd A)=.none->∀ t e M' L,Laid M M' e B A L->M t=none->M' t=some (.tup [.d (.str "told"),.m e])->Q (.m t) M') /\
 ∀ i j k,dB (rooms B) (dmd A)=.tuple [.int i,.int j,.int k]->∀ M',Ext M M'->Q (.d (.tuple [.str "refused",.tuple [.int i,.int j,.int k],.bool true])) M'
theorem vd:Ln cQ 2:=by rintro ws M Q ⟨B,A,rfl,_⟩;rfl
theorem rF:Rd cQ (sS cV) rY:=by
 rintro ws M Q ⟨B,A,rfl,hB,hA,hT,k1,k2⟩;refine⟨_,rfl,_,rfl,B,A,rfl,hB,hA,hT,λ h e M' L hL=>⟨few (by simp),λ t ht=>k1 h t e _ L (hL.upd ht) (hL.x.none ht) ah⟩,λ i j k h a M1 x1 ha=>?_⟩;refine⟨aE,_,true,ah,rfl,?_⟩;rw[if_pos rfl];refine⟨_,rfl,a,aE,_,true,rfl,ah,rfl,_,rfl,nV ⟨_,rfl,a,aE,_,false,rfl,ah,rfl,_,rfl,?_⟩⟩;refine⟨_,rfl,a,aE,_,.d (.int i),rfl,ah,by simp,rfl,_,rfl,a,aE,_,.d (.int j),rfl,ah,by simp,rfl,_,rfl,a,aE,_,.d (.int k),rfl,ah,by simp,rfl,?_⟩;exact⟨_,rfl,few (by simp),_,rfl,_,rfl,few (by simp),k2 i j k h _ (x1.upd (x1.none ha))⟩
structure Lq(M:MH)(e:Addr)(L:List (Str×Addr×List Str)):Prop where
 d:M e=some (.dic (L.map λ x=>(.inr x.1,.m x.2.1)))
 l:∀ x∈L,M x.2.1=some (.lst (eD x.2.2))/\x.2.1≠e
theorem t9{l:List Str}(h:∀ z∈l,wd z=true):okD 1 (.list (l.map PyData.str))=true:=by simp only[okD];refine rZ λ d hd=>?_;obtain⟨z,hz,rfl⟩:=List.mem_map.mp hd;simp only[okD];exact og (h z hz)
theorem acb(l:List Str)(z:Str):(l.map PyData.str).countP (λ y=>PyData.eqv y (.str z))=l.count z:=by rw[List.countP_map,List.count];refine List.countP_congr λ x _=>?_;show PyData.eqv (.str x) (.str z)=true ↔ _;rw[acM]
def cx:SpD:=λ ws M Q=>∃ (B:Bs) (A:As) (e a:Addr) (L:List (Str×Addr×List Str)),ws=[.m e,.d (bsD B),.m a]/\OkB B/\OkA A/\dB (rooms B) (dmd A)=.none/\Dc M a (dmd A)/\a≠e/\Lq M e L/\L.map (·.1)=B.map (·.1)/\(∀ x∈L,x.2.2.Perm ((fin B A).2 x.1))/\Q (.d (.bool true)) M
theorem rh:Ln cx 3:=by rintro ws M Q ⟨B,A,e,a,L,rfl,_⟩;rfl
theorem pV:Rd cx qf pT:=by
 rintro ws M Q ⟨B,A,e,a,L,rfl,hB,hA,hno,hdc,ae,hL,nm,ls,k⟩;have s16':=s16;have nd:=kU hB;have hB8:=hB.len;have K:=keeps hB hA hno;have F:=acw hB hA hno nm ls;have nd':(L.map (·.1)).Nodup:=by rw[nm];exact nd
 have hd8:(dmd A).length<=8:=by have:=(jQ hA.c A.length (Nat.le_refl _)).1;rw[List.take_length] at this;have:=hA.len;omega
 have hL8:L.length<=8:=by have:=congrArg List.length nm;rw[List.length_map,List.length_map] at this;omega
 have h6:∀ x∈L,(x.2.2.length:Int)<=6/\∃ r∈B,r.1=x.1/\(x.2.2.length:Int)<=r.2/\x.2.2.Nodup:=λ x hx=>by
  have:x.1∈B.map (·.1):=by rw[<- nm];exact List.mem_map.mpr ⟨x,hx,rfl⟩
  obtain⟨r,hr,er⟩:=List.mem_map.mp this;have h1:=K.le r hr;rw[er,<- (ls x hx).length_eq] at h1;have:=(hB.row r hr).2.2;exact⟨by omega,r,hr,er,h1,(ls x hx).nodup_iff.mpr (K.nd x.1)⟩
 refine⟨_,rfl,_,rfl,?_⟩;refine⟨λ i τ M'=>M'=M/\∃ y3 y4,τ=[some (.m e),some (.d (bsD B)),some (.m a),y3,y4,none],⟨rfl,_,_,rfl⟩,?_,?_⟩
 ·rintro i w τ M1 hw ⟨rfl,y3,y4,rfl⟩;rw[List.map_map] at hw;obtain⟨r,hr,rfl⟩:=cS hw;have hrB:=List.mem_of_getElem? hr;obtain⟨x,hx,ex⟩:∃ x∈L,x.1=r.1:=by
   have:r.1∈L.map (·.1):=by rw[nm];exact List.mem_map.mpr ⟨r,hrB,rfl⟩
   obtain⟨x,hx,e⟩:=List.mem_map.mp this;exact⟨x,hx,e⟩
  have hxl:=hL.l x hx;have hle:=K.le r hrB;rw[<- ex,<- (ls x hx).length_eq] at hle;have hnd:=(h6 x hx).2.choose_spec.2.2.2;have h66:=(h6 x hx).1;have hgt:gJ (L.map λ x=>((.inr x.1:Key),W.m x.2.1)) (.inr r.1)=some (.m x.2.1):=by rw[<- ex];exact Ld.get (M0:=M1) (M:=M1) (c:=e) nd' hx
  have hlen:aaM M1 (.m x.2.1)=some x.2.2.length:=by simp only[aaM,hxl.1];unfold eD;rw[List.length_map]
  refine⟨_,rfl,rfl,_,_,rfl,_,_,rfl,rfl,?_⟩;refine⟨_,rfl,_,rfl,e,_,.inr r.1,_,rfl,.inl hL.d,rfl,hgt,_,_,rfl,hlen,rfl,_,rfl,_,_,rfl,rfl,_,rfl,?_⟩;refine pJ (decide_eq_false (by omega)) ?_;refine⟨_,rfl,_,rfl,e,_,.inr r.1,_,rfl,.inl hL.d,rfl,hgt,x.2.2,.m (by rw[hxl.1,gE]),by omega,_,rfl,_,rfl,e,_,.inr r.1,_,rfl,.inl hL.d,rfl,hgt,_,_,rfl,hlen,rfl,_,_,rfl,rfl,_,rfl,?_⟩;rw[abO hnd _ (Nat.le_refl _)];refine pJ (decide_eq_false (by omega)) ?_;exact⟨rfl,_,_,rfl⟩
 ·rintro τ M1 ⟨rfl,y3,y4,rfl⟩;refine⟨_,rfl,few (by simp),?_⟩;refine⟨e,_,hL.d,?_⟩;refine⟨_,rfl,e,_,rfl,ah,?_⟩;refine⟨λ i τ M'=>M'=bN M1 e (.fdic (L.map λ x=>(.inr x.1,.m x.2.1)))/\∃ y3,τ=[some (.m e),some (.d (bsD B)),some (.m a),y3,y4,some (.d (.list (((L.take i).flatMap λ x=>x.2.2).map PyData.str)))],⟨rfl,_,rfl⟩,?_,?_⟩
  ·rintro i w τ M2 hw ⟨rfl,y3,rfl⟩;rw[List.map_map] at hw;obtain⟨x,hx,rfl⟩:=cS hw;have hxm:=List.mem_of_getElem? hx;have hxl:=hL.l x hxm;have hfl:((L.take i).flatMap λ x=>x.2.2).length<=6 * L.length:=by
    have:∀ l:List (Str×Addr×List Str),(∀ x∈l,x.2.2.length<=6)->(l.flatMap λ x=>x.2.2).length<=6 * l.length:=by
     intro l
     induction l with
     | nil=>intro _;simp
     | cons y l ih =>
      intro h;have h1:=h y (by simp);have h2:=ih λ x hx=>h x (by simp[hx]);rw[List.flatMap_cons,List.length_append,List.length_cons];omega
    have h1:=this (L.take i) λ x hx=>by have:=(h6 x (List.mem_of_mem_take hx)).1;omega
    rw[List.length_take] at h1;omega
   have h66:=(h6 x hxm).1;refine⟨_,rfl,_,rfl,_,rfl,e,_,.inr x.1,_,rfl,.inr ah,rfl,Ld.get (M0:=M1) (M:=M1) (c:=e) nd' hxm,_,x.2.2.map PyData.str,.d,.m (by rw[aw hxl.2,hxl.1,gE]),by rw[List.length_map,List.length_map];omega,rfl,some (.d (.str x.1)),?_⟩;rw[List.take_succ,hx,List.flatMap_append,List.map_append];simp;rfl
  ·rintro τ M2 ⟨rfl,y3,rfl⟩;rw[List.length_map,List.length_map,List.take_length];refine⟨ah,?_⟩;rw[g7,mW hL.d];generalize (L.flatMap λ x=>x.2.2)=fl at F;have ndd:=kL A;have hdc':M1 a=some (.dic (nKV (vB (dmd A)) ((dmd A).map (·.1)))):=by rw[<- kh ndd];exact hdc
   have okl:=t9 F.mm;refine⟨a,_,hdc',?_⟩;refine⟨_,rfl,a,((dmd A).map (·.1)).map λ z=>(.inr z,.int (vB (dmd A) z)),rfl,by rw[ah,sL],?_⟩;have ek:cE (((dmd A).map (·.1)).map λ z=>((.inr z:Key),PyData.int (vB (dmd A) z)))=((dmd A).map (·.1)).map λ z=>.d (.str z):=by
    unfold cE;rw[List.map_map];rfl
   rw[ek];refine eR ((dmd A).map (·.1)) (λ z=>.d (.str z)) (λ z=>.bool true) (λ τ=>∃ x,τ=[x,some (.d (.list (fl.map PyData.str))),some (.m a)]) (by rw[List.length_map];omega) ⟨_,rfl⟩ (λ z hz τ hτ R h=>?_) (λ τ=>?_)
   ·obtain⟨x,rfl⟩:=hτ;have zok:okD 1 (.str z)=true:=by simp only[okD];exact og (xh hA z hz)
    refine⟨_,rfl,_,rfl,_,rfl,_,rfl,?_,_,rfl,_,rfl,a,_,.inr z,_,rfl,.inr ah,rfl,gG hz,_,_,.d,.d,by simp,?_⟩
    ·unfold ae7;rw[iJ (by decide) zok,iJ (by decide) okl];rfl
    rw[acb,mR,decide_eq_true (F.ct z hz)];exact⟨_,rfl,h _ ⟨_,rfl⟩⟩
   ·refine⟨ah,?_⟩;rw[g7,mW hdc'];refine⟨((dmd A).map (·.1)).map λ _=>true,by simp only[List.map_map];rfl,_,rfl,ae2 (by simp) ?_⟩;refine⟨_,rfl,_,_,rfl,rfl,rfl,_,rfl,a,_,vals (dmd A),rfl,hdc',?_,_,_,.d,.d,by simp,?_⟩
    ·rw[<- tK ndd];unfold nKV fE;simp only[List.map_map];rfl
    rw[List.length_map,mR,decide_eq_true F.ln];exact k
def Exb(p:Addr)(M M':MH):Prop:=∀ q o,q≠p->M q=some o->M' q=some o
theorem Exb.trans{p:Addr}{A B C:MH}(h:Exb p A B)(k:Exb p B C):Exb p A C:=λ q o n e=>k q o n (h q o n e)
theorem Exb.of{p:Addr}{M M':MH}(h:∀ q,q≠p->M' q=M q):Exb p M M':=λ q o n e=>by rw[h q n];exact e
theorem Exb.upd{p:Addr}{M M':MH}{a:Addr}{o:MO}(h:Exb p M M')(ha:M a=none):Exb p M (bN M' a o):=λ q u n e=>by rw[aw λ z=>by rw[z,ha] at e;cases e];exact h q u n e
theorem Exb.none{p:Addr}{M M':MH}{q:Addr}(h:Exb p M M')(n:q≠p)(hq:M' q=none):M q=none:=by
 cases e:M q with
 | none=>rfl
 | some o=>rw[h q o n e] at hq;cases hq
def bZ:SpD:=λ ws M Q=>∃ (p:Addr) (most top:Int),ws=[.m p,.d (.int most),.d (.int top)]/\Bag M p/\0<=most/\most<=8/\0<=top/\top<=6/\∀ B M',OkB B->Bag M' p->Exb p M M'->Q (.d (bsD B)) M'
theorem n3:Ln bZ 3:=by rintro ws M Q ⟨p,m,t,rfl,_⟩;rfl
theorem mB:Rd bZ (mv ba) mh:=by
 rintro ws M Q ⟨p,most,top,rfl,b0,ms0,ms8,t0,t6,k⟩;have s16':=s16;refine⟨_,rfl,_,rfl,.inl ⟨_,_,rfl,rfl,p,most+1,rfl,b0,by omega,by omega,λ many M1 m0 m1 b1 f1=>?_⟩⟩;refine⟨_,rfl,few (by simp),_,rfl,p,3,rfl,b1,by decide,by decide,λ w M2 w0 w1 b2 f2=>?_⟩;have x2:Exb p M M2:=(Exb.of f1).trans (Exb.of f2);have hix:ixW M2 (.d (.list [.str "m",.str "ab",.str "zz"])) w=some (.d (.str (zM w.toNat))):=by
  have:w=0\/w=1\/w=2:=by omega
  rcases this with rfl | rfl | rfl<;>rfl
 refine⟨_,_,rfl,hix,rfl,?_⟩;refine⟨_,rfl,many,rfl,by omega,by omega,?_⟩;dsimp only;have hw3:w.toNat<3:=by omega
 generalize w.toNat=wn at *;refine⟨λ i acc τ M'=>i<=many.toNat/\Bag M' p/\Exb p M M'/\∃ B:Bs,B.length=i/\(∀ (j:Nat) (r:Str×Int),B[j]? =some r->r.1=nmB wn j/\0<=r.2/\r.2<=6)/\acc=B.map bD/\∃ x,τ=[x,some (.d (.str (zM wn))),some (.m p),some (.d (.int top))],⟨Nat.zero_le _,b2,x2,[],rfl,λ j r h=>by simp at h,rfl,_,rfl⟩,?_,?_⟩
 ·rintro i v acc τ M' hv ⟨hi,b3,x3,B,hl,hB,rfl,x,rfl⟩;obtain⟨hlt,rfl⟩:=tN hv;refine⟨by rw[List.length_map];omega,?_⟩;refine⟨_,rfl,_,rfl,_,_,rfl,l4 (i:=i) (by omega) (by rw[show("abcdefgh" : Str).length=8 from by decide +kernel];omega),by decide +kernel,_,rfl,_,_,rfl,rfl,(show(0:Int)<2 by decide),.inl ⟨_,_,rfl,rfl,_,_,rfl,rfl,rfl,by omega,by omega,.inr ⟨_,_,rfl,rfl,?_,?_⟩⟩⟩
  ·have:=ade wn hw3 i (by omega);unfold lp at this;omega
  ·refine⟨_,rfl,_,rfl,.inl ⟨_,_,rfl,rfl,p,top+1,rfl,b3,by omega,by omega,λ c M4 c0 c1 b4 f4=>⟨_,rfl,few (by simp),_,rfl,?_⟩⟩⟩;refine⟨by omega,b4,x3.trans (Exb.of f4),B++[(nmB wn i,c)],by rw[List.length_append,hl];rfl,λ j r h=>?_,by rw[List.map_append];rfl,_,rfl⟩;rw[List.getElem?_append] at h
   split at h
   ·exact hB j r h
   ·have:j=i:=by have:=(List.getElem?_eq_some_iff.mp h).1;simp at this;omega
    subst this;rw[hl,Nat.sub_self] at h;cases h;exact⟨rfl,c0,by omega⟩
 ·rintro acc τ M' ⟨hi,b3,x3,B,hl,hB,rfl,x,rfl⟩;have hl':B.length<=8:=by omega
  exact k B M' (aeD hw3 hl' hB) b3 x3
def cz:SpD:=λ ws M Q=>∃ (p:Addr) (most top:Int),ws=[.m p,.d (.int most),.d (.int top)]/\Bag M p/\0<=most/\most<=8/\0<=top/\top<=6/\∀ A a M',OkA A->(A.length:Int)<=most->Bag M' p->a≠p->M' a=some (.lst ((A.map aD).map W.d))->Exb p M M'->Q (.m a) M'
theorem rC:Ln cz 3:=by rintro ws M Q ⟨p,m,t,rfl,_⟩;rfl
theorem oe:Rd cz (pU ba) o8:=by
 rintro ws M Q ⟨p,most,top,rfl,b0,ms0,ms8,t00,t06,k⟩;have s16':=s16;refine⟨_,rfl,_,rfl,.inl ⟨_,_,rfl,rfl,p,most+1,rfl,b0,by omega,by omega,λ many M1 m0 m1 b1 f1=>?_⟩⟩;refine⟨_,rfl,p,8,rfl,b1,by decide,by decide,λ turn M2 t0 t1 b2 f2=>?_⟩;refine⟨hU.map PyData.str,rfl,few (by decide),_,rfl,p,9,rfl,b2,by decide,by decide,λ n M3 n0 n1 b3 f3=>.inl ⟨_,_,rfl,rfl,_,rfl,_,rfl,rfl,?_⟩⟩;have x3:Exb p M M3:=((Exb.of f1).trans (Exb.of f2)).trans (Exb.of f3);have ek:D.cutD (hU.map PyData.str) none (some (1+n))=(hU.take (n.toNat+1)).map PyData.str:=by rw[show(1+n)=((n.toNat+1:Nat):Int) from by omega,nN (by rw[List.length_map];show _<=9;omega),<- List.map_take]
 rw[ek];have hk0:0<(hU.take (n.toNat+1)).length/\(hU.take (n.toNat+1)).length<=9:=by rw[List.length_take,show hU.length=9 from rfl];omega
 have hkw:∀ z∈hU.take (n.toNat+1),wd z=true:=λ z hz=>aaa z (List.mem_of_mem_take hz);generalize hU.take (n.toNat+1)=ks at *;refine⟨few (by simp),λ a ha=>?_⟩;obtain⟨ob,hob⟩:=afp b3;have pa:p≠a:=λ e=>by rw[e,ha] at hob;cases hob
 have haM:M a=none:=x3.none pa.symm ha;refine⟨_,rfl,many,rfl,by omega,by omega,?_⟩;dsimp only;have ht8:turn.toNat<8:=by omega
 refine⟨λ i τ M'=>i<=many.toNat/\Bag M' p/\Exb p M M'/\∃ A:As,A.length=i/\(∀ (j:Nat) r,A[j]? =some r->r.1=nmA turn.toNat j/\ag7 r)/\M' a=some (.lst ((A.map aD).map W.d))/\∃ x7 x8,τ=[some (.m p),some (.d (.int most)),some (.d (.int top)),some (.d (.int many)),some (.d (.int turn)),some (.d (.list (ks.map PyData.str))),some (.m a),x7,x8],⟨Nat.zero_le _,nF b3 (aw pa),x3.upd haM,[],rfl,λ j r h=>by simp at h,ah,_,_,rfl⟩,?_,?_⟩
 ·rintro i v τ M' hv ⟨hi,b4,x4,A,hl,hA,h1,x7,x8,rfl⟩;obtain⟨hlt,rfl⟩:=tN hv;have hm:((0+(i:Int)+turn) % 8)=(((i+turn.toNat) % 8:Nat):Int):=by omega
  refine⟨_,rfl,_,rfl,.inl ⟨_,_,rfl,rfl,_,_,rfl,rfl,(show(0:Int)<8 by decide),_,_,rfl,l4 hm (by rw[show("hgfedcba" : Str).length=8 from by decide +kernel];omega),by decide +kernel,.inr ⟨_,_,rfl,rfl,?_,_,rfl,few (by simp),?_⟩⟩⟩
  ·show("w" : Str).length+1<=sizeLine;rw[show("w" : Str).length=1 from by decide +kernel];omega
  refine⟨_,rfl,_,_,.d,.d,rfl,.inr ⟨_,rfl,_,.d (.str (nmA turn.toNat i)),rfl,?_,rfl,?_⟩⟩
  ·rw[mR];unfold nmA
   by_cases q:i=3
   ·rw[decide_eq_true (by omega),if_pos rfl,if_pos q];rfl
   ·rw[decide_eq_false (by omega),if_neg (by decide),if_neg q];rfl
  ·refine⟨_,rfl,a,_,rfl,h1,_,rfl,_,rfl,_,rfl,_,rfl,_,_,rfl,rfl,rfl,p,_,rfl,b4,?_,?_,λ y M5 y0 y1 b5 f5=>?_⟩
   ·rw[List.length_map];omega
   ·rw[List.length_map];omega
   obtain⟨kd,ekd,hkd⟩:=yJ (M:=M5) (zs:=ks) y0 (by rw[List.length_map] at y1;exact y1);refine⟨_,_,rfl,ekd,rfl,_,rfl,_,rfl,.inl ⟨_,_,rfl,rfl,p,top+1,rfl,b5,by omega,by omega,λ c M6 c0 c1 b6 f6=>⟨_,rfl,few (by simp),(A.map aD).map W.d,(by rw[f6 a pa.symm,f5 a pa.symm];exact h1),(by rw[List.length_map,List.length_map];omega),?_⟩⟩⟩
   ·refine⟨by omega,nF b6 (aw pa),((x4.trans (Exb.of f5)).trans (Exb.of f6)).upd haM,A++[(nmA turn.toNat i,kd,c)],by rw[List.length_append,hl];rfl,λ j r h=>?_,by rw[ah,List.map_append,List.map_append];rfl,_,_,rfl⟩;rw[List.getElem?_append] at h
    split at h
    ·exact hA j r h
    ·have:j=i:=by have:=(List.getElem?_eq_some_iff.mp h).1;simp at this;omega
     subst this;rw[hl,Nat.sub_self] at h;cases h;exact⟨rfl,ae5 _ ht8 _ (by omega),hkw kd hkd,c0,by dsimp only;omega⟩
 ·rintro τ M' ⟨hi,b4,x4,A,hl,hA,h1,x7,x8,rfl⟩;have hl':A.length<=8:=by omega
  exact⟨_,rfl,k A a M' (ac8 ht8 hl' hA) (by omega) b4 pa.symm h1 x4⟩
theorem iA{α β γ:Type}{R:β->γ->Prop}(f:α->β)(g:α->γ):∀ (L:List α),(∀ x∈L,R (f x) (g x))->Paired R (L.map f) (L.map g)
 | [],_=>.nil
 | x::L,h=>.cons (h x (by simp)) (iA f g L λ y hy=>h y (by simp[hy]))
theorem all_eq:∀ (ds:List PyData),(∀ d∈ds,okD 1 d=true)->allEq ds ds=true
 | [],_=>rfl
 | d::ds,h=>by rw[allEq,mP (h d (by simp)),all_eq ds λ x hx=>h x (by simp[hx])];rfl
theorem Lq.of{M M' M2:MH}{e:Addr}{B:Bs}{A:As}{L:List (Str×Addr×List Str)}(h:Laid M M' e B A L)(x:Ext M' M2):Lq M2 e L:=
 ⟨x _ _ h.ld.d,λ y hy=>⟨x _ _ (h.ld.l y hy).1,(h.ld.l y hy).2.1⟩⟩
theorem adD{B:Bs}{A:As}(hB:OkB B)(hA:OkA A):okD 3 (.tuple [bsD B,asD A])=true:=by have h1:=ahc hB.row;have h2:=aic hA;simp only[okD,okA,h1,h2];rfl
theorem iZ{M:MH}{t:Addr}{x y:W}(h:M t=some (.tup [x,y])):ixW M (.m t) 0=some x/\ixW M (.m t) 1=some y:=by simp only[ixW,h];exact⟨rfl,rfl⟩
theorem aeg{M M2 M3:MH}{e c:Addr}{B:Bs}{A:As}{L:List (Str×Addr×List Str)}{g:Str->List Str}{Q:QD}(hB:OkB B)(hA:OkA A)(hno:dB (rooms B) (dmd A)=.none)(hL:Laid M M2 e B A L)(x3:Ext M2 M3)(h3:M3 c=some (.dic (lKV g (B.map (·.1)))))(hg:∀ z,(g z).Perm ((fin B A).2 z)/\sortedS (g z)=true)(q:Q (.d (.bool false)) M3):xD (.m e) (.m c) M3 Q:=by
 have K:=keeps hB hA hno;have pk:(kds A).Perm ((dmd A).map (·.1)):=cu _ _;have hw:∀ z,okD 1 (.list ((g z).map PyData.str))=true:=λ z=>t9 λ y hy=>xh hA y (pk.mem_iff.mp (K.mm z y ((hg z).1.mem_iff.mp hy)));have heq:∀ x∈L,x.2.2=g x.1:=λ x hx=>vo ((hL.ls x hx).1.trans (hg x.1).1.symm) (hL.ls x hx).2 (hg x.1).2;have hq:=Lq.of hL x3;have el:lKV g (B.map (·.1))=L.map λ x=>(.inr x.1,.d (.list ((g x.1).map PyData.str))):=by rw[<- hL.nm];unfold lKV;rw[List.map_map];rfl
 rw[el] at h3;refine⟨e,c,_,_,L.map λ x=>.list ((g x.1).map PyData.str),L.map λ x=>.list ((g x.1).map PyData.str),rfl,rfl,hq.d,h3,?_,?_,?_,?_,?_⟩
 ·rw[List.map_map,List.map_map];rfl
 ·rw[List.map_map];have:L.map ((λ p:Key×W=>p.1) ∘ λ x:Str×Addr×List Str=>((.inr x.1:Key),W.d (.list ((g x.1).map PyData.str))))=(L.map (·.1)).map Sum.inr:=by rw[List.map_map];rfl
  rw[this,hL.nm];exact List.Pairwise.map _ (λ a b hab e=>hab (Sum.inr.inj e)) (kU hB)
 ·refine iA _ _ L λ x hx=>⟨?_,iJ (by decide) (hw x.1)⟩;refine .l ?_;rw[(hq.l x hx).1,gE,heq x hx]
 ·exact iA _ _ L λ x hx=>⟨.d,iJ (by decide) (hw x.1)⟩
 ·rw[all_eq _ λ d hd=>by obtain⟨x,_,rfl⟩:=List.mem_map.mp hd;exact hw x.1];exact q
def b9:SpD:=λ ws M Q=>∃ (B:Bs) (A:As),ws=[.d (bsD B),.d (asD A)]/\OkB B/\OkA A/\Code M/\∀ M',Ext M M'->Q (.d (.bool true)) M'
theorem rQ:Ln b9 2:=by rintro ws M Q ⟨B,A,rfl,_⟩;rfl
theorem pR:Rd b9 (p8 cO aQ cQ cR cx) oA:=by
 rintro ws M Q ⟨B,A,rfl,hB,hA,hT,k⟩;have s16':=s16;have hd8:(dmd A).length<=8:=by have:=(jQ hA.c A.length (Nat.le_refl _)).1;rw[List.take_length] at this;have:=hA.len;omega
 have hB8:=hB.len;have pok:=adD hB hA;have s9:=wB hA.c;have lo:=acS (D:=dmd A) hB.r ⟨by omega,λ r hr=>by have:=s9.2 r hr;omega⟩;refine⟨_,rfl,_,_,rfl,.l,λ p hp=>⟨p,B.map bD,rfl,ah,?_⟩⟩;rw[fI hp];refine⟨_,rfl,_,_,rfl,.l,λ p hp=>⟨p,A.map aD,rfl,ah,?_⟩⟩;rw[fI hp];refine⟨_,rfl,few (by simp),?_⟩;refine⟨_,rfl,_,rfl,A,rfl,hA.c,λ a M1 ha h1 x1=>⟨B,a,dmd A,rfl,h1,by omega,λ r hr=>by have:=s9.2 r hr;omega,λ M2 x2=>?_⟩⟩;have x02:=x1.trans x2;generalize hs:dB (rooms B) (dmd A)=s at lo;refine⟨2,rfl,by decide,by omega,?_⟩;refine⟨λ i τ M'=>Ext M M'/\∃ y4 y5 y6,τ=[some (.d (bsD B)),some (.d (asD A)),some (.d (.tuple [bsD B,asD A])),some (.d s),y4,y5,y6],⟨x02,_,_,_,rfl⟩,?_,?_⟩
 ·rintro i w τ M3 hw ⟨x3,y4,y5,y6,rfl⟩;refine⟨_,rfl,_,_,rfl,rfl,rfl,_,rfl,_,_,rfl,rfl,rfl,B,A,rfl,hB,hA,x3 _ _ hT,λ h t e M4 L hL ht h4=>?_,λ i1 j1 k1 h M4 x4=>?_⟩
  ·obtain rfl:s=.none:=hs.symm.trans h;have x4:Ext M M4:=x3.trans hL.x;have et:e≠t:=λ q=>by rw[<- q,hL.ld.d] at h4;cases h4
   have eM:M e=none:=x3.none hL.e0;have tM:M t=none:=x3.none ht;refine⟨_,rfl,_,rfl,_,rfl,_,rfl,few (by simp),_,_,.d,.d,mU (by decide) pok pok,_,rfl,pJ (by rw[mP pok];rfl) ?_⟩;refine⟨_,rfl,rfl,_,rfl,jx (jx ?_)⟩;refine⟨_,rfl,rfl,_,rfl,nV ⟨_,rfl,0,_,rfl,(iZ h4).1,rfl,_,_,.d,.d,by simp,_,rfl,pJ (by simp) ?_⟩⟩;refine⟨_,rfl,1,_,rfl,(iZ h4).2,rfl,_,rfl,_,rfl,B,A,rfl,hB,hA,λ c M5 g hc h5 hg x5=>?_⟩;refine aeg hB hA h hL x5 h5 hg ⟨_,rfl,jx ?_⟩;have h45:M5 t=some (.tup [.d (.str "told"),.m e]):=x5 _ _ h4;refine⟨_,rfl,rfl,_,rfl,nV ⟨_,rfl,1,_,rfl,(iZ h45).2,rfl,_,rfl,_,rfl,A,rfl,hA.c,λ a6 M6 ha6 h6 x6=>?_⟩⟩;have lq:=Lq.of hL (x5.trans x6);have ae:a6≠e:=λ q=>by rw[q,x5 _ _ hL.ld.d] at ha6;cases ha6
   have h46:M6 t=some (.tup [.d (.str "told"),.m e]):=x6 _ _ h45;have x06:Ext M M6:=(x4.trans x5).trans x6;refine⟨B,A,e,a6,L,rfl,hB,hA,h,h6,ae,lq,hL.nm,λ x hx=>(hL.ls x hx).1,_,rfl,jx ?_⟩;refine⟨_,rfl,rfl,_,rfl,nV ?_⟩;have nd':(L.map (·.1)).Nodup:=by rw[hL.nm];exact kU hB
   have hL8:L.length<=8:=by have:=congrArg List.length hL.nm;rw[List.length_map,List.length_map] at this;omega
   have K:=keeps hB hA h;have hl6:∀ x∈L,x.2.2.length<=10:=λ x hx=>by
    have:x.1∈B.map (·.1):=by rw[<- hL.nm];exact List.mem_map.mpr ⟨x,hx,rfl⟩
    obtain⟨r,hr,er⟩:=List.mem_map.mp this;have h1:=K.le r hr;rw[er,<- (hL.ls x hx).1.length_eq] at h1;have:=(hB.row r hr).2.2;omega
   refine⟨e,_,lq.d,?_⟩;refine⟨_,rfl,1,_,rfl,(iZ (by rw[aw et.symm];exact h46)).2,rfl,e,_,rfl,ah,?_⟩;refine⟨λ i τ M'=>Ext M M'/\M' e=some (.fdic (L.map λ x=>(.inr x.1,.m x.2.1)))/\M' t=some (.tup [.d (.str "told"),.m e])/\(∀ x∈L,∃ ws,M' x.2.1=some (.lst ws)/\ws.length<=10+i)/\∃ y4 y6,τ=[some (.d (bsD B)),some (.d (asD A)),some (.d (.tuple [bsD B,asD A])),some (.d .none),y4,some (.m t),y6],⟨x06.upd eM,ah,by rw[aw et.symm];exact h46,λ x hx=>⟨_,by rw[aw (lq.l x hx).2];exact(lq.l x hx).1,by unfold eD;rw[List.length_map];exact hl6 x hx⟩,_,_,rfl⟩,?_,?_⟩
   ·rintro i w τ M7 hw ⟨x7,e7,t7,l7,y4,y6,rfl⟩;rw[List.map_map] at hw;obtain⟨x,hx,rfl⟩:=cS hw;have hi:i<L.length:=(List.getElem?_eq_some_iff.mp hx).1;have hxm:=List.mem_of_getElem? hx;obtain⟨ws,hws,hwl⟩:=l7 x hxm;have xe:e≠x.2.1:=λ q=>by rw[<- q,e7] at hws;cases hws
    have xt:t≠x.2.1:=λ q=>by rw[<- q,t7] at hws;cases hws
    have xM:M x.2.1=none:=x3.none (hL.ld.l x hxm).2.2;refine⟨_,rfl,1,_,rfl,(iZ t7).2,rfl,_,rfl,e,_,.inr x.1,_,rfl,.inr e7,rfl,Ld.get (M0:=M) (M:=M) (c:=e) nd' hxm,x.2.1,ws,rfl,hws,ws,hws,by omega,?_⟩;refine⟨x7.upd xM,by rw[aw xe];exact e7,by rw[aw xt];exact t7,λ y hy=>?_,_,_,rfl⟩
    by_cases q:y.2.1=x.2.1
    ·exact⟨_,by rw[q];exact ah,by rw[List.length_append,List.length_singleton];omega⟩
    ·obtain⟨w2,g1,g2⟩:=l7 y hy;exact⟨w2,by rw[aw q];exact g1,by omega⟩
   ·rintro τ M7 ⟨x7,e7,t7,l7,y4,y6,rfl⟩;refine⟨e7,?_⟩;refine⟨_,rfl,1,_,rfl,(iZ (by rw[aw et.symm];exact t7)).2,rfl,e,_,rfl,ah,?_⟩;exact⟨(x7.upd eM).upd eM,_,_,_,rfl⟩
  ·obtain rfl:s=.tuple [.int i1,.int j1,.int k1]:=hs.symm.trans h;have rok:okD 3 (.tuple [.str "refused",.tuple [.int i1,.int j1,.int k1],.bool true])=true:=by
    have h1:=lo.1;simp only[okD,okA] at h1 ⊢;rw[h1]
    decide +kernel
   refine⟨_,rfl,_,rfl,_,rfl,_,rfl,few (by simp),_,_,.d,.d,mU (by decide) pok pok,_,rfl,pJ (by rw[mP pok];rfl) ?_⟩;refine⟨_,rfl,rfl,_,rfl,nV ⟨_,rfl,_,rfl,_,rfl,few (by simp),_,_,.d,.d,mU (by decide) rok rok,_,rfl,pJ (by rw[mP rok];rfl) ?_⟩⟩;refine⟨_,rfl,1,_,rfl,rfl,rfl,_,_,rfl,.d,lo.2,_,rfl,_,_,rfl,.d,lo.2,_,_,.d,.d,by simp,_,rfl,pJ (by simp) ?_⟩;refine⟨_,rfl,rfl,_,rfl,jx (jx ?_)⟩;refine⟨_,rfl,rfl,_,rfl,jx (jx ?_)⟩;refine⟨_,rfl,rfl,_,rfl,jx ?_⟩;exact⟨x3.trans x4,_,_,_,rfl⟩
 ·rintro τ M3 ⟨x3,y4,y5,y6,rfl⟩;exact k M3 x3
theorem pH{rs:List Int}{A:As}:∀ i,i<=A.length->(run rs (A.take i)).2.map (·.1)=(A.take i).map (·.1)
 | 0,_=>rfl
 | i+1,hi=>by
  have hlt:i<A.length:=by omega
  have e:A[i]? =some A[i]:=List.getElem?_eq_getElem hlt;rw[gM e,List.take_succ,e,List.map_append,<- pH (rs:=rs) i (by omega)];show((run rs (A.take i)).2++[((A[i]).1,(A[i]).2.1,gr rs (run rs (A.take i)).1 (A[i]).2.1 (A[i]).2.2.toNat)]).map (·.1)=_;rw[List.map_append];rfl
theorem xK(rs:List Int)(A:As):(due rs A).map (·.1)=A.map (·.1):=by have:=pH (rs:=rs) (A:=A) A.length (Nat.le_refl _);rw[List.take_length] at this;rw[<- this];unfold due;rw[List.map_map];rfl
def uP(v:Str->Int)(A:As):As:=A.map λ r=>(r.1,r.2.1,if v r.1<r.2.2 then v r.1 else r.2.2)
theorem aaV{v:Str->Int}{A:As}(h:OkA A)(hv:∀ r∈A,0<=v r.1):OkA (uP v A):=by
 refine⟨by unfold uP;rw[List.length_map];exact h.len,λ r hr=>?_,?_⟩
 ·obtain⟨x,hx,rfl⟩:=List.mem_map.mp hr;have hr:=h.row x hx;have h0:=hv x hx;have h1:=hr.c0;have h2:=hr.c6;refine⟨hr.w,hr.k,?_,?_⟩
  ·dsimp only
   split<;>omega
  ·dsimp only
   split<;>omega
 ·unfold uP;rw[List.map_map];exact h.nd
def jL:SpD:=λ ws M Q=>∃ ns:List Int,ws=[.d (.list (ns.map PyData.int))]/\ns.length<=63/\Code M/\∀ M',Q (.d (.bool true)) M'
theorem adi:Ln jL 1:=by rintro ws M Q ⟨ns,rfl,_⟩;rfl
theorem zI:∀ ns:List Int,ns.length<=63->jL [.d (.list (ns.map PyData.int))] (M1T aC bS ⟨104,31,104,66⟩) (λ w _=>w=.d (.bool true)):=λ ns h=>⟨ns,rfl,h,if_pos rfl,λ _=>rfl⟩
theorem aaA:Rd jL (agq dY bZ cz cw b9) afS:=by
 rintro ws M Q ⟨ns,rfl,hl,hc,k⟩;have s16':=s16;refine⟨_,rfl,ns,rfl,by omega,λ p M1 hp f1 b1=>?_⟩;have cp:aC≠p:=λ e=>by unfold Code at hc;rw[e,hp] at hc;cases hc
 have c1:Code M1:=by unfold Code;rw[f1 _ cp];exact hc
 refine⟨3,rfl,by decide,by omega,?_⟩;refine⟨λ i τ M'=>Bag M' p/\Code M'/\∃ x0 y2 y3 y4 y5 y6,τ=[x0,some (.m p),y2,y3,y4,y5,y6],⟨b1,c1,_,_,_,_,_,_,rfl⟩,?_,?_⟩
 ·rintro i w τ M2 hw ⟨b2,c2,x0,y2,y3,y4,y5,y6,rfl⟩;obtain⟨hlt,rfl⟩:=tN hw;have hi:i<3:=by simpa using hlt
  obtain⟨top,htop,t0,t6⟩:∃ top:Int,ixW M2 (.d (.list [.int 6,.int 2,.int 3])) (0+(i:Int))=some (.d (.int top))/\0<=top/\top<=6:=by
   have:i=0\/i=1\/i=2:=by omega
   rcases this with rfl | rfl | rfl
   ·exact⟨6,rfl,by decide,by decide⟩
   ·exact⟨2,rfl,by decide,by decide⟩
   ·exact⟨3,rfl,by decide,by decide⟩
  refine⟨_,rfl,_,rfl,few (by simp),_,rfl,_,_,rfl,htop,rfl,p,8,top,rfl,b2,by decide,by decide,t0,t6,λ B M3 hB b3 x3=>?_⟩;refine⟨_,rfl,p,8,6,rfl,b3,by decide,by decide,by decide,by decide,λ A a M4 hA hAl b4 ap m4 x4=>⟨a,A.map aD,rfl,m4,_,_,rfl,?_⟩⟩;have hBl:=hB.len;have hAl:=hA.len;have c4:Code M4:=(x3.trans x4) _ _ cp c2;have ca:aC≠a:=λ e=>by unfold Code at c4;rw[e,m4] at c4;cases c4
  have b5:Bag (jX M4 a) p:=nF b4 (iO ap.symm);have c5:Code (jX M4 a):=by unfold Code;rw[iO ca];exact c4
  generalize jX M4 a=M5 at b5 c5;refine⟨_,rfl,_,_,rfl,.l,λ q hq=>⟨q,B.map bD,rfl,ah,?_⟩⟩;rw[fI hq];refine⟨_,rfl,_,_,rfl,.l,λ q hq=>⟨q,A.map aD,rfl,ah,?_⟩⟩;rw[fI hq];refine⟨B,A,rfl,hB,hA,λ q M6 hq h6 x6=>⟨q,_,rfl,h6,?_⟩⟩;have x7:Ext M5 (jX M6 q):=x6.del hq;generalize jX M6 q=M7 at x7;have dn:=xK (rooms B) A;have dr:=zH (rs:=rooms B) hA;have ndd:((due (rooms B) A).map (·.1)).Nodup:=by rw[dn];exact hA.nd
  generalize due (rooms B) A=D at dn dr ndd;have ep:(rk Prod.fst gI D).map _root_.D.pairD=D.map bD:=by unfold rk;rw[List.map_map];rfl
  have nk:((rk Prod.fst gI D).map (·.1)).Nodup:=by
   have:(rk Prod.fst gI D).map (·.1)=(D.map (·.1)).map Sum.inr:=by unfold rk;rw[List.map_map,List.map_map];rfl
   rw[this];exact List.Pairwise.map _ (λ a b hab e=>hab (Sum.inr.inj e)) ndd
  refine⟨_,rk Prod.fst gI D,rfl,by rw[ep];exact .d,nk,λ d hd=>?_⟩;rw[kh ndd];have x8:Ext M5 (bN M7 d (.dic (nKV (vB D) (D.map (·.1))))):=x7.upd (x7.none hd);have h8:bN M7 d (.dic (nKV (vB D) (D.map (·.1)))) d=some (.dic (nKV (vB D) (D.map (·.1)))):=ah;generalize bN M7 d (.dic (nKV (vB D) (D.map (·.1))))=M8 at x8 h8;have hv:∀ r∈A,0<=vB D r.1:=λ r hr=>by
   have:r.1∈D.map (·.1):=by rw[dn];exact List.mem_map.mpr ⟨r,hr,rfl⟩
   obtain⟨x,hx,ex⟩:=List.mem_map.mp this;rw[<- ex,xg ndd hx];exact(dr.1 x hx).2.1
  have hA':=aaV hA hv;have b8:Bag M8 p:=x8.bag b5;have c8:Code M8:=x8 _ _ c5;refine⟨_,rfl,_,rfl,?_⟩;rw[List.map_map];refine eR A (W.d ∘ aD) (λ r=>aD (r.1,r.2.1,if vB D r.1<r.2.2 then vB D r.1 else r.2.2)) (λ τ=>∃ x y z,τ=[x,y,z,some (.m d)]) (by omega) ⟨_,_,_,rfl⟩ (λ r hr τ hτ R h=>?_) (λ τ=>?_)
  ·obtain⟨x,y,z,rfl⟩:=hτ;have hk:r.1∈D.map (·.1):=by rw[dn];exact List.mem_map.mpr ⟨r,hr,rfl⟩
   exact⟨_,rfl,rfl,_,_,rfl,_,_,rfl,_,_,rfl,rfl,_,rfl,_,rfl,_,rfl,_,rfl,_,rfl,d,_,.inr r.1,_,rfl,.inl h8,rfl,gG hk,_,_,rfl,_,rfl,few (by simp),_,rfl,h _ ⟨_,_,_,rfl⟩⟩
  have e9:A.map (λ r=>aD (r.1,r.2.1,if vB D r.1<r.2.2 then vB D r.1 else r.2.2))=(uP (vB D) A).map aD:=by
   unfold uP;rw[List.map_map];rfl
  rw[e9];refine⟨_,rfl,_,rfl,B,A,rfl,hB,hA,c8,λ M9 x9=>⟨_,rfl,jx ?_⟩⟩;refine⟨_,rfl,_,rfl,B,uP (vB D) A,rfl,hB,hA',x9 _ _ c8,λ M10 x10=>⟨_,rfl,jx ?_⟩⟩;exact⟨x10.bag (x9.bag b8),x10 _ _ (x9 _ _ c8),_,_,_,_,_,_,rfl⟩
 ·rintro τ M2 ⟨b2,c2,x0,y2,y3,y4,y5,y6,rfl⟩;exact k M2
abbrev q_0:List Str:=["_law_script"]
abbrev q_1:List Str:=["_law_bag_here", "_law_many"]
abbrev q_2:List Str:=["_law_bag_here", "_law_most", "_law_top"]
abbrev q_3:List Str:=["thing"]
abbrev q_4:List Str:=["thing", "low", "high"]
abbrev q_5:List Str:=["row", "least"]
abbrev q_6:List Str:=["row"]
abbrev q_7:List Str:=["asked"]
abbrev q_8:List Str:=["demands", "kind", "many"]
abbrev q_9:List Str:=["rooms", "demands", "kind", "copies"]
abbrev aeo:List Str:=["rooms", "asked"]
abbrev lN:List Str:=["berths", "asked"]
abbrev aep:List Str:=["_law_berths_here", "_law_demands_here"]
abbrev aeq:List Str:=["_law_asked_here"]
abbrev nS:List Str:=["_law_berths_here", "_law_asked_here"]
abbrev aen:List Str:=["_law_found", "_law_berths_here", "_law_demands_here"]
abbrev aeu:List Str:=["berths", "least"]
abbrev abL:List Str:=["rooms", "demands"]
abbrev abk:List Str:=["berths"]
abbrev aet:List Str:=["self", "first", "demanded", "room"]
abbrev aem:List Str:=["numbers"]
local macro_rules | `(tactic| walk_at "sc")=>`(tactic| exact⟨rfl,rfl,rfl,by decide +kernel,rfl,by decide +kernel,by decide +kernel⟩)
local macro_rules | `(tactic| walk_at "b4")=>`(tactic| (intro _ _ _ _ _ _ us hl;obtain⟨_,_,_,_,e⟩:=D.aio hl;subst e;rfl))
local macro_rules | `(tactic| walk_at "b3")=>`(tactic| (intro _ _ _ _ _ _ us hl;obtain⟨_,_,_,e⟩:=D.afa hl;subst e;rfl))
local macro_rules | `(tactic| walk_at "b2")=>`(tactic| (intro _ _ _ _ _ _ us hl;obtain⟨_,_,e⟩:=D.afQ hl;subst e;rfl))
local macro_rules | `(tactic| walk_at "b1")=>`(tactic| (intro _ _ _ _ _ _ us hl;obtain⟨_,e⟩:=D.aau hl;subst e;rfl))
def top(i:Nat):Stmt:=PySem.Challenge.pw_placedworks_k35_layings.main.body.getD i (.Pass ⟨0,0,0,0⟩)
abbrev mK:Stmt:=top 29
abbrev jn:Stmt:=top 30
abbrev fM:Stmt:=top 31
abbrev hZ:Stmt:=top 32
abbrev ib:Stmt:=top 9
abbrev fU:Stmt:=top 7
abbrev eN:Stmt:=top 8
abbrev cn:Stmt:=top 16
abbrev bB:Stmt:=top 15
abbrev cJ:Stmt:=top 18
abbrev cM:Stmt:=top 17
abbrev ck:Stmt:=top 14
abbrev fu:Stmt:=top 22
abbrev eU:Stmt:=top 21
abbrev cK:Stmt:=top 23
abbrev ik:Stmt:=top 24
abbrev eA:Stmt:=top 19
abbrev g6:Stmt:=top 25
abbrev jm:Stmt:=top 34
abbrev eG:Stmt:=top 33
abbrev dW:Stmt:=top 20
abbrev de:Stmt:=inClass (top 4) 0
abbrev bp:Stmt:=top 27
abbrev jr:Stmt:=top 26
abbrev jq:Stmt:=top 36
abbrev jy:Stmt:=top 35
abbrev gP:Stmt:=top 37
abbrev g8:Stmt:=top 38
abbrev nA:Stmt:=top 39
structure Env(K:FG)(mg:Str->Option Value):Prop where
 m_BadAsked:mg "BadAsked" = some (.ref eC)
 m_BadBerths:mg "BadBerths" = some (.ref dH)
 m_NoRoom:mg "NoRoom" = some (.ref aE)
 m_PlaceError:mg "PlaceError" = some (.ref dU)
 x_NoRoom:XO.XC K aE
 e_NoRoom_NoRoom:W.exmOne K (.ref aE) (.ref aE)=some true
 h_greatest_first:W.codeHdIn K bC aC=true
 i_NoRoom_BadBerths_BadAsked:W.kitAny K (.ref aE) [.ref dH,.ref eC]=some false
 i_NoRoom_PlaceError:W.kitAny K (.ref aE) [.ref dU]=some true
 n_NoRoom_demanded:gh K aE "demanded"
 n_NoRoom_first:gh K aE "first"
 n_NoRoom_room:gh K aE "room"
 b_abs:mg "abs" = none
 b_all:mg "all" = none
 b_bool:mg "bool" = none
 b_dict:mg "dict" = none
 b_enumerate:mg "enumerate" = none
 b_int:mg "int" = none
 b_isinstance:mg "isinstance" = none
 b_len:mg "len" = none
 b_list:mg "list" = none
 b_min:mg "min" = none
 b_range:mg "range" = none
 b_repr:mg "repr" = none
 b_set:mg "set" = none
 b_sorted:mg "sorted" = none
 b_str:mg "str" = none
 b_sum:mg "sum" = none
 b_tuple:mg "tuple" = none
 c_LONGEST_WORD:∃ t,mg "LONGEST_WORD" = some (.int 8 t)
 c_MOST_BERTHS:∃ t,mg "MOST_BERTHS" = some (.int 6 t)
 c_MOST_COPIES:∃ t,mg "MOST_COPIES" = some (.int 6 t)
 c_MOST_ROWS:∃ t,mg "MOST_ROWS" = some (.int 8 t)
section
variable (P:Program)(w:World)(K:FG)(mg:Str->Option Value)(base:Heap)
abbrev yj:=ZZ P w K mg base (Fn K mg "_law_bag" mK q_0) 1 q_0 dY
abbrev mI:=ZZ P w K mg base (Fn K mg "_law_take" jn q_1) 1 q_1 ba
abbrev lL:=ZZ P w K mg base (Fn K mg "_law_berths" fM q_2) 2 q_2 bZ
abbrev pL:=ZZ P w K mg base (Fn K mg "_law_asked" hZ q_2) 2 q_2 cz
abbrev jJ:=ZZ P w K mg base (Fn K mg "is_word" ib q_3) 1 q_3 bx
abbrev md:=ZZ P w K mg base (Fn K mg "is_whole" fU q_3) 1 q_3 bW
abbrev gD:=ZZ P w K mg base (Fn K mg "is_within" eN q_4) 2 q_4 aW
abbrev ff:=ZZ P w K mg base (Fn K mg "is_machine_row" cn q_5) 3 q_5 aP
abbrev gg:=ZZ P w K mg base (Fn K mg "is_asked_row" cJ q_6) 3 q_6 bj
abbrev gn:=ZZ P w K mg base (Fn K mg "refuse_asked" cM q_7) 4 q_7 bc
abbrev gy:=ZZ P w K mg base (Fn K mg "with_more" eU q_8) 1 q_8 aV
abbrev f9:=ZZ P w K mg base (Fn K mg "greatest_run" cK q_9) 2 q_9 bf
abbrev pq:=ZZ P w K mg base (Fn K mg "running" ik aeo) 3 aeo cA
abbrev oW:=ZZ P w K mg base (Fn K mg "runs_of" g6 lN) 6 lN cw
abbrev sM:=ZZ P w K mg base (Fn K mg "_law_sums" jm aep) 1 aep cO
abbrev gF:=ZZ P w K mg base (Fn K mg "_law_demands" eG aeq) 1 aeq aQ
abbrev se:=ZZ P w K mg base (Fn K mg "_law_told" jq nS) 7 nS cQ
abbrev sf:=ZZ P w K mg base (Fn K mg "_law_laid" jy nS) 2 nS cR
abbrev oh:=ZZ P w K mg base (Fn K mg "_law_keeps" gP aen) 1 aen cx
abbrev oO:=ZZ P w K mg base (Fn K mg "_law_right" g8 nS) 8 nS b9
end
section
variable {P:Program}{w:World}{K:FG}{mg:Str->Option Value}{base:Heap}
theorem ahZ:(["_law_cell"]:List Str).Nodup:=by decide +kernel
theorem aal:aH zi q_0 (ao mK):=by walk_at "sc"
theorem aac(E:Env K mg)(F:Fn K mg "_law_bag" mK q_0 f fq) :
  cy P w K mg base CX0 1 f fq q_0 (dg K dY):=by
 refine bR (t:=wY) F.fn aal yD (λ cdv A outer s H E' hr=>?_) uM;refine Jd.h ?_;exact ai (aA (js (ax (ak) (ax (ak) (ax (ak) (ax (gc rfl (tR (own:=(["_law_cell"]:List Str)) (fr:=[]) rfl) (aS (dA (dvQ 0) (dM) (dy (ak)))) (λ _ _ _ _ _ _=>ar (i:=0) ahZ rfl (Or.inl rfl)) (λ _ _ _ _ _ _=>bL) (λ _ _ _ _ _ _=>gL zy ago rfl E.b_abs afL (ax (dvQ 0) (aa)))) (aa)))))))
theorem eh:aH t8 q_1 (ao jn):=by walk_at "sc"
theorem yP(E:Env K mg)(F:Fn K mg "_law_take" jn q_1 f fq) :
  cy P w K mg base CX0 1 f fq q_1 (dg K ba):=by
 refine bR (t:=rW) F.fn eh uw (λ cdv A outer s H E' hr=>?_) qX;refine Jd.h ?_;exact af (bJ (aK (abd hr.h) aeG (a9 aY aZ (dvQ 0) (ak)) (ak))
   (af (az (i:=2) eh.nd rfl (Or.inl rfl) (ak)) <|
   af (bJ (aK afI aa9 (a9 aY aZ (dvQ 0) (ak)) (gL dj gU rfl E.b_len ir (ax (a9 aY aZ (dvQ 0) (ak)) (aa))))
    (ai (az (i:=2) eh.nd rfl (Or.inl rfl) (a9 aY aZ (a9 aY aZ (dvQ 0) (ak)) (a9 aY aZ (dvQ 0) (ak)))))
    (aJ)) <|
   af (wb (dvQ 0) (ak) (ak) abK) <|
   af (bJ (aK ac4 wA (dvQ 2) (ak))
    (ai (jt (dvQ 2) (nv (dvQ 0) (ak))))
    (aJ)) <|
   ai (jt (aL gf d4 (aL bQ bo (aL bQ bo (aL lK iR (a9 aY aZ (dvQ 0) (ak)) (ak)) (aL gf d4 (dvQ 2) (ak))) (aL lK iR (ak) (a9 aY aZ (dvQ 0) (ak)))) (ak)) (nv (dvQ 0) (ak))))
   (aJ)) <|
  af (bJ (aK uC me (a9 aY aZ (dvQ 0) (ak)) (ak))
   (af (az (i:=3) eh.nd rfl (Or.inl rfl) (aL gf d4 (a9 aY aZ (dvQ 0) (ak)) (dvQ 1))) <|
   af (jt (aL xC wg (a9 aY aZ (dvQ 0) (ak)) (dvQ 1)) (nv (dvQ 0) (ak))) <|
   ai (aA (dvQ 3)))
   (aJ)) <|
  af (az (i:=4) eh.nd rfl (Or.inl rfl) (aL gf d4 (aL lK iR (aL bQ bo (a9 aY aZ (dvQ 0) (ak)) (ak)) (ak)) (ak))) <|
  af (az (i:=5) eh.nd rfl (Or.inl rfl) (aL gf d4 (aL lK iR (aL gf d4 (aL lK iR (dvQ 4) (dvQ 4)) (ak)) (ak)) (ak))) <|
  af (bJ (aK uC me (dvQ 1) (ak))
   (ai (aA (aL gf d4 (aL bQ bo (aL lK iR (dvQ 5) (ak)) (dvQ 4)) (dvQ 1))))
   (aJ)) <|
  ai (aA (aL gf d4 (aL xC wg (dvQ 5) (ak)) (dvQ 1)))
theorem aip:(["_law_k", "_law_word", "_law_bag_here", "_law_top"]:List Str).Nodup:=by decide +kernel
theorem gu:aH mh q_2 (ao fM):=by walk_at "sc"
theorem qO(E:Env K mg)(F:Fn K mg "_law_berths" fM q_2 f fq)(z1:mI P w K mg base) :
  cy P w K mg base CX0 2 f fq q_2 (dg K bZ):=by
 obtain⟨_,_,G1,O1⟩:=z1;refine bR (t:=mv ba) F.fn gu n3 (λ cdv A outer s H E' hr=>?_) mB;refine Jd.h ?_;exact af (az (i:=3) gu.nd rfl (Or.inl rfl) (d3 O1 hr.m rfl G1.mg G1.fn.kp G1.bd (ax (dvQ 0) (ax (aL bQ bo (dvQ 1) (ak)) (aa))))) <|
  af (az (i:=4) gu.nd rfl (Or.inr rfl) (a9 aY aZ (gv (ax (bA) (ax (bA) (ax (bA) (aa))))) (d3 O1 hr.m rfl G1.mg G1.fn.kp G1.bd (ax (dvQ 0) (ax (ak) (aa)))))) <|
  ai (aA (gc rfl (tR (own:=(["_law_k"]:List Str)) (fr:=[4,0,2]) rfl) (eK rfl E.b_range (ax (dvQ 3) (aa))) (λ _ _ _ _ _ _=>ar (i:=0) aip rfl (Or.inl rfl)) (λ _ _ _ _ _ _=>bL) (λ _ _ _ _ _ _=>cj (ax (aL bQ bo (dvQ 1) (aL ab7 aao (a9 aY aZ (bA) (dvQ 0)) (aL bQ bo (ak) (aL gf d4 (dvQ 0) (ak))))) (ax (d3 O1 hr.m rfl G1.mg G1.fn.kp G1.bd (ax (dvQ 2) (ax (aL bQ bo (dvQ 3) (ak)) (aa)))) (aa))))))
theorem cH:aH o8 q_2 (ao hZ):=by walk_at "sc"
theorem uE(E:Env K mg)(F:Fn K mg "_law_asked" hZ q_2 f fq)(z1:mI P w K mg base) :
  cy P w K mg base CX0 2 f fq q_2 (dg K cz):=by
 obtain⟨_,_,G1,O1⟩:=z1;refine bR (t:=pU ba) F.fn cH rC (λ cdv A outer s H E' hr=>?_) oe;refine Jd.h ?_;exact af (az (i:=3) cH.nd rfl (Or.inl rfl) (d3 O1 hr.m rfl G1.mg G1.fn.kp G1.bd (ax (dvQ 0) (ax (aL bQ bo (dvQ 1) (ak)) (aa))))) <|
  af (az (i:=4) cH.nd rfl (Or.inl rfl) (d3 O1 hr.m rfl G1.mg G1.fn.kp G1.bd (ax (dvQ 0) (ax (ak) (aa))))) <|
  af (az (i:=5) cH.nd rfl (Or.inl rfl) (dA (gv (ax (bA) (ax (bA) (ax (bA) (ax (bA) (ax (bA) (ax (bA) (ax (bA) (ax (bA) (ax (bA) (aa))))))))))) (dM) (dy (aL bQ bo (ak) (d3 O1 hr.m rfl G1.mg G1.fn.kp G1.bd (ax (dvQ 0) (ax (ak) (aa)))))))) <|
  af (az (i:=6) cH.nd rfl (Or.inl rfl) (js (aa))) <|
  af (bt PassesOwn.never rfl (eK rfl E.b_range (ax (dvQ 3) (aa))) (ar (i:=7) cH.nd rfl (Or.inl rfl))
   (af (az (i:=8) cH.nd rfl (Or.inl rfl) (a9 aY aZ (gv (ax (aL bQ bo (bA) (a9 aY aZ (bA) (aL gf d4 (aL bQ bo (dvQ 7) (dvQ 4)) (ak)))) (ax (bA) (aa)))) (zt yq afG rfl E.b_int abt (ax (mF (tE hr.h) mG (dvQ 7) (ak)) (aa))))) <|
   ai (cB (fQ (dvQ 6) (cj (ax (dvQ 8) (ax (a9 aY aZ (dvQ 5) (d3 O1 hr.m rfl G1.mg G1.fn.kp G1.bd (ax (dvQ 0) (ax (gL dj gU rfl E.b_len ir (ax (dvQ 5) (aa))) (aa))))) (ax (d3 O1 hr.m rfl G1.mg G1.fn.kp G1.bd (ax (dvQ 0) (ax (aL bQ bo (dvQ 2) (ak)) (aa)))) (aa))))))))) <|
  ai (aA (dvQ 6))
theorem ahQ:(["sign"]:List Str).Nodup:=by decide +kernel
theorem uN:aH pM q_3 (ao ib):=by walk_at "sc"
theorem uy(E:Env K mg)(F:Fn K mg "is_word" ib q_3 f fq) :
  cy P w K mg base CX0 1 f fq q_3 (dg K bx):=by
 refine bR (t:=o7) F.fn uN qt (λ cdv A outer s H E' hr=>?_) nZ;refine Jd.h ?_;exact af (bJ (eW (dZ (cL (df (gL dv gw rfl E.b_isinstance bM (ax (dvQ 0) (ax (eP rfl E.b_str agY) (aa)))))) (dQ (cL (u7 j8 gz j8 gz (ak) (gL dj gU rfl E.b_len ir (ax (dvQ 0) (aa))) (fC rfl (E.c_LONGEST_WORD).choose_spec))))))
   (ai (aA (fo)))
   (aJ)) <|
  ai (aA (gL (qo rfl) abn rfl E.b_all abD (ax (gc rfl (tR (own:=(["sign"]:List Str)) (fr:=[]) rfl) (aS (dvQ 0)) (λ _ _ _ _ _ _=>ar (i:=0) ahQ rfl (Or.inl rfl)) (λ _ _ _ _ _ _=>bL) (λ _ _ _ _ _ _=>oS j8 gz j8 gz (bA) (dvQ 0) (bA))) (aa))))
theorem rE:aH lU q_3 (ao fU):=by walk_at "sc"
theorem rN(E:Env K mg)(F:Fn K mg "is_whole" fU q_3 f fq) :
  cy P w K mg base CX0 1 f fq q_3 (dg K bW):=by
 refine bR (t:=lX) F.fn rE o9 (λ cdv A outer s H E' hr=>?_) m8;refine Jd.h ?_;exact ai (aA (eO (gL dv gw rfl E.b_isinstance bM (ax (dvQ 0) (ax (eP rfl E.b_int abt) (aa)))) (iN (xw (gL dv gw rfl E.b_isinstance bM (ax (dvQ 0) (ax (eP rfl E.b_bool aec) (aa))))))))
theorem ot:aH jR q_4 (ao eN):=by walk_at "sc"
theorem oF(E:Env K mg)(F:Fn K mg "is_within" eN q_4 f fq)(z5:md P w K mg base) :
  cy P w K mg base CX0 2 f fq q_4 (dg K aW):=by
 obtain⟨_,_,G5,O5⟩:=z5;refine bR (t:=jZ bW) F.fn ot nM (λ cdv A outer s H E' hr=>?_) lC;refine Jd.h ?_;exact ai (aA (eO (d3 O5 hr.m rfl G5.mg G5.fn.kp G5.bd (ax (dvQ 0) (aa))) (iN (oS j8 gz j8 gz (dvQ 1) (dvQ 0) (dvQ 2)))))
theorem iM:aH fg q_5 (ao cn):=by walk_at "sc"
theorem iL(E:Env K mg)(F:Fn K mg "is_machine_row" cn q_5 f fq)(z4:jJ P w K mg base)(z6:gD P w K mg base) :
  cy P w K mg base CX0 3 f fq q_5 (dg K aP):=by
 obtain⟨_,_,G4,O4⟩:=z4;obtain⟨_,_,G6,O6⟩:=z6;refine bR (t:=eX bx aW) F.fn iM h9 (λ cdv A outer s H E' hr=>?_) gH;refine Jd.h ?_;exact ai (aA (eO (gL dv gw rfl E.b_isinstance bM (ax (dvQ 0) (ax (eP rfl E.b_tuple sg) (aa)))) (eO (mF (tE hr.h) mG (gL dj gU rfl E.b_len ir (ax (dvQ 0) (aa))) (ak)) (eO (d3 O4 hr.m rfl G4.mg G4.fn.kp G4.bd (ax (a9 aY aZ (dvQ 0) (ak)) (aa))) (iN (d3 O6 hr.m rfl G6.mg G6.fn.kp G6.bd (ax (a9 aY aZ (dvQ 0) (ak)) (ax (dvQ 1) (ax (fC rfl (E.c_MOST_BERTHS).choose_spec) (aa))))))))))
theorem cX:aH fF aeu (ao bB):=by walk_at "sc"
theorem jc(E:Env K mg)(F:FnD K mg "refuse_berths" bB aeu 0 f fq)(z7:ff P w K mg base) :
  cy P w K mg base CX0 4 f fq aeu (dg K aX):=by
 obtain⟨_,_,G7,O7⟩:=z7;refine acV (t:=fJ aP) F.fn cX iG (λ cdv A outer s H E' hr=>?_) il;refine Jd.h ?_;exact af (bJ (cL (df (gL dv gw rfl E.b_isinstance bM (ax (dvQ 0) (ax (eP rfl E.b_list iz) (aa))))))
   (ai (fR))
   (aJ)) <|
  ai (bt PassesOwn.never rfl (jW rfl E.b_enumerate (ax (dvQ 0) (aa))) (bO rfl (av (ar (i:=2) cX.nd rfl (Or.inl rfl)) (av (ar (i:=3) cX.nd rfl (Or.inl rfl)) (bq))))
   (ai (bJ (eW (dZ (aK ac4 wA (dvQ 2) (fC rfl (E.c_MOST_ROWS).choose_spec)) (dZ (cL (df (d3 O7 hr.m rfl G7.mg G7.fn.kp G7.bd (ax (dvQ 3) (ax (dvQ 1) (aa)))))) (dQ (eW (jl (aK uC me (dvQ 2) (ak)) (ij (aK j8 gz (a9 aY aZ (dvQ 3) (ak)) (a9 aY aZ (a9 aY aZ (dvQ 0) (aL ql kJ (dvQ 2) (ak))) (ak))))))))))
    (ai (fR))
    (aJ))))
theorem j6:aH gm q_6 (ao cJ):=by walk_at "sc"
theorem j3(E:Env K mg)(F:Fn K mg "is_asked_row" cJ q_6 f fq)(z4:jJ P w K mg base)(z6:gD P w K mg base) :
  cy P w K mg base CX0 3 f fq q_6 (dg K bj):=by
 obtain⟨_,_,G4,O4⟩:=z4;obtain⟨_,_,G6,O6⟩:=z6;refine bR (t:=fY bx aW) F.fn j6 jf (λ cdv A outer s H E' hr=>?_) iF;refine Jd.h ?_;exact af (bJ (eW (dZ (cL (df (gL dv gw rfl E.b_isinstance bM (ax (dvQ 0) (ax (eP rfl E.b_tuple sg) (aa)))))) (dQ (aK (oG hr.h) kF (gL dj gU rfl E.b_len ir (ax (dvQ 0) (aa))) (ak)))))
   (ai (aA (fo)))
   (aJ)) <|
  ai (aA (eO (d3 O4 hr.m rfl G4.mg G4.fn.kp G4.bd (ax (a9 aY aZ (dvQ 0) (ak)) (aa))) (eO (d3 O4 hr.m rfl G4.mg G4.fn.kp G4.bd (ax (a9 aY aZ (dvQ 0) (ak)) (aa))) (iN (d3 O6 hr.m rfl G6.mg G6.fn.kp G6.bd (ax (a9 aY aZ (dvQ 0) (ak)) (ax (ak) (ax (fC rfl (E.c_MOST_COPIES).choose_spec) (aa)))))))))
theorem ahw:(["ahead"]:List Str).Nodup:=by decide +kernel
theorem dF:aH gp q_7 (ao cM):=by walk_at "sc"
theorem kD(E:Env K mg)(F:Fn K mg "refuse_asked" cM q_7 f fq)(z9:gg P w K mg base) :
  cy P w K mg base CX0 4 f fq q_7 (dg K bc):=by
 obtain⟨_,_,G9,O9⟩:=z9;refine bR (t:=f7 bj) F.fn dF ji (λ cdv A outer s H E' hr=>?_) iw;refine Jd.h ?_;exact af (bJ (cL (df (gL dv gw rfl E.b_isinstance bM (ax (dvQ 0) (ax (eP rfl E.b_list iz) (aa))))))
   (ai (fR))
   (aJ)) <|
  ai (bt PassesOwn.never rfl (jW rfl E.b_enumerate (ax (dvQ 0) (aa))) (bO rfl (av (ar (i:=1) dF.nd rfl (Or.inl rfl)) (av (ar (i:=2) dF.nd rfl (Or.inl rfl)) (bq))))
   (ai (bJ (eW (dZ (aK ac4 wA (dvQ 1) (fC rfl (E.c_MOST_ROWS).choose_spec)) (dZ (cL (df (d3 O9 hr.m rfl G9.mg G9.fn.kp G9.bd (ax (dvQ 2) (aa))))) (dQ (aK xj (aaO false) (a9 aY aZ (dvQ 2) (ak)) (gc rfl (tR (own:=(["ahead"]:List Str)) (fr:=[]) rfl) (aS (dA (dvQ 0) (dM) (dy (dvQ 1)))) (λ _ _ _ _ _ _=>ar (i:=0) ahw rfl (Or.inl rfl)) (λ _ _ _ _ _ _=>bL) (λ _ _ _ _ _ _=>a9 aY aZ (dvQ 0) (ak))))))))
    (ai (fR))
    (aJ))))
theorem kH:aH fZ lN (ao ck):=by walk_at "sc"
theorem kM(E:Env K mg)(F:Fn K mg "refuse_wrong" ck lN f fq)
  (G8:FnD K mg "refuse_berths" bB aeu 0 f8 fd8)(O8:cy P w K mg base CX0 4 f8 fd8 aeu (dg K aX))(z10:gn P w K mg base) :
  cy P w K mg base CX0 5 f fq lN (dg K aG):=by
 obtain⟨_,_,G10,O10⟩:=z10;refine bR (t:=gb aX bc) F.fn kH je (λ cdv A outer s H E' hr=>?_) iS;refine Jd.h ?_;exact af (cB (ai9 O8 hr.m rfl G8.mg G8.fn.kp G8.bd (ax (dvQ 0) (aa)))) <|
  ai (cB (d3 O10 hr.m rfl G10.mg G10.fn.kp G10.bd (ax (dvQ 1) (aa))))
theorem ahy:(["berths", "at"]:List Str).Nodup:=by decide +kernel
theorem dt:aH qm abL (ao fu):=by walk_at "sc"
theorem uX(E:Env K mg)(F:Fn K mg "lacking" fu abL f fq) :
  cy P w K mg base CX0 1 f fq abL (dg K bz):=by
 refine bR (t:=n9) F.fn dt rL (λ cdv A outer s H E' hr=>?_) ow;refine Jd.h ?_;exact af (az (i:=2) dt.nd rfl (Or.inl rfl) (ak)) <|
  af (bt PassesOwn.never rfl (jW rfl E.b_enumerate (ax (bV (mr rfl rfl E.b_sorted (dvQ 1))) (aa))) (bO rfl (av (ar (i:=3) dt.nd rfl (Or.inr rfl)) (av (ar (i:=4) dt.nd rfl (Or.inl rfl)) (bq))))
   (af (yg (i:=2) dt.nd rfl (Or.inl rfl) (dvQ 4) abK) <|
   af (az (i:=5) dt.nd rfl (Or.inl rfl) (gL (kK rfl) xF rfl E.b_sum su (ax (gc rfl (tR (own:=(["berths"]:List Str)) (fr:=[3]) rfl) (aS (dvQ 0)) (λ _ _ _ _ _ _=>ar (i:=0) ahy rfl (Or.inl rfl)) (λ _ _ _ _ _ _=>bL) (λ _ _ _ _ _ _=>gL (jF rfl) qB rfl E.b_min xo (ax (dvQ 0) (ax (aL bQ bo (dvQ 1) (ak)) (aa))))) (aa)))) <|
   ai (bJ (aK uC me (dvQ 2) (dvQ 5))
    (ai (aA (cj (ax (aL bQ bo (dvQ 3) (ak)) (ax (dvQ 2) (ax (dvQ 5) (aa)))))))
    (aJ)))) <|
  ai (aA (fH))
theorem ja:aH j0 q_8 (ao eU):=by walk_at "sc"
theorem pX(E:Env K mg)(F:Fn K mg "with_more" eU q_8 f fq) :
  cy P w K mg base CX0 1 f fq q_8 (dg K aV):=by
 refine bR (t:=jT) F.fn ja mD (λ cdv A outer s H E' hr=>?_) lE;refine Jd.h ?_;exact af (az (i:=3) ja.nd rfl (Or.inl rfl) (zt qx yO rfl E.b_dict j5 (ax (dvQ 0) (aa)))) <|
  af (fw (dE hr) (dvQ 3) (dvQ 1) (aL bQ bo (nG (dE hr) (dvQ 3) (dvQ 1) (ak)) (dvQ 2))) <|
  ai (aA (dvQ 3))
theorem fB:aH gq q_9 (ao cK):=by walk_at "sc"
theorem jV(E:Env K mg)(F:Fn K mg "greatest_run" cK q_9 f fq)
  (G12:Fn K mg "lacking" fu abL f12 fd12)(O12:cy P w K mg base CX0 1 f12 fd12 abL (dg K bz))(z13:gy P w K mg base) :
  cy P w K mg base CX0 2 f fq q_9 (dg K bf):=by
 obtain⟨_,_,G13,O13⟩:=z13;refine bR (t:=gj bz aV) F.fn fB jd (λ cdv A outer s H E' hr=>?_) iI;refine Jd.h ?_;exact af (bt PassesOwn.never rfl (ou rfl E.b_range (ax (dvQ 3) (ax (ak) (ax (abP abJ wJ (ak)) (aa))))) (ar (i:=4) fB.nd rfl (Or.inl rfl))
   (ai (bJ (aK tm nC (d3 O12 hr.m rfl G12.mg G12.fn.kp G12.bd (ax (dvQ 0) (ax (d3 O13 hr.m rfl G13.mg G13.fn.kp G13.bd (ax (dvQ 1) (ax (dvQ 2) (ax (dvQ 4) (aa))))) (aa)))) (fH))
    (ai (aA (dvQ 4)))
    (aJ)))) <|
  ai (aA (ak))
theorem cv:aH pA aeo (ao ik):=by walk_at "sc"
theorem uK(E:Env K mg)(F:Fn K mg "running" ik aeo f fq)(z14:f9 P w K mg base)(z13:gy P w K mg base) :
  cy P w K mg base CX0 3 f fq aeo (dg K cA):=by
 obtain⟨_,_,G14,O14⟩:=z14;obtain⟨_,_,G13,O13⟩:=z13;refine bR (t:=oN bf aV) F.fn cv qV (λ cdv A outer s H E' hr=>?_) pQ;refine Jd.h ?_;exact af (az (i:=2) cv.nd rfl (Or.inl rfl) (iC)) <|
  af (az (i:=3) cv.nd rfl (Or.inl rfl) (js (aa))) <|
  af (bt PassesOwn.never rfl (aS (dvQ 1)) (bO rfl (av (ar (i:=4) cv.nd rfl (Or.inl rfl)) (av (ar (i:=5) cv.nd rfl (Or.inl rfl)) (av (ar (i:=6) cv.nd rfl (Or.inl rfl)) (bq)))))
   (af (az (i:=7) cv.nd rfl (Or.inl rfl) (d3 O14 hr.m rfl G14.mg G14.fn.kp G14.bd (ax (dvQ 0) (ax (dvQ 2) (ax (dvQ 5) (ax (dvQ 6) (aa))))))) <|
   af (az (i:=2) cv.nd rfl (Or.inl rfl) (d3 O13 hr.m rfl G13.mg G13.fn.kp G13.bd (ax (dvQ 2) (ax (dvQ 5) (ax (dvQ 7) (aa)))))) <|
   ai (cB (fQ (dvQ 3) (cj (ax (dvQ 4) (ax (dvQ 5) (ax (dvQ 7) (aa))))))))) <|
  ai (aA (dvQ 3))
theorem agn:(["machine", "many"]:List Str).Nodup:=by decide +kernel
theorem qZ:aH lZ abk (ao eA):=by walk_at "sc"
theorem qH(E:Env K mg)(F:Fn K mg "rooms_of" eA abk f fq) :
  cy P w K mg base CX0 1 f fq abk (dg K bb):=by
 refine bR (t:=lS) F.fn qZ o6 (λ cdv A outer s H E' hr=>?_) nP;refine Jd.h ?_;exact ai (aA (gc rfl (tR (own:=(["machine", "many"]:List Str)) (fr:=[]) rfl) (aS (dvQ 0)) (λ _ _ _ _ _ _=>bO rfl (av (ar (i:=0) agn rfl (Or.inl rfl)) (av (ar (i:=1) agn rfl (Or.inl rfl)) (bq)))) (λ _ _ _ _ _ _=>bL) (λ _ _ _ _ _ _=>dvQ 1)))
theorem adF:(["wish", "kind", "run"]:List Str).Nodup:=by decide +kernel
theorem uu:aH oX lN (ao g6):=by walk_at "sc"
theorem uo(E:Env K mg)(F:Fn K mg "runs_of" g6 lN f fq)
  (G11:Fn K mg "refuse_wrong" ck lN f11 fd11)(O11:cy P w K mg base CX0 5 f11 fd11 lN (dg K aG))(z15:pq P w K mg base)
  (G16:Fn K mg "rooms_of" eA abk f16 fd16)(O16:cy P w K mg base CX0 1 f16 fd16 abk (dg K bb)) :
  cy P w K mg base CX0 6 f fq lN (dg K cw):=by
 obtain⟨_,_,G15,O15⟩:=z15;refine bR (t:=qi aG cA bb) F.fn uu qS (λ cdv A outer s H E' hr=>?_) pZ;refine Jd.h ?_;exact af (cB (d3 O11 hr.m rfl G11.mg G11.fn.kp G11.bd (ax (dvQ 0) (ax (dvQ 1) (aa))))) <|
  ai (aA (adQ rfl (tR (own:=(["wish", "kind", "run"]:List Str)) (fr:=[]) rfl) (aS (bV (d3 O15 hr.m rfl G15.mg G15.fn.kp G15.bd (ax (d3 O16 hr.m rfl G16.mg G16.fn.kp G16.bd (ax (dvQ 0) (aa))) (ax (dvQ 1) (aa)))))) (λ _ _ _ _ _ _=>bO rfl (av (ar (i:=0) adF rfl (Or.inl rfl)) (av (ar (i:=1) adF rfl (Or.inl rfl)) (av (ar (i:=2) adF rfl (Or.inl rfl)) (bq))))) (λ _ _ _ _ _ _=>bL) (λ _ _ _ _ _ _=>cj (ax (dvQ 0) (ax (dvQ 2) (aa))))))
theorem dw:aH sx aep (ao jm):=by walk_at "sc"
theorem yx(E:Env K mg)(F:Fn K mg "_law_sums" jm aep f fq) :
  cy P w K mg base CX0 1 f fq aep (dg K cO):=by
 refine bR (t:=tW) F.fn dw uf (λ cdv A outer s H E' hr=>?_) qU;refine Jd.h ?_;exact af (az (i:=2) dw.nd rfl (Or.inl rfl) (bV (mr rfl rfl E.b_sorted (dvQ 1)))) <|
  af (bt PassesOwn.never rfl (rm rfl E.b_range (ax (ak) (ax (aL bQ bo (gL dj gU rfl E.b_len ir (ax (dvQ 2) (aa))) (ak)) (aa)))) (ar (i:=3) dw.nd rfl (Or.inl rfl))
   (af (az (i:=4) dw.nd rfl (Or.inl rfl) (ak)) <|
   af (bt PassesOwn.never rfl (aS (dvQ 0)) (bO rfl (av (ar (i:=5) dw.nd rfl (Or.inl rfl)) (av (ar (i:=6) dw.nd rfl (Or.inl rfl)) (bq))))
    (ai (az (i:=4) dw.nd rfl (Or.inl rfl) (aL bQ bo (dvQ 4) (gL (jF rfl) qB rfl E.b_min xo (ax (dvQ 6) (ax (dvQ 3) (aa)))))))) <|
   ai (bJ (aK uC me (gL (kK rfl) xF rfl E.b_sum su (ax (dA (dvQ 2) (dM) (dy (dvQ 3))) (aa))) (dvQ 4))
    (ai (aA (cj (ax (dvQ 3) (ax (gL (kK rfl) xF rfl E.b_sum su (ax (dA (dvQ 2) (dM) (dy (dvQ 3))) (aa))) (ax (dvQ 4) (aa)))))))
    (aJ)))) <|
  ai (aA (fH))
theorem cN:aH j4 aeq (ao eG):=by walk_at "sc"
theorem pg(E:Env K mg)(F:Fn K mg "_law_demands" eG aeq f fq) :
  cy P w K mg base CX0 1 f fq aeq (dg K aQ):=by
 refine bR (t:=kO) F.fn cN mJ (λ cdv A outer s H E' hr=>?_) lj;refine Jd.h ?_;exact af (az (i:=1) cN.nd rfl (Or.inl rfl) (iC)) <|
  af (bt PassesOwn.never rfl (aS (dvQ 0)) (bO rfl (av (ar (i:=2) cN.nd rfl (Or.inl rfl)) (av (ar (i:=3) cN.nd rfl (Or.inl rfl)) (av (ar (i:=4) cN.nd rfl (Or.inl rfl)) (bq)))))
   (ai (fw (dE hr) (dvQ 1) (dvQ 3) (aL bQ bo (nG (dE hr) (dvQ 1) (dvQ 3) (ak)) (dvQ 4))))) <|
  ai (aA (dvQ 1))
theorem cF:aH iX q_7 (ao dW):=by walk_at "sc"
theorem mN(E:Env K mg)(F:Fn K mg "demands_of" dW q_7 f fq) :
  cy P w K mg base CX0 1 f fq q_7 (dg K bK):=by
 refine bR (t:=iY) F.fn cF la (λ cdv A outer s H E' hr=>?_) fK;refine Jd.h ?_;exact af (az (i:=1) cF.nd rfl (Or.inl rfl) (iC)) <|
  af (bt PassesOwn.never rfl (aS (dvQ 0)) (bO rfl (av (ar (i:=2) cF.nd rfl (Or.inl rfl)) (av (ar (i:=3) cF.nd rfl (Or.inl rfl)) (av (ar (i:=4) cF.nd rfl (Or.inl rfl)) (bq)))))
   (ai (fw (dE hr) (dvQ 1) (dvQ 3) (aL bQ bo (nG (dE hr) (dvQ 1) (dvQ 3) (ak)) (dvQ 4))))) <|
  ai (aA (dvQ 1))
theorem lF:aH mY aet (ao de):=by walk_at "sc"
theorem lG(E:Env K mg)(F:Xi K aE "NoRoom.__init__" de aet f fq):cy P w K mg base CX0 1 f fq aet (aaC aE ["first", "demanded", "room"]):=ahd F.fn lF F.xm.xc E.n_NoRoom_first E.n_NoRoom_demanded E.n_NoRoom_room rfl (λ _=>rfl) (λ _=>rfl) (λ _=>rfl) (by decide) (by decide)
theorem iP:aH eZ aem (ao bp):=by walk_at "sc"
theorem iQ(E:Env K mg)(F:Fn K mg "greatest_first" bp aem f fq)(hcd:fq.code=.ref bC) :
  cy P w K mg base CX0 4 f fq aem (dg K aI):=by
 refine acZ (t:=eV) F.fn hcd iP gW (λ A outer s H E' hr=>?_) gA;refine Jd.h ?_;exact ai (aA (vX (k:=0) (q:=bS) hr.m rfl rfl E.b_sorted (ahn (x:= "word") (fr:=[0]) rfl) rfl E.h_greatest_first rfl (λ _ _ _ _ _=>rfl) (dvQ 0) (λ _ _ _ _ _ _ hr=>cj (ax (abP abJ wJ (bU (dE hr) (dvQ 1) (dvQ 0))) (ax (dvQ 0) (aa))))))
theorem aht:(["machine"]:List Str).Nodup:=by decide +kernel
theorem ae9:(["machine", "kinds"]:List Str).Nodup:=by decide +kernel
theorem bX:aH sC lN (ao jr):=by walk_at "sc"
theorem wC(E:Env K mg)(F:Fn K mg "laying" jr lN f fq)
  (G11:Fn K mg "refuse_wrong" ck lN f11 fd11)(O11:cy P w K mg base CX0 5 f11 fd11 lN (dg K aG))
  (G20:Fn K mg "demands_of" dW q_7 f20 fd20)(O20:cy P w K mg base CX0 1 f20 fd20 q_7 (dg K bK))
  (G12:Fn K mg "lacking" fu abL f12 fd12)(O12:cy P w K mg base CX0 1 f12 fd12 abL (dg K bz))
  (G16:Fn K mg "rooms_of" eA abk f16 fd16)(O16:cy P w K mg base CX0 1 f16 fd16 abk (dg K bb))
  (G21:Xi K aE "NoRoom.__init__" de aet f21 fd21)(O21:cy P w K mg base CX0 1 f21 fd21 aet (aaC aE ["first", "demanded", "room"]))
  (G22:Fn K mg "greatest_first" bp aem f22 fd22)(O22:cy P w K mg base CX0 4 f22 fd22 aem (dg K aI)) :
  cy P w K mg base (CXE P w) 6 f fq lN (aa1 K cV):=by
 refine ab8 (t:=λ Ex=>sy Ex aG bK bz bb aI) F.fn bX uO (λ cdv A outer s H E' Ex hr hE hP=>?_) qL;refine Jd.h ?_;exact af (cB (d3 O11 hr.m rfl G11.mg G11.fn.kp G11.bd (ax (dvQ 0) (ax (dvQ 1) (aa))))) <|
  af (az (i:=2) bX.nd rfl (Or.inl rfl) (d3 O20 hr.m rfl G20.mg G20.fn.kp G20.bd (ax (dvQ 1) (aa)))) <|
  af (az (i:=3) bX.nd rfl (Or.inl rfl) (d3 O12 hr.m rfl G12.mg G12.fn.kp G12.bd (ax (d3 O16 hr.m rfl G16.mg G16.fn.kp G16.bd (ax (dvQ 0) (aa))) (ax (dvQ 2) (aa))))) <|
  af (bJ (aK w6 sd (dvQ 3) (fH))
   (af (jt (dvQ 3) (bO rfl (av (ar (i:=4) bX.nd rfl (Or.inl rfl)) (av (ar (i:=5) bX.nd rfl (Or.inl rfl)) (av (ar (i:=6) bX.nd rfl (Or.inl rfl)) (bq)))))) <|
   ai (vi hE G21.xm O21 hr.m rfl E.m_NoRoom G21.bd (ax (dvQ 4) (ax (dvQ 5) (ax (dvQ 6) (aa))))))
   (aJ)) <|
  af (az (i:=7) bX.nd rfl (Or.inl rfl) (zt (eS rfl) gX rfl E.b_dict j5 (ax (dvQ 0) (aa)))) <|
  af (iH (uT (i:=8) bX.nd rfl (Or.inl rfl) rfl (tR (own:=(["machine"]:List Str)) (fr:=[]) rfl) (fX (dvQ 7)) (λ _ _ _ _ _ _=>ar (i:=0) aht rfl (Or.inl rfl)) (λ _ _ _ _ _ _=>bL) (λ _ _ _ _ _ _=>dvQ 0) (λ _ _ _ _ _ _=>js (aa)))) <|
  af (bt hP rfl (aS (bV (d3 O22 hr.m rfl G22.mg G22.fn.kp G22.bd (ax (dvQ 2) (aa))))) (ar (i:=9) bX.nd rfl (Or.inl rfl))
   (af (az (i:=10) bX.nd rfl (Or.inl rfl) (dA (bV (d3 O22 hr.m rfl G22.mg G22.fn.kp G22.bd (ax (dvQ 7) (aa)))) (dM) (dy (bU (dE hr) (dvQ 2) (dvQ 9))))) <|
   ai (bt hP rfl (aS (dvQ 10)) (ar (i:=11) bX.nd rfl (Or.inl rfl))
    (af (cB (fQ (bU (dE hr) (dvQ 8) (dvQ 11)) (dvQ 9))) <|
    ai (vR (dE hr) (dvQ 7) (dvQ 11) (ak) aeA))))) <|
  ai (aA (aak (hV (agt rfl (tR (own:=(["machine", "kinds"]:List Str)) (fr:=[]) rfl) (qG (dvQ 8)) (λ _ _ _ _ _ _=>bO rfl (av (ar (i:=0) ae9 rfl (Or.inl rfl)) (av (ar (i:=1) ae9 rfl (Or.inl rfl)) (bq)))) (λ _ _ _ _ _ _=>bL) (λ _ _ _ _ _ _=>dvQ 0) (λ _ _ _ _ _ _=>gL i4 tL rfl E.b_sorted ef (ax (dvQ 1) (aa)))))))
theorem jG:aH rY nS (ao jq):=by walk_at "sc"
theorem yX(E:Env K mg)(F:Fn K mg "_law_told" jq nS f fq)
  (G23:Fn K mg "laying" jr lN f23 fd23)(O23:cy P w K mg base (CXE P w) 6 f23 fd23 lN (aa1 K cV)) :
  cy P w K mg base CX0 7 f fq nS (dg K cQ):=by
 refine bR (t:=sS cV) F.fn jG vd (λ cdv A outer s H E' hr=>?_) rF;refine Jd.h ?_;exact ai (aaD rfl rfl (λ _ _ _ _ hE hP =>
   ai (aA (aav (ax (bA) (ax (ajl hE O23 hr.m rfl G23.mg G23.fn.kp G23.bd (ax (dvQ 0) (ax (dvQ 1) (aa)))) (aa)))))) (afw (i:=2) rfl E.m_NoRoom (sr.cons E.e_NoRoom_NoRoom (sr.nil)) jG.nd rfl rfl rfl (λ _ =>
   af (az (i:=3) jG.nd rfl (Or.inl rfl) (eO (zS E.b_isinstance (sr.cons ⟨E.x_NoRoom,E.i_NoRoom_PlaceError⟩ (sr.nil)) rfl E.m_PlaceError (dvQ 2)) (iN (xw (aax (cs:=[.ref dH,.ref eC]) E.b_isinstance (sr.cons ⟨E.x_NoRoom,E.i_NoRoom_BadBerths_BadAsked⟩ (sr.nil)) (tw rfl E.m_BadBerths (tw rfl E.m_BadAsked (ad8))) (dvQ 2)))))) <|
    ai (aA (cj (ax (bA) (ax (cj (ax (mV (vz.cons ⟨E.x_NoRoom,E.n_NoRoom_first⟩ (vz.nil)) (dvQ 2)) (ax (mV (vz.cons ⟨E.x_NoRoom,E.n_NoRoom_demanded⟩ (vz.nil)) (dvQ 2)) (ax (mV (vz.cons ⟨E.x_NoRoom,E.n_NoRoom_room⟩ (vz.nil)) (dvQ 2)) (aa))))) (ax (dvQ 3) (aa))))))) (aag)))
theorem agX:(["_law_machine", "_law_many"]:List Str).Nodup:=by decide +kernel
theorem afV:(["_law_kind", "_law_demands_here"]:List Str).Nodup:=by decide +kernel
theorem aeE:(["_law_machine", "_law_room"]:List Str).Nodup:=by decide +kernel
theorem cD:aH tQ nS (ao jy):=by walk_at "sc"
theorem vT(E:Env K mg)(F:Fn K mg "_law_laid" jy nS f fq)(z19:gF P w K mg base) :
  cy P w K mg base CX0 2 f fq nS (dg K cR):=by
 obtain⟨_,_,G19,O19⟩:=z19;refine bR (t:=tT aQ) F.fn cD uq (λ cdv A outer s H E' hr=>?_) qP;refine Jd.h ?_;exact af (az (i:=2) cD.nd rfl (Or.inr rfl) (d3 O19 hr.m rfl G19.mg G19.fn.kp G19.bd (ax (dvQ 1) (aa)))) <|
  af (az (i:=3) cD.nd rfl (Or.inr rfl) (zt (eS rfl) gX rfl E.b_dict j5 (ax (dvQ 0) (aa)))) <|
  af (az (i:=4) cD.nd rfl (Or.inl rfl) (zt (eS rfl) gX rfl E.b_dict j5 (ax (gc rfl (tR (own:=(["_law_machine", "_law_many"]:List Str)) (fr:=[]) rfl) (aS (dvQ 0)) (λ _ _ _ _ _ _=>bO rfl (av (ar (i:=0) agX rfl (Or.inl rfl)) (av (ar (i:=1) agX rfl (Or.inl rfl)) (bq)))) (λ _ _ _ _ _ _=>bL) (λ _ _ _ _ _ _=>cj (ax (dvQ 0) (ax (gv (aa)) (aa))))) (aa)))) <|
  af (bt PassesOwn.never rfl (aS (bV (gL i6 tD rfl E.b_sorted ef (ax (hV (gc rfl (tR (own:=(["_law_kind"]:List Str)) (fr:=[2]) rfl) (fX (dvQ 2)) (λ _ _ _ _ _ _=>ar (i:=0) afV rfl (Or.inl rfl)) (λ _ _ _ _ _ _=>bL) (λ _ _ _ _ _ _=>cj (ax (aL ql kJ (ak) (bU (dE hr) (dvQ 1) (dvQ 0))) (ax (dvQ 0) (aa)))))) (aa))))) (bO rfl (av (ar (i:=5) cD.nd rfl (Or.inl rfl)) (av (ar (i:=6) cD.nd rfl (Or.inl rfl)) (bq))))
   (af (az (i:=7) cD.nd rfl (Or.inl rfl) (bV (gL i6 tD rfl E.b_sorted ef (ax (hV (gc rfl (tR (own:=(["_law_machine"]:List Str)) (fr:=[3]) rfl) (fX (dvQ 3)) (λ _ _ _ _ _ _=>ar (i:=0) aeE rfl (Or.inl rfl)) (λ _ _ _ _ _ _=>bL) (λ _ _ _ _ _ _=>cj (ax (aL ql kJ (ak) (bU (dE hr) (dvQ 1) (dvQ 0))) (ax (dvQ 0) (aa)))))) (aa))))) <|
   ai (bt PassesOwn.never rfl (aS (dA (dvQ 7) (dM) (dy (aL ql kJ (ak) (dvQ 5))))) (bO rfl (av (ar (i:=8) cD.nd rfl (Or.inl rfl)) (av (ar (i:=9) cD.nd rfl (Or.inl rfl)) (bq))))
    (af (fw (dE hr) (dvQ 4) (dvQ 9) (bV (gL i4 tL rfl E.b_sorted ef (ax (zc (bU (dE hr) (dvQ 4) (dvQ 9)) (gv (ax (dvQ 6) (aa)))) (aa))))) <|
    ai (fw (dE hr) (dvQ 3) (dvQ 9) (aL ql kJ (bU (dE hr) (dvQ 3) (dvQ 9)) (ak))))))) <|
  ai (aA (dvQ 4))
theorem agP:(["_law_kind", "_law_laid_here", "_law_demands_here"]:List Str).Nodup:=by decide +kernel
theorem dm:aH pT aen (ao gP):=by walk_at "sc"
theorem vf(E:Env K mg)(F:Fn K mg "_law_keeps" gP aen f fq) :
  cy P w K mg base CX0 1 f fq aen (dg K cx):=by
 refine bR (t:=qf) F.fn dm rh (λ cdv A outer s H E' hr=>?_) pV;refine Jd.h ?_;exact af (bt PassesOwn.never rfl (aS (dvQ 1)) (bO rfl (av (ar (i:=3) dm.nd rfl (Or.inl rfl)) (av (ar (i:=4) dm.nd rfl (Or.inl rfl)) (bq))))
   (ai (bJ (eW (dZ (aK uC me (gL dj gU rfl E.b_len ir (ax (bU (dE hr) (dvQ 0) (dvQ 3)) (aa))) (dvQ 4)) (dQ (aK afI aa9 (uB rfl rfl E.b_len rfl E.b_set (bU (dE hr) (dvQ 0) (dvQ 3))) (gL dj gU rfl E.b_len ir (ax (bU (dE hr) (dvQ 0) (dvQ 3)) (aa)))))))
    (ai (aA (fo)))
    (aJ)))) <|
  af (az (i:=5) dm.nd rfl (Or.inr rfl) (gv (aa))) <|
  af (iH (bt PassesOwn.never rfl (jU (dvQ 0)) (ar (i:=3) dm.nd rfl (Or.inl rfl))
   (ai (az (i:=5) dm.nd rfl (Or.inr rfl) (zc (dvQ 5) (bU (dE hr) (dvQ 0) (dvQ 3))))))) <|
  ai (aA (eO (gL (qo rfl) abn rfl E.b_all abD (ax (hV (gc rfl (tR (own:=(["_law_kind"]:List Str)) (fr:=[5,2]) rfl) (fX (dvQ 2)) (λ _ _ _ _ _ _=>ar (i:=0) agP rfl (Or.inl rfl)) (λ _ _ _ _ _ _=>bL) (λ _ _ _ _ _ _=>mF (tE hr.h) mG (yv hr (dvQ 1) (dvQ 0)) (bU (dE hr) (dvQ 2) (dvQ 0))))) (aa))) (iN (mF (tE hr.h) mG (gL dj gU rfl E.b_len ir (ax (dvQ 5) (aa))) (aaz rfl rfl E.b_sum (dvQ 2))))))
theorem du:aH oA nS (ao g8):=by walk_at "sc"
theorem vj(E:Env K mg)(F:Fn K mg "_law_right" g8 nS f fq)(z18:sM P w K mg base)(z19:gF P w K mg base)(z24:se P w K mg base)(z25:sf P w K mg base)(z26:oh P w K mg base) :
  cy P w K mg base CX0 8 f fq nS (dg K b9):=by
 obtain⟨_,_,G18,O18⟩:=z18;obtain⟨_,_,G19,O19⟩:=z19;obtain⟨_,_,G24,O24⟩:=z24;obtain⟨_,_,G25,O25⟩:=z25;obtain⟨_,_,G26,O26⟩:=z26;refine bR (t:=p8 cO aQ cQ cR cx) F.fn du rQ (λ cdv A outer s H E' hr=>?_) pR;refine Jd.h ?_;exact af (az (i:=2) du.nd rfl (Or.inl rfl) (cj (ax (bV (zt dX gS rfl E.b_list iz (ax (dvQ 0) (aa)))) (ax (bV (zt dX gS rfl E.b_list iz (ax (dvQ 1) (aa)))) (aa))))) <|
  af (az (i:=3) du.nd rfl (Or.inl rfl) (d3 O18 hr.m rfl G18.mg G18.fn.kp G18.bd (ax (dvQ 0) (ax (d3 O19 hr.m rfl G19.mg G19.fn.kp G19.bd (ax (dvQ 1) (aa))) (aa))))) <|
  af (bt PassesOwn.never rfl (eK rfl E.b_range (ax (ak) (aa))) (ar (i:=4) du.nd rfl (Or.inl rfl))
   (af (az (i:=5) du.nd rfl (Or.inl rfl) (d3 O24 hr.m rfl G24.mg G24.fn.kp G24.bd (ax (a9 aY aZ (dvQ 2) (ak)) (ax (a9 aY aZ (dvQ 2) (ak)) (aa))))) <|
   af (bJ (aK (oG hr.h) kF (dvQ 2) (cj (ax (dvQ 0) (ax (dvQ 1) (aa)))))
    (ai (aA (fo)))
    (aJ)) <|
   af (bJ (eW (jl (aK w6 sd (dvQ 3) (fH)) (ij (eW (dZ (aK (oG hr.h) kF (dvQ 5) (cj (ax (bA) (ax (dvQ 3) (ax (fo) (aa)))))) (dQ (aK (oG hr.h) kF (gL (mf hr.h) sE rfl E.b_repr xq (ax (a9 aY aZ (dvQ 5) (ak)) (aa))) (gL (mf hr.h) sE rfl E.b_repr xq (ax (dvQ 3) (aa))))))))))
    (ai (aA (fo)))
    (aJ)) <|
   af (bJ (eW (jl (aK tm nC (dvQ 3) (fH)) (ij (eW (dZ (aK (oG hr.h) kF (a9 aY aZ (dvQ 5) (ak)) (bA)) (dQ (aK (aco hr.h) zF (a9 aY aZ (dvQ 5) (ak)) (d3 O25 hr.m rfl G25.mg G25.fn.kp G25.bd (ax (dvQ 0) (ax (dvQ 1) (aa)))))))))))
    (ai (aA (fo)))
    (aJ)) <|
   af (bJ (eW (jl (aK tm nC (dvQ 3) (fH)) (ij (cL (df (d3 O26 hr.m rfl G26.mg G26.fn.kp G26.bd (ax (a9 aY aZ (dvQ 5) (ak)) (ax (dvQ 0) (ax (d3 O19 hr.m rfl G19.mg G19.fn.kp G19.bd (ax (dvQ 1) (aa))) (aa))))))))))
    (ai (aA (fo)))
    (aJ)) <|
   ai (bJ (aK tm nC (dvQ 3) (fH))
    (af (iH (bt PassesOwn.never rfl (jU (a9 aY aZ (dvQ 5) (ak))) (ar (i:=6) du.nd rfl (Or.inl rfl))
     (ai (cB (fQ (bU (dE hr) (a9 aY aZ (dvQ 5) (ak)) (dvQ 6)) (bA)))))) <|
    ai (cB (vn (a9 aY aZ (dvQ 5) (ak)))))
    (aJ)))) <|
  ai (aA (fo))
theorem vH:(["_law_wish", "_law_kind", "_law_copies", "_law_fitting"]:List Str).Nodup:=by decide +kernel
theorem l0:aH afS q_0 (ao nA):=by walk_at "sc"
theorem agV(E:Env K mg)(F:Fn K mg "law" nA q_0 f fq)(z0:yj P w K mg base)(z2:lL P w K mg base)(z3:pL P w K mg base)(z17:oW P w K mg base)(z27:oO P w K mg base) :
  cy P w K mg base CX0 9 f fq q_0 (dg K jL):=by
 obtain⟨_,_,G0,O0⟩:=z0;obtain⟨_,_,G2,O2⟩:=z2;obtain⟨_,_,G3,O3⟩:=z3;obtain⟨_,_,G17,O17⟩:=z17;obtain⟨_,_,G27,O27⟩:=z27;refine bR (t:=agq dY bZ cz cw b9) F.fn l0 adi (λ cdv A outer s H E' hr=>?_) aaA;refine Jd.h ?_;exact af (az (i:=1) l0.nd rfl (Or.inl rfl) (d3 O0 hr.m rfl G0.mg G0.fn.kp G0.bd (ax (dvQ 0) (aa)))) <|
  af (bt PassesOwn.never rfl (eK rfl E.b_range (ax (ak) (aa))) (ar (i:=2) l0.nd rfl (Or.inl rfl))
   (af (aam (i:=3) (j:=4) rfl l0.nd rfl rfl (by decide) rfl rfl (ax (d3 O2 hr.m rfl G2.mg G2.fn.kp G2.bd (ax (dvQ 1) (ax (ak) (ax (a9 aY aZ (gv (ax (ak) (ax (ak) (ax (ak) (aa))))) (dvQ 2)) (aa))))) (ax (bV (d3 O3 hr.m rfl G3.mg G3.fn.kp G3.bd (ax (dvQ 1) (ax (ak) (ax (ak) (aa)))))) (aa)))) <|
   af (az (i:=5) l0.nd rfl (Or.inr rfl) (zt (eS rfl) gX rfl E.b_dict j5 (ax (bV (d3 O17 hr.m rfl G17.mg G17.fn.kp G17.bd (ax (bV (zt dX gS rfl E.b_list iz (ax (dvQ 3) (aa)))) (ax (bV (zt dX gS rfl E.b_list iz (ax (dvQ 4) (aa)))) (aa))))) (aa)))) <|
   af (uR (i:=6) l0.nd rfl (Or.inl rfl) rfl (tR (own:=(["_law_wish", "_law_kind", "_law_copies"]:List Str)) (fr:=[5]) rfl) (aS (dvQ 4)) (λ _ _ _ _ _ _=>bO rfl (av (ar (i:=0) vH rfl (Or.inl rfl)) (av (ar (i:=1) vH rfl (Or.inl rfl)) (av (ar (i:=2) vH rfl (Or.inl rfl)) (bq))))) (λ _ _ _ _ _ _=>bL) (λ _ _ _ _ _ _=>cj (ax (dvQ 0) (ax (dvQ 1) (ax (gL (jF rfl) qB rfl E.b_min xo (ax (dvQ 2) (ax (bU (dE hr) (dvQ 3) (dvQ 0)) (aa)))) (aa)))))) <|
   ai (bJ (eW (dZ (cL (df (d3 O27 hr.m rfl G27.mg G27.fn.kp G27.bd (ax (dvQ 3) (ax (dvQ 4) (aa)))))) (dQ (cL (df (d3 O27 hr.m rfl G27.mg G27.fn.kp G27.bd (ax (dvQ 3) (ax (dvQ 6) (aa)))))))))
    (ai (aA (fo)))
    (aJ)))) <|
  ai (aA (fo))
theorem all_mk{l:W.OpenLaw}{w:World}{K:FG}{h:Heap}{mg:Str->Option Value}{fa:Addr}(X:K.In h)(G:h.Ns mainGlobals mg)(hfa:mg "law" = some (.ref fa))
  (p0:PFn K "_law_bag" mK)
  (p1:PFn K "_law_take" jn)
  (p2:PFn K "_law_berths" fM)
  (p3:PFn K "_law_asked" hZ)
  (p4:PFn K "is_word" ib)
  (p5:PFn K "is_whole" fU)
  (p6:PFn K "is_within" eN)
  (p7:PFn K "is_machine_row" cn)
  {f8:Addr}{oc8 kV8 dc8 pm8 cd8 ct8:Value}{od8 an8:Option Addr}{sl8:Array (Option Value)}
  {T_refuse_berths:Addr}{tk8:Tok}{n_refuse_berths:Nat}{oc2_refuse_berths:Value}{od2_refuse_berths:Option Addr}{sl2_refuse_berths:Array (Option Value)}
  (a8:W.nsIn K mainGlobals "refuse_berths" = some (some (.ref f8)))(l8:K.lookup f8=some ⟨oc8,od8,.func (W.fnOf "refuse_berths" "refuse_berths" (bh bB) (aM bB) (ao bB) (.ref T_refuse_berths) kV8 dc8 pm8 an8 cd8 ct8),sl8⟩)(c8:W.codeIn K cd8 "refuse_berths" = true)(k8:W.keepIn K (.ref f8)=true)
  (dt8:K.lookup T_refuse_berths=some ⟨oc2_refuse_berths,od2_refuse_berths,.seq #[.int 0 tk8] n_refuse_berths,sl2_refuse_berths⟩)
  (p9:PFn K "is_asked_row" cJ)
  (p10:PFn K "refuse_asked" cM)
  (p11:PFn K "refuse_wrong" ck)
  (p12:PFn K "lacking" fu)
  (p13:PFn K "with_more" eU)
  (p14:PFn K "greatest_run" cK)
  (p15:PFn K "running" ik)
  (p16:PFn K "rooms_of" eA)
  (p17:PFn K "runs_of" g6)
  (p18:PFn K "_law_sums" jm)
  (p19:PFn K "_law_demands" eG)
  (p20:PFn K "demands_of" dW)
  (p21:PXi K aE "NoRoom.__init__" de)
  {f22:Addr}{oc22 kV22 dc22 pm22 cd22 ct22:Value}{od22 an22:Option Addr}{sl22:Array (Option Value)}
  (a22:W.nsIn K mainGlobals "greatest_first" = some (some (.ref f22)))(l22:K.lookup f22=some ⟨oc22,od22,.func (W.fnOf "greatest_first" "greatest_first" (bh bp) (aM bp) (ao bp) .none kV22 dc22 pm22 an22 cd22 ct22),sl22⟩)(c22:W.codeIn K cd22 "greatest_first" = true)(k22:W.keepIn K (.ref f22)=true)
  (cc22:cd22=.ref bC)
  (p23:PFn K "laying" jr)
  (p24:PFn K "_law_told" jq)
  (p25:PFn K "_law_laid" jy)
  (p26:PFn K "_law_keeps" gP)
  (p27:PFn K "_law_right" g8)
  {f28:Addr}{oc28 kV28 dc28 pm28 cd28 ct28:Value}{od28 an28:Option Addr}{sl28:Array (Option Value)}
  (a28:W.nsIn K mainGlobals "law" = some (some (.ref f28)))(l28:K.lookup f28=some ⟨oc28,od28,.func (W.fnOf "law" "law" (bh nA) (aM nA) (ao nA) .none kV28 dc28 pm28 an28 cd28 ct28),sl28⟩)(c28:W.codeIn K cd28 "law" = true)(k28:W.keepIn K (.ref f28)=true)
  (xg_BadAsked:W.nsIn K mainGlobals "BadAsked" = some (some (.ref eC)))
  (xg_BadBerths:W.nsIn K mainGlobals "BadBerths" = some (some (.ref dH)))
  (xg_NoRoom:W.nsIn K mainGlobals "NoRoom" = some (some (.ref aE)))
  (xg_PlaceError:W.nsIn K mainGlobals "PlaceError" = some (some (.ref dU)))
  (xg1:W.specialIn K (.builtin "object.__class__") "__get__" = some (some (.builtin "getset_descriptor.__get__")))(xg2:W.takesIn K (.builtin "object.__class__")=some true)
  (x1_NoRoom:PXc K aE)
  (xf_e_NoRoom_NoRoom:W.exmOne K (.ref aE) (.ref aE)=some true)
  (xf_h_greatest_first:W.codeHdIn K bC aC=true)
  (xf_i_NoRoom_BadBerths_BadAsked:W.kitAny K (.ref aE) [.ref dH,.ref eC]=some false)
  (xf_i_NoRoom_PlaceError:W.kitAny K (.ref aE) [.ref dU]=some true)
  (n_NoRoom_demanded:W.findIn K (.ref aE) "demanded" = some none)
  (n_NoRoom_first:W.findIn K (.ref aE) "first" = some none)
  (n_NoRoom_room:W.findIn K (.ref aE) "room" = some none)
  (b_abs:W.nsIn K mainGlobals "abs" = some none)
  (b_all:W.nsIn K mainGlobals "all" = some none)
  (b_bool:W.nsIn K mainGlobals "bool" = some none)
  (b_dict:W.nsIn K mainGlobals "dict" = some none)
  (b_enumerate:W.nsIn K mainGlobals "enumerate" = some none)
  (b_int:W.nsIn K mainGlobals "int" = some none)
  (b_isinstance:W.nsIn K mainGlobals "isinstance" = some none)
  (b_len:W.nsIn K mainGlobals "len" = some none)
  (b_list:W.nsIn K mainGlobals "list" = some none)
  (b_min:W.nsIn K mainGlobals "min" = some none)
  (b_range:W.nsIn K mainGlobals "range" = some none)
  (b_repr:W.nsIn K mainGlobals "repr" = some none)
  (b_set:W.nsIn K mainGlobals "set" = some none)
  (b_sorted:W.nsIn K mainGlobals "sorted" = some none)
  (b_str:W.nsIn K mainGlobals "str" = some none)
  (b_sum:W.nsIn K mainGlobals "sum" = some none)
  (b_tuple:W.nsIn K mainGlobals "tuple" = some none)
  {t_LONGEST_WORD:Tok}(g_LONGEST_WORD:W.nsIn K mainGlobals "LONGEST_WORD" = some (some (.int 8 t_LONGEST_WORD)))
  {t_MOST_BERTHS:Tok}(g_MOST_BERTHS:W.nsIn K mainGlobals "MOST_BERTHS" = some (some (.int 6 t_MOST_BERTHS)))
  {t_MOST_COPIES:Tok}(g_MOST_COPIES:W.nsIn K mainGlobals "MOST_COPIES" = some (some (.int 6 t_MOST_COPIES)))
  {t_MOST_ROWS:Tok}(g_MOST_ROWS:W.nsIn K mainGlobals "MOST_ROWS" = some (some (.int 8 t_MOST_ROWS))) :
  ∃ fq:FuncData,(∀ (s:Shared) (v:Value),BindsTo s fq ⟨[v],[]⟩ [("_law_script",v)])/\∀ base:Heap,K.In base->base.Ns mainGlobals mg->cy l.prog w K mg base CX0 9 fa fq q_0 (dg K jL):=by
 have e:=hfa.symm.trans (W.mg_of X G a28);cases e;have E:Env K mg:=⟨W.mg_of X G xg_BadAsked,W.mg_of X G xg_BadBerths,W.mg_of X G xg_NoRoom,W.mg_of X G xg_PlaceError,x1_NoRoom.xc xg1 xg2,xf_e_NoRoom_NoRoom,xf_h_greatest_first,xf_i_NoRoom_BadBerths_BadAsked,xf_i_NoRoom_PlaceError,n_NoRoom_demanded,n_NoRoom_first,n_NoRoom_room,W.mg_none_of X G b_abs,W.mg_none_of X G b_all,W.mg_none_of X G b_bool,W.mg_none_of X G b_dict,W.mg_none_of X G b_enumerate,W.mg_none_of X G b_int,W.mg_none_of X G b_isinstance,W.mg_none_of X G b_len,W.mg_none_of X G b_list,W.mg_none_of X G b_min,W.mg_none_of X G b_range,W.mg_none_of X G b_repr,W.mg_none_of X G b_set,W.mg_none_of X G b_sorted,W.mg_none_of X G b_str,W.mg_none_of X G b_sum,W.mg_none_of X G b_tuple,⟨_,W.mg_of X G g_LONGEST_WORD⟩,⟨_,W.mg_of X G g_MOST_BERTHS⟩,⟨_,W.mg_of X G g_MOST_COPIES⟩,⟨_,W.mg_of X G g_MOST_ROWS⟩⟩;obtain⟨_,_,G0⟩:=p0.fn (ps:=q_0) X G (by walk_at "b1");obtain⟨_,_,G1⟩:=p1.fn (ps:=q_1) X G (by walk_at "b2");obtain⟨_,_,G2⟩:=p2.fn (ps:=q_2) X G (by walk_at "b3");obtain⟨_,_,G3⟩:=p3.fn (ps:=q_2) X G (by walk_at "b3");obtain⟨_,_,G4⟩:=p4.fn (ps:=q_3) X G (by walk_at "b1");obtain⟨_,_,G5⟩:=p5.fn (ps:=q_3) X G (by walk_at "b1");obtain⟨_,_,G6⟩:=p6.fn (ps:=q_4) X G (by walk_at "b3");obtain⟨_,_,G7⟩:=p7.fn (ps:=q_5) X G (by walk_at "b2");have G8:FnD K mg "refuse_berths" bB aeu 0 _ _:=afr X G a8 l8 c8 k8 dt8 (λ us hl=>match us,hl with | [_],_=>⟨_,rfl,rfl⟩)
 obtain⟨_,_,G9⟩:=p9.fn (ps:=q_6) X G (by walk_at "b1");obtain⟨_,_,G10⟩:=p10.fn (ps:=q_7) X G (by walk_at "b1");obtain⟨_,_,G11⟩:=p11.fn (ps:=lN) X G (by walk_at "b2");obtain⟨_,_,G12⟩:=p12.fn (ps:=abL) X G (by walk_at "b2");obtain⟨_,_,G13⟩:=p13.fn (ps:=q_8) X G (by walk_at "b3");obtain⟨_,_,G14⟩:=p14.fn (ps:=q_9) X G (by walk_at "b4");obtain⟨_,_,G15⟩:=p15.fn (ps:=aeo) X G (by walk_at "b2");obtain⟨_,_,G16⟩:=p16.fn (ps:=abk) X G (by walk_at "b1");obtain⟨_,_,G17⟩:=p17.fn (ps:=lN) X G (by walk_at "b2");obtain⟨_,_,G18⟩:=p18.fn (ps:=aep) X G (by walk_at "b2");obtain⟨_,_,G19⟩:=p19.fn (ps:=aeq) X G (by walk_at "b1");obtain⟨_,_,G20⟩:=p20.fn (ps:=q_7) X G (by walk_at "b1");obtain⟨_,_,G21⟩:=p21.xi (ps:=aet) E.x_NoRoom (by walk_at "b4");have G22:Fn K mg "greatest_first" bp aem _ _:=adb X G a22 l22 c22 k22 (λ _ _ _ _ _ _ us hl=>by obtain⟨_,rfl⟩:=D.aau hl;rfl);obtain⟨_,_,G23⟩:=p23.fn (ps:=lN) X G (by walk_at "b2");obtain⟨_,_,G24⟩:=p24.fn (ps:=nS) X G (by walk_at "b2");obtain⟨_,_,G25⟩:=p25.fn (ps:=nS) X G (by walk_at "b2");obtain⟨_,_,G26⟩:=p26.fn (ps:=aen) X G (by walk_at "b3");obtain⟨_,_,G27⟩:=p27.fn (ps:=nS) X G (by walk_at "b2");have G28:Fn K mg "law" nA q_0 _ _:=adb X G a28 l28 c28 k28 (λ _ _ _ _ _ _ us hl=>by obtain⟨_,rfl⟩:=D.aau hl;rfl);refine⟨W.fnOf "law" "law" (bh nA) (aM nA) (ao nA) .none kV28 dc28 pm28 an28 cd28 ct28,λ s v=>.of_eq rfl,λ base _ _=>?_⟩;have z0:yj l.prog w K mg base:=⟨_,_,G0,aac E G0⟩;have z1:mI l.prog w K mg base:=⟨_,_,G1,yP E G1⟩;have z2:lL l.prog w K mg base:=⟨_,_,G2,qO E G2 z1⟩;have z3:pL l.prog w K mg base:=⟨_,_,G3,uE E G3 z1⟩;have z4:jJ l.prog w K mg base:=⟨_,_,G4,uy E G4⟩;have z5:md l.prog w K mg base:=⟨_,_,G5,rN E G5⟩;have z6:gD l.prog w K mg base:=⟨_,_,G6,oF E G6 z5⟩;have z7:ff l.prog w K mg base:=⟨_,_,G7,iL E G7 z4 z6⟩;have O8:=jc (P:=l.prog) (w:=w) (base:=base) E G8 z7;have z9:gg l.prog w K mg base:=⟨_,_,G9,j3 E G9 z4 z6⟩;have z10:gn l.prog w K mg base:=⟨_,_,G10,kD E G10 z9⟩;have O11:=kM (P:=l.prog) (w:=w) (base:=base) E G11 G8 O8 z10;have O12:=uX (P:=l.prog) (w:=w) (base:=base) E G12;have z13:gy l.prog w K mg base:=⟨_,_,G13,pX E G13⟩;have z14:f9 l.prog w K mg base:=⟨_,_,G14,jV E G14 G12 O12 z13⟩;have z15:pq l.prog w K mg base:=⟨_,_,G15,uK E G15 z14 z13⟩;have O16:=qH (P:=l.prog) (w:=w) (base:=base) E G16;have z17:oW l.prog w K mg base:=⟨_,_,G17,uo E G17 G11 O11 z15 G16 O16⟩;have z18:sM l.prog w K mg base:=⟨_,_,G18,yx E G18⟩;have z19:gF l.prog w K mg base:=⟨_,_,G19,pg E G19⟩;have O20:=mN (P:=l.prog) (w:=w) (base:=base) E G20;have O21:=lG (P:=l.prog) (w:=w) (base:=base) E G21;have O22:=iQ (P:=l.prog) (w:=w) (base:=base) E G22 cc22;have O23:=wC (P:=l.prog) (w:=w) (base:=base) E G23 G11 O11 G20 O20 G12 O12 G16 O16 G21 O21 G22 O22;have z24:se l.prog w K mg base:=⟨_,_,G24,yX E G24 G23 O23⟩;have z25:sf l.prog w K mg base:=⟨_,_,G25,vT E G25 z19⟩;have z26:oh l.prog w K mg base:=⟨_,_,G26,vf E G26⟩;have z27:oO l.prog w K mg base:=⟨_,_,G27,vj E G27 z18 z19 z24 z25 z26⟩;have O28:=agV (P:=l.prog) (w:=w) (base:=base) E G28 z0 z2 z3 z17 z27;exact O28
end
theorem walk{l:W.OpenLaw}{q:Program}{loose:List Str}{XP:(Str->Option Value)->Heap->Prop}{YP:World->Heap->Prop}{d:DefRec}{K:Params->FG}(hq:PyProof.Rows.importsNone q=true)(hn:l.most=some 63)(hdf:d.params.defaults=[])
  (hT:∀ w:World,W.codeHdIn (K w.params) bC aC=true/\(K w.params).lookup aC=none)(hY:∀ (w:World) (h:Heap),YP w h->(K w.params).In h/\∀ T∈[aC],h.get? T=some {cls:=.none,data:=.fields #[]})
  (F:∀ (w:World) (mg:Str->Option Value) (fa:Addr) (h:Heap),(K w.params).In h->h.Ns mainGlobals mg->mg d.name=some (.ref fa) ->
   ∃ fq:FuncData,(∀ (s:Shared) (u:Value),BindsTo s fq ⟨[u],[]⟩ [("_law_script",u)])/\∀ base:Heap,(K w.params).In base->base.Ns mainGlobals mg->cy l.prog w (K w.params) mg base CX0 9 fa fq q_0 (dg (K w.params) jL)) :
  W.WalkO q loose XP YP l.row.toRowW d [] (λ f vs=>PySem.call f vs):=
 L2.zB (n:=63) (k:=9) (x:= "_law_script") (CX:=λ _=>CX0) (sp:=λ w=>dg (K w.params) jL) hq hn (by decide) hdf ⟨rfl,rfl,by decide,by decide⟩ [aC] (λ w T h=>by rw[List.mem_singleton.mp h];exact⟨⟨_,(hT w).1⟩,(hT w).2⟩) hY F (λ _ H a ns hl hO hB hS=>D.um (q:=bS) (lpos:=⟨104,31,104,66⟩) hl hO hB hS zI) λ _ _ _ _ _ z=>z
end K35
end
namespace PySem.W.Fast
def tw14975456585722765277:=0
def tw7965785815006561693:=0
def tw14501320859017534076:=0
def tw8502800693780676827:=0
def tw10242578925033398938:=0
def tw14868372874712809079:=0
def tw12167815346753861938:=0
def tw15842674234109962152:=0
def tw16849226163933858853:=0
def tw11962261512727422304:=0
def tw3856214912076010560:=0
def tw9210738252454563770:=0
end PySem.W.Fast
open PySem PySem.W PyProof.Rows
local macro_rules | `(tactic| walk_at "kf")=>`(tactic| (refine' D.aeT ?a ?l ?c ?k; (case a=>k_is); (case l=>k_is); (case c=>k_is); (case k=>k_is)))
local macro_rules | `(tactic| walk_at "km")=>`(tactic| (refine' D.agJ ?a ?i ?l ?c ?k; (case a=>k_is); (case i=>k_is); (case l=>k_is); (case c=>k_is); (case k=>k_is)))
local macro_rules | `(tactic| walk_at "kx")=>`(tactic| (refine' D.af8 ?a ?i ?l ?c ?k ?m ?t ?n; (case a=>k_is); (case i=>k_is); (case l=>k_is); (case c=>k_is); (case k=>k_is); (case m=>kernel_rfl); (case t=>k_is); (case n=>k_is)))
local macro_rules | `(tactic| walk_at "ke")=>`(tactic| (refine' ⟨?a,?b,?c,?d,?e⟩; (case a=>kernel_rfl); (case b=>k_is); (case c=>k_is); (case d=>k_is); (case e=>k_is)))
set_option maxRecDepth 100000
set_option maxHeartbeats 0
theorem PySem.Challenge.cw_placedworks_k35_layings_holds : PySem.Challenge.rw_placedworks_k35_layings.Holds := by
 w_on;o_law;k_head; (case hw=>w_witness2)
 k_fill
 refine K35.walk (l:=PySem.Challenge.rw_placedworks_k35_layings) ?Q rfl rfl ?T (λ w h Y=>⟨PySem.W.km_in_of Y,PySem.W.km_tabs_of Y⟩) ?F
 case Q=>kernel_rfl
 case T=>(intro w;exact⟨by kernel_rfl,by kernel_rfl⟩)
 case F =>
  intro w mg fa h KX G hmg;refine' K35.all_mk KX G hmg ?v0 ?v1 ?v2 ?v3 ?v4 ?v5 ?v6 ?v7 ?v8 ?v9 ?v10 ?v11 ?v12 ?v13 ?v14 ?v15 ?v16 ?v17 ?v18 ?v19 ?v20 ?v21 ?v22 ?v23 ?v24 ?v25 ?v26 ?v27 ?v28 ?v29 ?v30 ?v31 ?v32 ?v33 ?v34 ?v35 ?v36 ?v37 ?v38 ?v39 ?v40 ?v41 ?v42 ?v43 ?v44 ?v45 ?v46 ?v47 ?v48 ?v49 ?v50 ?v51 ?v52 ?v53 ?v54 ?v55 ?v56 ?v57 ?v58 ?v59 ?v60 ?v61 ?v62 ?v63 ?v64 ?v65 ?v66 ?v67 ?v68 ?v69 ?v70 ?v71 ?v72 ?v73 ?v74
  (case v0 | v1 | v2 | v3 | v4 | v5 | v6 | v7 | v13 | v14 | v15 | v16 | v17 | v18 | v19 | v20 | v21 | v22 | v23 | v24 | v31 | v32 | v33 | v34 | v35=>walk_at "kf")
  (case v8 | v9 | v10 | v11 | v12 | v26 | v27 | v28 | v29 | v36 | v37 | v38 | v39 | v40 | v41 | v42 | v43 | v44 | v45 | v51 | v52 | v53 | v54 | v55 | v56 | v57 | v58 | v59 | v60 | v61 | v62 | v63 | v64 | v65 | v66 | v67 | v68 | v69 | v70 | v71 | v72 | v73 | v74=>k_is)
  (case v25=>walk_at "kx")
  (case v30=>exact rfl)
  (case v46=>walk_at "ke")
  (case v47 | v48 | v49 | v50=>kernel_rfl)
