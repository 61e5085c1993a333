import PyProof.Rows.All
import Wide.All
import OpenK.AllK
import Wide.FinOn
import Lean
import PyProof.EqAt
import PyProof.EqKinds
import PyProof.TupleCall
import KE.KSortTup
import KE.KDictSum
import PyProof.Rows.Range3
import PyProof.Rows.SortRev
import PyProof.StrBlock2
import PyProof.ZipIter
import PyProof.Rows.ZipGen
import PyProof.NeKinds
import PyProof.DictCompW
import PyProof.DictWalks
import PyProof.AttrMissHeap
import PyProof.WalksS
import KE.KDictOf
import KE.KListMore
import KE.KEqDict
import PyProof.StationsW
import PyProof.InstStoreFacts
import PyProof.ExcBaseAll.ValueError
import PyProof.ExcClass2
import PyProof.RulesAs
import KE.KTryMore
import PyProof.ExcArgs
import KE.KIsAll
import OpenK.KOwn
import PyProof.P3In
import PyProof.DictUpdate
import PyProof.MeetsSeq2
import KE.KIntText
import KE.KRevSl
import PyProof.Rows.StrLawsPart
import PyProof.EnumMake
import PyProof.Draws
import PyProof.ListRange
import PyProof.TupleOfStr
import KE.KLam
import KE.KNestM
import KE.KMinKey
import PyProof.Rows.StrSplitMax
import PyProof.StrLawsOccR
import PyProof.Rows.SetFrom
import PySem.Challenge.RW_placedworks_k36_whole_shortest_ways
set_option genSizeOf false
set_option genSizeOfSpec false
set_option bootstrap.genMatcherCode false
set_option Elab.async false
set_option linter.all false
set_option maxRecDepth 100000
abbrev FG:=PySem.W.Frag
abbrev PN:=List (PySem.Addr×PySem.Obj)
abbrev VP:=PySem.Value->PySem.Shared->Prop
abbrev ND(x:PySem.Str):Prop:=(x==("__debug__" : PySem.Str))=false
section
open PySem PySem.Spec PyProof.Rows
namespace L2
abbrev Key:=Sum Int Str
def mF:Key->Value->Bool
 | .inl k,v=>Value.isInt k v
 | .inr x,v=>Value.isStrOf x v
def aeh(w:World):Key->Int
 | .inl k=>hashInt k
 | .inr x=>hashStr w x
theorem aW:∀ {k:Key} {v:Value},mF k v=true->(∃ i t,k=Sum.inl i/\v=Value.int i t)\/(∃ x t,k=Sum.inr x/\v=Value.str x t)
 | .inl i,v,h=>by obtain⟨t,e⟩:=Value.isInt_shape (k:=i) (v:=v) h;exact .inl ⟨i,t,rfl,e⟩
 | .inr x,v,h=>by obtain⟨t,e⟩:=Value.isStrOf_shape (x:=x) (v:=v) h;exact .inr ⟨x,t,rfl,e⟩
theorem tU(i:Int)(t:Tok):mF (.inl i) (.int i t)=true:=by simp[mF,Value.isInt]
theorem ud(x:Str)(t:Tok):mF (.inr x) (.str x t)=true:=by simp[mF,Value.isStrOf]
theorem abu(a b:Int):decide ((Sum.inl a:Key)=Sum.inl b)=(a==b):=by
 by_cases e:a=b
 ·subst e;simp
 ·have h:¬ (Sum.inl a:Key)=Sum.inl b:=λ q=>e (Sum.inl.inj q);rw[decide_eq_false h];exact(beq_eq_false_iff_ne.mpr e).symm
theorem aa0(a b:Str):decide ((Sum.inr a:Key)=Sum.inr b)=decide (a=b):=by
 by_cases e:a=b
 ·subst e;simp
 ·have h:¬ (Sum.inr a:Key)=Sum.inr b:=λ q=>e (Sum.inr.inj q);rw[decide_eq_false h,decide_eq_false e]
theorem ab0(a:Int)(b:Str):decide ((Sum.inl a:Key)=Sum.inr b)=false:=decide_eq_false (λ q=>nomatch q)
theorem aaf(a:Str)(b:Int):decide ((Sum.inr a:Key)=Sum.inl b)=false:=decide_eq_false (λ q=>nomatch q)
def aQ(prog:Program)(w:World):PySem.KeyKind prog w Key where
 is:=mF
 hash:=aeh w
 inj:=λ v a b ha hb=>by
  rcases aW ha with ⟨i,t,rfl,rfl⟩ | ⟨x,t,rfl,rfl⟩
  ·rcases aW hb with ⟨j,u,rfl,e⟩ | ⟨y,u,rfl,e⟩
   ·injection e with e1 _;rw[e1]
   ·exact nomatch e
  ·rcases aW hb with ⟨j,u,rfl,e⟩ | ⟨y,u,rfl,e⟩
   ·exact nomatch e
   ·injection e with e1 _;rw[e1]
 byValue:=λ k v h=>by
  rcases aW h with ⟨i,t,rfl,rfl⟩ | ⟨x,t,rfl,rfl⟩<;>rfl
 pyHash:=λ hv h=>by
  rcases aW hv with ⟨i,t,rfl,rfl⟩ | ⟨x,t,rfl,rfl⟩
  ·exact wpAny_pyHash_int h
  ·exact wpAny_pyHash_str h
 eqBool:=λ hu hv h=>by
  rcases aW hu with ⟨i,t,rfl,rfl⟩ | ⟨x,t,rfl,rfl⟩
  ·rcases aW hv with ⟨j,u,rfl,rfl⟩ | ⟨y,u,rfl,rfl⟩
   ·rw[abu] at h;exact wpAny_eqBool_int h
   ·rw[ab0] at h;exact SeqAt.EqAt.int_str i t y u _ _ _ _ h
  ·rcases aW hv with ⟨j,u,rfl,rfl⟩ | ⟨y,u,rfl,rfl⟩
   ·rw[aaf] at h;exact SeqAt.EqAt.str_int x t j u _ _ _ _ h
   ·rw[aa0] at h;exact wpAny_eqBool_str h
 «strs»:=λ k x t v h=>by
  rcases aW h with ⟨i,u,rfl,e⟩ | ⟨y,u,rfl,e⟩
  ·exact nomatch e
  ·injection e with e1 _
   subst e1;cases v<;>rfl
theorem qg(prog:Program)(w:World)(k:Key)(v:Value):(aQ prog w).is k v=mF k v:=rfl
theorem m9(prog:Program)(w:World)(i:Int)(t:Tok):(aQ prog w).is (.inl i) (.int i t)=true:=tU i t
theorem mP(prog:Program)(w:World)(x:Str)(t:Tok):(aQ prog w).is (.inr x) (.str x t)=true:=ud x t
inductive V where
 | non | bl (b:Bool) | int (i:Int) | str (x:Str) | byt (b:Array UInt8) | flt (b:UInt64) | ref (a:Addr) | ty (n:String)
 deriving DecidableEq
def RelV:V->Value->Prop
 | .non,u=>u=Value.none
 | .bl b,u=>u=Value.bool b
 | .int i,u=>∃ t,u=Value.int i t
 | .str x,u=>∃ t,u=Value.str x t
 | .byt b,u=>∃ t,u=Value.bytes b t
 | .flt b,u=>∃ t,u=Value.float b t
 | .ref a,u=>u=Value.ref a
 | .ty n,u=>u=Value.type n
abbrev Vals:List V->List Value->Prop:=Paired RelV
theorem Vals.length{xs:List V}{us:List Value}(r:Vals xs us):xs.length=us.length:=Paired.length r
theorem Vals.get:∀ {xs:List V} {us:List Value} {i:Nat} {x:V},Vals xs us->xs[i]? =some x->∃ u,us[i]? =some u/\RelV x u
 | _,_,_,_,.nil,e=>by simp at e
 | _,_,0,_,.cons r _,e=>by simp at e;subst e;exact⟨_,rfl,r⟩
 | _,_,i+1,x,.cons _ t,e=>by obtain⟨u,h1,h2⟩:=Vals.get (i:=i) (x:=x) t (by simpa using e);exact⟨u,by simpa using h1,h2⟩
theorem Vals.set{x:V}{u:Value}(r:RelV x u):∀ {xs:List V} {us:List Value} (i:Nat),Vals xs us->Vals (xs.set i x) (us.set i u)
 | _,_,_,.nil=>.nil
 | _,_,0,.cons _ t=>.cons r t
 | _,_,i+1,.cons q t=>.cons q (Vals.set r i t)
theorem Vals.append:∀ {xs ys:List V} {us ws:List Value},Vals xs us->Vals ys ws->Vals (xs++ys) (us++ws)
 | _,_,_,_,.nil,s=>s
 | _,_,_,_,.cons r t,s=>.cons r (Vals.append t s)
theorem Vals.take:∀ {xs:List V} {us:List Value} (n:Nat),Vals xs us->Vals (xs.take n) (us.take n)
 | _,_,0,_=>.nil
 | _,_,_+1,.nil=>.nil
 | _,_,n+1,.cons r t=>.cons r (Vals.take n t)
theorem Vals.drop:∀ {xs:List V} {us:List Value} (n:Nat),Vals xs us->Vals (xs.drop n) (us.drop n)
 | _,_,0,r=>r
 | _,_,_+1,.nil=>.nil
 | _,_,n+1,.cons _ t=>Vals.drop n t
def rq:Option V->Option Value->Prop
 | some v,some u=>RelV v u
 | none,none=>True
 | _,_=>False
def KV{κ:Type}:List (κ×V)->List (κ×Value)->Prop:=Paired λ(p:κ×V) (q:κ×Value)=>p.1=q.1/\RelV p.2 q.2
def kV:Key->V
 | .inl i=>.int i
 | .inr x=>.str x
inductive HO where
 | lst (xs:List V)
 | tup (xs:List V)
 | dK (kvs:List (Key×V)) | dT (kvs:List (List Key×V))
 | set (S:Int->Bool) (n:Nat)
 | ins (C dx:Addr) (fs:List (Str×V))
 | own (x:Addr)
 | xd (fs:List (Str×V))
 | met (f x:Addr)
 | rng (lo hi:Int)
 | frz (o:Obj) (u:HO)
 | tbl (ps:Array Value)
 | ext (φ:Heap->Prop)
abbrev Hp:=Addr->Option HO
def upd(H:Hp)(a:Addr)(o:HO):Hp:=λ b=>if b=a then some o else H b
theorem aq{H:Hp}{a:Addr}{o:HO}:upd H a o a=some o:=by unfold upd;rw[if_pos rfl]
theorem aj{H:Hp}{a b:Addr}{o:HO}(h:b≠a):upd H a o b=H b:=by unfold upd;rw[if_neg h]
theorem yg{H:Hp}{a:Addr}{o u:HO}:upd (upd H a o) a u=upd H a u:=by
 funext b;unfold upd;split<;>rfl
theorem pZ{H:Hp}{a b:Addr}{o u:HO}(h:H a=some o)(h':H b=some u)(d:o≠u):a≠b:=by intro e;subst e;rw[h] at h';exact d (Option.some.inj h')
theorem aE{H:Hp}{a b:Addr}{o:HO}(h:H a=some o)(h':H b=none):a≠b:=by intro e;subst e;rw[h] at h';cases h'
def vA(h:Heap)(a:Addr)(items:Array Value):Prop:=∃ o,h.get? a=some o/\o.cls=.type "tuple" /\ o.dict=none/\∃ n,o.data=.seq items n
theorem vA.tup{h:Heap}{a:Addr}{items:Array Value}(x:vA h a items):IsTup h a items:=let ⟨o,h1,h2,_,h3⟩:=x; ⟨o,h1,h2,h3⟩
theorem vA.new(h:Heap)(items:Array Value):vA (h.push {cls:=.type "tuple",data:=.seq items}) h.objs.size items:=⟨_,Heap.get?_push_size _ rfl,rfl,rfl,_,rfl⟩
section
variable (P:Program)(w:World)
def cM(H:Hp)(h:Heap)(a:Addr):HO->Prop
 | .lst xs=>xs.length<=sizeLine/\∃ (its:List Value) (n:Nat),Vals xs its/\h.get? a=some {cls:=.type "list",data:=.seq its.toArray n}
 | .tup xs=>xs.length<=sizeLine/\∃ its:List Value,Vals xs its/\vA h a its.toArray
 | .dK kvs=>kvs.length<=sizeLine/\(a==sysModules)=false/\∃ vs,KV kvs vs/\h.DictOf (aQ P w) a vs
 | .dT kvs=>kvs.length<=sizeLine/\(a==sysModules)=false/\∃ xs:List (List Key×Addr×Value),
   Paired (λ(p:List Key×V) (q:List Key×Addr×Value)=>p.1=q.1/\H q.2.1=some (.tup (p.1.map kV))/\RelV p.2 q.2.2) kvs xs /\
   ∃ o es ep,h.get? a=some o/\o.ExactDict/\o.data=.dict es ep/\es.toList=xs.map (entryOfKey (tupleKind (aQ P w)))/\(xs.map (·.1)).Nodup
 | .set S n=>h.SetOf (intKind P w) a S n
 | .ins C dx fs=>H dx=some (.own a)/\fs.length<=1000/\dx≠a/\h.get? a=some (W.instObj C dx) /\
   ∃ mA,h.Ns1 dx mA/\(∀ f,rq (fs.lookup f) (mA f))/\PySem.Within mA (fs.map (·.1))
 | .own _=>∃ o,h.get? a=some o
 | .xd fs=>∃ mA,h.Ns1 a mA/\∀ f,rq (fs.lookup f) (mA f)
 | .rng lo hi=>∃ t u v,h.get? a=some {cls:=.type "range",data:=.fields #[.int lo t,.int hi u,.int 1 v]}
 | .frz o u=>h.get? a=some o/\cM H h a u
 | .tbl ps=>h.get? a=some {cls:=.none,data:=.fields ps}
 | .met f x=>h.get? a=some (W.methodObj (.ref f) (.ref x))
 | .ext φ=>φ h/\(∃ o,h.get? a=some o)/\∀ h1 h2:Heap,φ h1->(∀ o,h1.get? a=some o->h2.get? a=some o)->φ h2
def HOk(H:Hp)(h:Heap):Prop:=∀ a o,H a=some o->cM P w H h a o
end
section
variable {P:Program}{w:World}{H H':Hp}{h h':Heap}{a:Addr}{o:HO}
theorem cM.lt(x:cM P w H h a o):a<h.objs.size:=by
 cases o with
 | lst xs=>obtain⟨_,_,_,_,e⟩:=x;exact Heap.lt_size e
 | tup xs=>obtain⟨_,_,_,p⟩:=x;exact p.tup.lt
 | dK kvs=>obtain⟨_,_,_,_,o,_,_,e,_⟩:=x;exact Heap.lt_size e
 | dT kvs=>obtain⟨_,_,_,_,o,_,_,e,_⟩:=x;exact Heap.lt_size e
 | set S n=>obtain⟨o,_,_,_,e,_⟩:=x;exact Heap.lt_size e
 | ins C dx fs=>obtain⟨_,_,_,e,_⟩:=x;exact Heap.lt_size e
 | own y=>obtain⟨_,e⟩:=x;exact Heap.lt_size e
 | xd fs=>obtain⟨_,⟨_,_,_,e,_⟩,_⟩:=x;exact Heap.lt_size e
 | rng lo hi=>obtain⟨_,_,_,e⟩:=x;exact Heap.lt_size e
 | frz ob u=>obtain⟨e,_⟩:=x;exact Heap.lt_size e
 | tbl ps=>exact Heap.lt_size (show h.get? a=some _ from x)
 | met f y=>exact Heap.lt_size (show h.get? a=some _ from x)
 | ext φ=>obtain⟨_,⟨_,e⟩,_⟩:=x;exact Heap.lt_size e
theorem Paired.fM{α β:Type}{F G:α->β->Prop}:∀ {l₁:List α} {l₂:List β},Paired F l₁ l₂->(∀ a b,F a b->G a b)->Paired G l₁ l₂
 | _,_,.nil,_=>.nil
 | _,_,.cons r t,f=>.cons (f _ _ r) (Paired.fM t f)
theorem cM.qV(x:cM P w H h a o)(k:∀ b u,(b=a\/H b=some (.own a))->h.get? b=some u->h'.get? b=some u)
  (ho:∀ b,H b=some (.own a)->H' b=some (.own a))(ht:∀ b xs,H b=some (.tup xs)->H' b=some (.tup xs)):cM P w H' h' a o:=by
 induction o with
 | lst xs=>obtain⟨z,its,n,r,e⟩:=x;exact⟨z,its,n,r,k _ _ (.inl rfl) e⟩
 | tup xs=>obtain⟨z,its,r,ob,e,c⟩:=x;exact⟨z,its,r,ob,k _ _ (.inl rfl) e,c⟩
 | dK kvs=>obtain⟨z,y,vs,r,ob,es,ep,e,c⟩:=x;exact⟨z,y,vs,r,ob,es,ep,k _ _ (.inl rfl) e,c⟩
 | dT kvs =>
  obtain⟨z,y,xs,r,ob,es,ep,e,c⟩:=x;exact⟨z,y,xs,Paired.fM r λ p q z=>⟨z.1,ht _ _ z.2.1,z.2.2⟩,ob,es,ep,k _ _ (.inl rfl) e,c⟩
 | set S n=>obtain⟨ob,es,ep,t,e,c⟩:=x;exact⟨ob,es,ep,t,k _ _ (.inl rfl) e,c⟩
 | ins C dx fs =>
  obtain⟨d,z,ne,e,mA,⟨od,es,ep,e2,c⟩,r⟩:=x;exact⟨ho _ d,z,ne,k _ _ (.inl rfl) e,mA,⟨od,es,ep,k _ _ (.inr d) e2,c⟩,r⟩
 | own y=>obtain⟨ob,e⟩:=x;exact⟨ob,k _ _ (.inl rfl) e⟩
 | xd fs=>obtain⟨mA,⟨od,es,ep,e,c⟩,r⟩:=x;exact⟨mA,⟨od,es,ep,k _ _ (.inl rfl) e,c⟩,r⟩
 | rng lo hi=>obtain⟨t,u,v,e⟩:=x;exact⟨t,u,v,k _ _ (.inl rfl) e⟩
 | frz ob u ih=>obtain⟨e,q⟩:=x;exact⟨k _ _ (.inl rfl) e,ih q⟩
 | tbl ps =>
  have e:h.get? a=some {cls:=.none,data:=.fields ps}:=x;show h'.get? a=some {cls:=.none,data:=.fields ps};exact k a _ (.inl rfl) e
 | met f y =>
  have e:h.get? a=some (W.methodObj (.ref f) (.ref y)):=x;show h'.get? a=some (W.methodObj (.ref f) (.ref y));exact k a _ (.inl rfl) e
 | ext φ=>obtain⟨p,⟨o,e⟩,st⟩:=x;exact⟨st _ _ p λ o q=>k _ _ (.inl rfl) q,⟨o,k _ _ (.inl rfl) e⟩,st⟩
theorem HOk.lt(x:HOk P w H h)(e:H a=some o):a<h.objs.size:=(x a o e).lt
theorem HOk.fresh(x:HOk P w H h)(e:h.objs.size<=a):H a=none:=by
 cases q:H a with
 | none=>rfl
 | some u=>exact absurd (Nat.lt_of_lt_of_le (x.lt q) e) (Nat.lt_irrefl _)
theorem HOk.kept(x:HOk P w H h)(k:∀ b u,h.get? b=some u->h'.get? b=some u):HOk P w H h':=λ a o e =>
 (x a o e).qV (λ b u _ q=>k b u q) (λ _ q=>q) λ _ _ q=>q
theorem HOk.laid(x:HOk P w H h)(k:∀ b u,h.get? b=some u->h'.get? b=some u)(hp:h.objs.size<=a)(new:cM P w (upd H a o) h' a o):HOk P w (upd H a o) h':=λ b u e=>by
 have hn:=x.fresh hp
 by_cases hb:b=a
 ·subst hb;rw[aq] at e;cases e;exact new
 ·rw[aj hb] at e;exact(x b u e).qV (λ c v _ q=>k c v q) (λ c q=>by rw[aj (aE q hn)];exact q) λ c xs q=>by rw[aj (aE q hn)];exact q
end
def Rd(H:Hp)(a:Addr)(u:HO):Prop:=H a=some u\/∃ o,H a=some (.frz o u)
theorem Rd.ok{P:Program}{w:World}{H:Hp}{h:Heap}{a:Addr}{u:HO}(r:Rd H a u)(x:HOk P w H h):cM P w H h a u:=by
 rcases r with r | ⟨o,r⟩
 ·exact x a u r
 ·obtain⟨_,q⟩:=x a _ r;exact q
def Mut:Option HO->Prop
 | some (.lst _)=>True
 | some (.dK _)=>True
 | some (.dT _)=>True
 | some (.set _ _)=>True
 | some (.ins _ _ _)=>True
 | some (.ext _)=>True
 | _=>False
section
variable {P:Program}{w:World}{H:Hp}{h h':Heap}{x e:Addr}{o':HO}
theorem HOk.write(ok:HOk P w H h)(mu:Mut (H x))(he:e=x\/H e=some (.own x))(k:∀ b u,b≠e->h.get? b=some u->h'.get? b=some u)(heo:∃ u,h'.get? e=some u)
  (new:cM P w (upd H x o') h' x o'):HOk P w (upd H x o') h':=λ b u q=>by
 have nown:∀ c y,H c=some (.own y)->c≠x:=λ c y r z=>by subst z;rw[r] at mu;exact mu
 have ntup:∀ c xs,H c=some (.tup xs)->c≠x:=λ c xs r z=>by subst z;rw[r] at mu;exact mu
 by_cases hb:b=x
 ·subst hb;rw[aq] at q;cases q;exact new
 ·rw[aj hb] at q
  by_cases hbe:b=e
  ·have q':H b=some (.own x):=by
    rcases he with z | z
    ·exact absurd (hbe.trans z) hb
    ·rw[hbe];exact z
   rw[q] at q';cases q';obtain⟨v,hv⟩:=heo;exact⟨v,by rw[hbe];exact hv⟩
  ·refine(ok b u q).qV (λ c v hc r=>k c v ?_ r) (λ c r=>by rw[aj (nown c b r)];exact r) λ c xs r=>by rw[aj (ntup c xs r)];exact r
   rcases hc with rfl | hc
   ·exact hbe
   ·rintro rfl;rcases he with z | z
    ·exact nown c b hc z
    ·rw[hc] at z;cases z;exact hb rfl
end
structure Un(fs ex:List Addr)(H H':Hp)(h h':Heap):Prop where
 keep:∀ b o,h.get? b=some o->H b=none->b ∉ fs->b ∉ ex->h'.get? b=some o
 slot:∀ b o,h.get? b=some o->H b=none->b∈fs->b ∉ ex->∃ sl,h'.get? b=some {o with slots:=sl}
 free:∀ b o,h.get? b=some o->H b=none->b ∉ ex->H' b=none
 there:∀ b o,h.get? b=some o->b ∉ ex->∃ o',h'.get? b=some o'
 tups:∀ b xs,H b=some (.tup xs)->H' b=some (.tup xs)
 frzs:∀ b o u,H b=some (.frz o u)->H' b=some (.frz o u)
 tbls:∀ b ps,H b=some (.tbl ps)->∃ more,H' b=some (.tbl (ps++more))
section
variable {fs fs' ex ex':List Addr}{H H1 H2:Hp}{h h1 h2 h':Heap}{a x e:Addr}{o:HO}
theorem Un.any(u:Un fs ex H H1 h h1){b:Addr}{ob:Obj}(q:h.get? b=some ob)(n:H b=none)(hx:b ∉ ex):∃ sl,h1.get? b=some {ob with slots:=sl}:=by
 by_cases hb:b∈fs
 ·exact u.slot b ob q n hb hx
 ·exact⟨ob.slots,u.keep b ob q n hb hx⟩
theorem Un.kept(k:∀ b u,h.get? b=some u->h'.get? b=some u):Un fs ex H H h h':=
 ⟨λ b ob q _ _ _=>k b ob q,λ b ob q _ _ _=>⟨ob.slots,k b ob q⟩,λ _ _ _ n _=>n,λ b ob q _=>⟨ob,k b ob q⟩,λ _ _ q=>q,λ _ _ _ q=>q,λ _ ps q=>⟨#[],by rw[q];simp⟩⟩
theorem Un.refl:Un fs ex H H h h:=Un.kept λ _ _ q=>q
theorem Un.laid(k:∀ b u,h.get? b=some u->h'.get? b=some u)(hp:h.objs.size<=a)(hn:H a=none):Un fs ex H (upd H a o) h h' where
 keep:=λ b u q _ _ _=>k b u q
 slot:=λ b u q _ _ _=>⟨u.slots,k b u q⟩
 free:=λ b u q n _=>by rw[aj (Nat.ne_of_lt (Nat.lt_of_lt_of_le (Heap.lt_size q) hp))];exact n
 there:=λ b u q _=>⟨u,k b u q⟩
 tups:=λ b xs q=>by rw[aj (aE q hn)];exact q
 frzs:=λ b u xs q=>by rw[aj (aE q hn)];exact q
 tbls:=λ b ps q=>⟨#[],by rw[aj (aE q hn),q];simp⟩
theorem Un.write(mu:Mut (H x))(he:e=x\/H e=some (.own x))(k:∀ b u,b≠e->h.get? b=some u->h'.get? b=some u)(heo:∃ u,h'.get? e=some u):Un fs ex H (upd H x o) h h':=by
 have hx:∀ b,H b=none->b≠x:=λ b n z=>by subst z;rw[n] at mu;exact mu
 have hb:∀ b,H b=none->b≠e:=λ b n z=>by
  subst z;rcases he with r | r
  ·exact hx b n r
  ·rw[n] at r;cases r
 have hm:∀ b u,H b=some u->¬ Mut (some u)->b≠x:=λ b u q nm z=>by subst z;rw[q] at mu;exact nm mu
 refine⟨λ b u q n _ _=>k b u (hb b n) q,λ b u q n _ _=>⟨u.slots,k b u (hb b n) q⟩,λ b u q n _=>by rw[aj (hx b n)];exact n,λ b u q _=>?_,
  λ b xs q=>by rw[aj (hm b _ q λ z=>z)];exact q,λ b u xs q=>by rw[aj (hm b _ q λ z=>z)];exact q,λ b ps q=>⟨#[],by rw[aj (hm b _ q λ z=>z),q];simp⟩⟩
 by_cases hbe:b=e
 ·subst hbe;exact heo
 ·exact⟨u,k b u hbe q⟩
end
def trk(h:Heap)(H:Hp):List Addr:=(List.range h.objs.size).filter λ a=>(H a).isSome
def uQ(h:Heap)(H:Hp):Heap:=W.hideAll h (trk h H)
theorem sN(h:Heap)(H:Hp):(uQ h H).objs.size=h.objs.size:=W.hideAll_size _ _
theorem uL{h:Heap}{H:Hp}{b:Addr}{o:Obj}(e:h.get? b=some o)(n:H b=none):(uQ h H).get? b=some o:=
 W.hideAll_get _ e λ hm=>by have q:(H b).isSome=true:=(List.mem_filter.mp hm).2;rw[n] at q;simp at q
theorem zI{h:Heap}{H:Hp}{b:Addr}{o:Obj}(e:(uQ h H).get? b=some o):h.get? b=some o/\H b=none:=by
 have e':h.get? b=some o:=W.of_hideAll (trk h H) e;refine⟨e',?_⟩;cases q:H b with
 | none=>rfl
 | some x =>
  have hm:b∈trk h H:=List.mem_filter.mpr ⟨List.mem_range.mpr (Heap.lt_size e'),by simp[q]⟩;have z:(uQ h H).get? b=none:=W.hideAll_none (trk h H) hm;rw[z] at e;cases e
def BM(mg:Str->Option Value)(h:Heap):Prop:=(∃ bm o,mg "__builtins__" = some (.ref bm)/\bm≠builtinsNs/\h.get? bm=some o/\o.cls=.type "module" /\ o.dict=some builtinsNs/\o.data=.plain)/\∃ mm,h.Ns sysModules mm
structure Mod(K:FG)(mg:Str->Option Value)(base:Heap):Prop where
 kin:K.In base
 glob:base.Ns mainGlobals mg
 blt:∃ mb,base.Ns builtinsNs mb/\∀ x:Str,x ≠ "__name__" -> mb x=bootBuiltins x
 nolimit:base.NoLimit
 bm:BM mg base
structure Cx where
 prog:Program
 w:World
 K:FG
 mg:Str->Option Value
 base:Heap
 A:Around
 N:List Str
 s₀:Shared
 H₀:Hp
 env:Env
 outer:List Env
 stack:List Env
 ex:List Addr
 fn:Str->Bool
 calm:Bool
 pn:PN
 xe:VP
def frs(l:List Env):List Addr:=l.filterMap (·.frame)
abbrev Cx.fs(X:Cx):List Addr:=frs X.outer
def Vis(sc:Scope)(x:Str):Prop:=sc.names.lookup x=some .local\/sc.names.lookup x=some .cell\/sc.names.lookup x=some .free
def Loc(sc:Scope)(x:Str):Prop:=sc.names.lookup x=some .local\/sc.names.lookup x=some .cell
def Look(env:Env)(h:Heap)(m:Str->Option Value)(x:Str)(u:Value):Prop:=
 (env.kindOf x=some .local/\m x=some u)\/((env.kindOf x=some .cell\/env.kindOf x=some .free)/\∃ c,env.cells.lookup x=some c/\h.IsCell c (some u))
structure Cx.Ok(X:Cx):Prop where
 mod:Mod X.K X.mg X.base
 kind:X.env.scope.kind=.function
 glob:X.env.globals=mainGlobals
 blt:X.env.builtins=builtinsNs
 above:X.s₀.heap.objs.size<=X.env.locals
 inj:∀ x y c,X.env.cells.lookup x=some c->X.env.cells.lookup y=some c->x=y
 has:∀ x,(X.env.kindOf x=some .cell\/X.env.kindOf x=some .free)->∃ c,X.env.cells.lookup x=some c
 cab:∀ x c,X.fn x=true->X.env.cells.lookup x=some c->X.s₀.heap.objs.size<=c
 hd:X.calm=true->X.A.handled=none
 frames:X.A.frames=some X.stack
 stk:X.stack=X.outer\/(X.stack=X.env::X.outer/\X.env.frame=some X.env.locals)
 exf:∀ b∈X.ex,b≠X.env.locals/\∀ x c,X.env.cells.lookup x=some c->c≠b
 bs:∀ b o,X.base.get? b=some o->X.s₀.heap.get? b=some o/\X.H₀ b=none
 bsz:X.base.objs.size<=X.s₀.heap.objs.size
 noex:∀ b o,X.base.get? b=some o->b ∉ X.ex
 exfs:∀ b∈X.ex,b ∉ X.fs
 mH:X.s₀.heap.FunFrames X.base X.outer
 frf:∀ b∈X.fs,X.H₀ b=none
structure Inv(X:Cx)(pins:PN)(σ:List (Option V))(H:Hp)(s:Shared):Prop where
 ok:X.Ok
 os:s.os=X.s₀.os
 bare:AllBare s.gens
 base:Un X.fs X.ex X.H₀ H X.s₀.heap s.heap
 loc:∃ m,s.heap.Ns X.env.locals m/\∀ (i:Nat) (x:Str) (v:V),X.N[i]? =some x->σ[i]? =some (some v)->Vis X.env.scope x->∃ u,RelV v u/\Look X.env s.heap m x u
 cell:∀ x c,X.env.cells.lookup x=some c->∃ v,s.heap.IsCell c v
 free:H X.env.locals=none
 freeC:∀ x c,X.env.cells.lookup x=some c->H c=none
 pin:∀ p∈X.pn++pins,s.heap.get? p.1=some p.2/\H p.1=none/\p.1≠X.env.locals/\p.1 ∉ X.fs/\∀ v,p.2.data ≠ .cell v
 hok:HOk X.prog X.w H s.heap
 len:σ.length=X.N.length
section
variable {X:Cx}{pins:PN}{σ:List (Option V)}{H H':Hp}{s:Shared}{h':Heap}
theorem Cx.Ok.aeq(ok:X.Ok){b:Addr}{o:Obj}(e:X.base.get? b=some o):b ∉ X.fs:=λ hb=>by have:=(ok.mH.mem hb).1;rw[e] at this;cases this
theorem Inv.bs(I:Inv X pins σ H s):∀ b o,X.base.get? b=some o->s.heap.get? b=some o/\H b=none:=λ b o e =>
 ⟨I.base.keep b o (I.ok.bs b o e).1 (I.ok.bs b o e).2 (I.ok.aeq e) (I.ok.noex b o e),I.base.free b o (I.ok.bs b o e).1 (I.ok.bs b o e).2 (I.ok.noex b o e)⟩
theorem Inv.bk(I:Inv X pins σ H s):∀ b o,X.base.get? b=some o->s.heap.get? b=some o:=λ b o e=>(I.bs b o e).1
theorem Inv.mod(I:Inv X pins σ H s):Mod X.K X.mg X.base:=I.ok.mod
theorem Inv.kIn(I:Inv X pins σ H s):X.K.In s.heap:=I.ok.mod.kin.keeps I.bk
theorem Inv.nolimit(I:Inv X pins σ H s):s.heap.NoLimit:=I.ok.mod.nolimit.keeps I.bk
theorem Inv.lt(I:Inv X pins σ H s):X.env.locals<s.heap.objs.size:=let ⟨_,hn,_⟩:=I.loc;hn.lt
theorem Inv.sz(I:Inv X pins σ H s):X.s₀.heap.objs.size<=s.heap.objs.size:=Nat.le_trans I.ok.above (Nat.le_of_lt I.lt)
theorem Inv.acI(I:Inv X pins σ H s){a:Addr}(h:s.heap.objs.size<=a):a ∉ X.fs:=λ hb=>by obtain⟨_,o,ho,_⟩:=I.ok.mH.mem hb;exact absurd (Nat.lt_of_lt_of_le (Heap.lt_size ho) (Nat.le_trans I.sz h)) (Nat.lt_irrefl _)
theorem Inv.cne(I:Inv X pins σ H s):∀ x c,X.env.cells.lookup x=some c->c≠X.env.locals:=λ x c e z=>by obtain⟨v,o,ho,hd⟩:=I.cell x c e;obtain⟨m,⟨o',es,ep,ho',hd',_⟩,_⟩:=I.loc;rw[z,ho'] at ho;cases ho;rw[hd'] at hd;cases hd
theorem Inv.mH(I:Inv X pins σ H s):s.heap.FunFrames X.base X.outer:=by
 have all:∀ (l:List Env),(∀ b∈frs l,b∈X.fs)->X.s₀.heap.FunFrames X.base l->s.heap.FunFrames X.base l:=by
  intro l
  induction l with
  | nil=>intro _ _;trivial
  | cons env r ih =>
   intro hs hl;obtain⟨hk,⟨L,o,hf,hn,ho,hd⟩,hr⟩:=hl;have hL:L∈X.fs:=hs L (by unfold frs;rw[List.filterMap_cons,hf];exact List.mem_cons_self);obtain⟨sl,e⟩:=I.base.slot L o ho (I.ok.frf L hL) hL λ z=>I.ok.exfs L z hL;exact⟨hk,⟨L,_,hf,hn,e,hd⟩,ih (λ b hb=>hs b (by unfold frs;rw[List.filterMap_cons,hf];exact List.mem_cons_of_mem _ hb)) hr⟩
 exact all X.outer (λ _ hb=>hb) I.ok.mH
theorem Inv.stack(I:Inv X pins σ H s):s.heap.FunFrames X.base X.stack:=by
 rcases I.ok.stk with e | ⟨e,hf⟩
 ·rw[e];exact I.mH
 ·rw[e];obtain⟨m,hn,_⟩:=I.loc;refine .cons (by rw[I.ok.kind];decide) hf hn ?_ I.mH;exact Heap.get?_none_of_le (Nat.le_trans I.ok.bsz I.ok.above)
theorem Inv.eI(I:Inv X pins σ H s):∀ b∈frs X.stack,b∈X.env.locals::X.fs:=λ b hb=>by
 rcases I.ok.stk with e | ⟨e,hf⟩
 ·rw[e] at hb;exact List.mem_cons_of_mem _ hb
 ·rw[e] at hb;unfold frs at hb;rw[List.filterMap_cons,hf] at hb;exact hb
theorem Inv.kg(I:Inv X pins σ H s):∀ b∈frs X.stack,H b=none:=λ b hb=>by
 rcases List.mem_cons.mp (I.eI b hb) with e | hb
 ·rw[e];exact I.free
 ·obtain⟨_,o,ho,_⟩:=I.ok.mH.mem hb;exact I.base.free b o ho (I.ok.frf b hb) λ z=>I.ok.exfs b z hb
theorem Inv.step{g':Array GenState}{t':Nat}{d':Drawn}{ch:List Addr}(I:Inv X pins σ H s)
  (hch:∀ b∈ch,(b∈X.ex\/X.s₀.heap.objs.size<=b)/\b≠X.env.locals/\(∀ x c,X.env.cells.lookup x=some c->c≠b)/\∀ p∈X.pn++pins,p.1≠b)
  (keep:∀ b o,b≠X.env.locals->b ∉ X.fs->b ∉ ch->s.heap.get? b=some o->H b=none->h'.get? b=some o)
  (slot:∀ b o,b≠X.env.locals->b∈X.fs->b ∉ ch->s.heap.get? b=some o->H b=none->∃ sl,h'.get? b=some {o with slots:=sl})(free:∀ b o,b ∉ ch->s.heap.get? b=some o->H b=none->H' b=none)
  (there:∀ b o,b ∉ ch->s.heap.get? b=some o->∃ o',h'.get? b=some o')
  (tups:∀ b xs,H b=some (.tup xs)->H' b=some (.tup xs))(frzs:∀ b o u,H b=some (.frz o u)->H' b=some (.frz o u))(tbls:∀ b ps,H b=some (.tbl ps)->∃ more,H' b=some (.tbl (ps++more)))
  (ns:∀ m,s.heap.Ns X.env.locals m->h'.Ns X.env.locals m)(hok:HOk X.prog X.w H' h')(hg:AllBare g') :
  Inv X pins σ H' {s with heap:=h',gens:=g',drawn:=d',toks:=t'}:=by
 have neL:∀ b o,X.s₀.heap.get? b=some o->b≠X.env.locals:=λ b o e=>Nat.ne_of_lt (Nat.lt_of_lt_of_le (Heap.lt_size e) I.ok.above);have neC:∀ b o,X.s₀.heap.get? b=some o->b ∉ X.ex->b ∉ ch:=λ b o e hx hb=>by
  rcases(hch b hb).1 with z | z
  ·exact hx z
  ·exact absurd (Nat.lt_of_lt_of_le (Heap.lt_size e) z) (Nat.lt_irrefl _)
 have cellK:∀ x c,X.env.cells.lookup x=some c->∀ v,s.heap.IsCell c v->h'.IsCell c v:=λ x c e v hq0=>by
  obtain⟨o,ho,hd⟩:=hq0;have nch:c ∉ ch:=λ z=>(hch c z).2.2.1 x c e rfl
  by_cases hc:c∈X.fs
  ·obtain⟨sl,q⟩:=slot c o (I.cne x c e) hc nch ho (I.freeC x c e);exact⟨_,q,hd⟩
  ·exact⟨o,keep c o (I.cne x c e) hc nch ho (I.freeC x c e),hd⟩
 refine⟨I.ok,I.os,hg,⟨λ b o e n hb hx=>?_,λ b o e n hb hx=>?_,λ b o e n hx=>?_,λ b o e hx=>?_,λ b xs e=>tups b xs (I.base.tups b xs e),λ b o xs e=>frzs b o xs (I.base.frzs b o xs e),λ b ps e=>?_⟩,?_,λ x c e=>?_,?_,λ x c e=>?_,λ p hp=>?_,hok,I.len⟩
 ·exact keep b o (neL b o e) hb (neC b o e hx) (I.base.keep b o e n hb hx) (I.base.free b o e n hx)
 ·obtain⟨sl,e1⟩:=I.base.slot b o e n hb hx;obtain⟨sl',e2⟩:=slot b _ (neL b o e) hb (neC b o e hx) e1 (I.base.free b o e n hx);exact⟨sl',e2⟩
 ·obtain⟨o',e1⟩:=I.base.there b o e hx;exact free b o' (neC b o e hx) e1 (I.base.free b o e n hx)
 ·obtain⟨o',e1⟩:=I.base.there b o e hx;exact there b o' (neC b o e hx) e1
 ·obtain⟨m1,e1⟩:=I.base.tbls b ps e;obtain⟨m2,e2⟩:=tbls b _ e1;exact⟨m1++m2,by rw[e2,Array.append_assoc]⟩
 ·obtain⟨m,hn,hl⟩:=I.loc;refine⟨m,ns m hn,λ i x v e1 e2 e3=>?_⟩;obtain⟨u,r,l⟩:=hl i x v e1 e2 e3;refine⟨u,r,?_⟩;rcases l with l | ⟨k,c,e,z⟩
  ·exact .inl l
  ·exact .inr ⟨k,c,e,cellK x c e _ z⟩
 ·obtain⟨v,z⟩:=I.cell x c e;exact⟨v,cellK x c e v z⟩
 ·obtain⟨m,⟨o,_,_,ho,_⟩,_⟩:=I.loc;exact free _ o (λ z=>(hch _ z).2.1 rfl) ho I.free
 ·obtain⟨v,o,ho,hd⟩:=I.cell x c e;exact free c o (λ z=>(hch c z).2.2.1 x c e rfl) ho (I.freeC x c e)
 ·obtain⟨e,n,ne,nf,d⟩:=I.pin p hp;have nch:p.1 ∉ ch:=λ z=>(hch p.1 z).2.2.2 p hp rfl;exact⟨keep p.1 p.2 ne nf nch e n,free p.1 p.2 nch e n,ne,nf,d⟩
theorem Inv.un{t':Nat}(I:Inv X pins σ H s)(u:Un X.fs [] H H' s.heap h')(hok:HOk X.prog X.w H' h'):Inv X pins σ H' {s with heap:=h',toks:=t'}:=by
 obtain⟨m,⟨o,es,ep,ho,r⟩,_⟩:=id I.loc;obtain⟨sl,hL⟩:=u.any ho I.free (by simp);exact I.step (g':=s.gens) (d':=s.drawn) (ch:=[]) (λ _ z=>nomatch z) (λ b o _ hb _ e n=>u.keep b o e n hb (by simp)) (λ b o _ hb _ e n=>u.slot b o e n hb (by simp)) (λ b o _ e n=>u.free b o e n (by simp)) (λ b o _ e=>u.there b o e (by simp)) u.tups u.frzs u.tbls (λ m' hm=>by obtain⟨o',es',ep',ho',r'⟩:=hm;rw[ho] at ho';cases ho';exact⟨_,es',ep',hL,r'⟩) hok I.bare
theorem Inv.call{g':Array GenState}{t':Nat}{d':Drawn}{ch:List Addr}(I:Inv X pins σ H s)(u:Un (frs X.stack) ch H H' s.heap h')(hok:HOk X.prog X.w H' h')(hg:AllBare g')
  (hch:∀ b∈ch,(b∈X.ex\/X.s₀.heap.objs.size<=b)/\b≠X.env.locals/\(∀ x c,X.env.cells.lookup x=some c->c≠b)/\∀ p∈X.pn++pins,p.1≠b) :
  Inv X pins σ H' {s with heap:=h',gens:=g',drawn:=d',toks:=t'}:=by
 obtain⟨m,⟨o,es,ep,ho,r⟩,_⟩:=id I.loc;obtain⟨sl,hL⟩:=u.any ho I.free λ z=>(hch _ z).2.1 rfl;exact I.step (ch:=ch) hch (λ b o hL hb hc e n=>u.keep b o e n (λ z=>(List.mem_cons.mp (I.eI b z)).elim hL hb) hc) (λ b o _ _ hc e n=>u.any e n hc) (λ b o hc e n=>u.free b o e n hc) (λ b o hc e=>u.there b o e hc) u.tups u.frzs u.tbls (λ m' hm=>by obtain⟨o',es',ep',ho',r'⟩:=hm;rw[ho] at ho';cases ho';exact⟨_,es',ep',hL,r'⟩) hok hg
theorem Inv.turned{t':Nat}{it:Addr}(I:Inv X pins σ H s)(k:∀ b o,b≠it->s.heap.get? b=some o->h'.get? b=some o)(hn:H it=none)(hL:it≠X.env.locals)
  (h1:it∈X.ex\/X.s₀.heap.objs.size<=it)(h2:∀ x c,X.env.cells.lookup x=some c->c≠it)(h3:∀ p∈X.pn++pins,p.1≠it):Inv X pins σ H {s with heap:=h',toks:=t'}:=by
 have nit:∀ b u,H b=some u->b≠it:=λ b u e z=>by rw[z,hn] at e;cases e
 refine I.step (g':=s.gens) (d':=s.drawn) (ch:=[it]) (λ b hb=>?_) (λ b o _ _ hc e _=>k b o (λ z=>hc (by simp[z])) e) (λ b o _ _ hc e _=>⟨o.slots,k b o (λ z=>hc (by simp[z])) e⟩) (λ _ _ _ _ n=>n)
  (λ b o hc e=>⟨o,k b o (λ z=>hc (by simp[z])) e⟩) (λ _ _ e=>e) (λ _ _ _ e=>e) (λ b ps e=>⟨#[],by rw[e];simp⟩) (λ m hm=>?_) (λ b u e=>?_) I.bare
 ·have e:b=it:=by simpa using hb
  subst e;exact⟨h1,hL,h2,h3⟩
 ·obtain⟨o,es,ep,ho,r⟩:=hm;exact⟨o,es,ep,k _ o (Ne.symm hL) ho,r⟩
 ·refine(I.hok b u e).qV (λ c v hc q=>k c v ?_ q) (λ _ q=>q) λ _ _ q=>q;rcases hc with z | z
  ·rw[z];exact nit b u e
  ·exact nit c _ z
theorem Inv.tok(I:Inv X pins σ H s)(t:Nat):Inv X pins σ H {s with toks:=t}:=I.un (h':=s.heap) (t':=t) Un.refl I.hok
theorem Inv.kept{t':Nat}(I:Inv X pins σ H s)(k:∀ b u,s.heap.get? b=some u->h'.get? b=some u):Inv X pins σ H {s with heap:=h',toks:=t'}:=I.un (Un.kept k) (I.hok.kept k)
theorem Inv.laid{a:Addr}{o:HO}{t':Nat}(I:Inv X pins σ H s)(k:∀ b u,s.heap.get? b=some u->h'.get? b=some u)(hp:s.heap.objs.size<=a)(new:cM X.prog X.w (upd H a o) h' a o) :
  Inv X pins σ (upd H a o) {s with heap:=h',toks:=t'}:=I.un (Un.laid k hp (I.hok.fresh hp)) (I.hok.laid k hp new)
theorem Inv.write{x e:Addr}{o:HO}{t':Nat}(I:Inv X pins σ H s)(mu:Mut (H x))(he:e=x\/H e=some (.own x))(k:∀ b u,b≠e->s.heap.get? b=some u->h'.get? b=some u)(heo:∃ u,h'.get? e=some u)
  (new:cM X.prog X.w (upd H x o) h' x o):Inv X pins σ (upd H x o) {s with heap:=h',toks:=t'}:=I.un (Un.write mu he k heo) (I.hok.write mu he k heo new)
theorem Inv.cV{pins':PN}(I:Inv X pins σ H s)(h:∀ p∈pins',s.heap.get? p.1=some p.2/\H p.1=none/\p.1≠X.env.locals/\p.1 ∉ X.fs/\∀ v,p.2.data ≠ .cell v):Inv X pins' σ H s:=
 ⟨I.ok,I.os,I.bare,I.base,I.loc,I.cell,I.free,I.freeC,λ p hp=>(List.mem_append.mp hp).elim (λ z=>I.pin p (List.mem_append_left _ z)) (h p),I.hok,I.len⟩
theorem oX{N:List Str}(hN:N.Nodup){i j:Nat}{x:Str}(a:N[i]? =some x)(b:N[j]? =some x):i=j:=by obtain⟨h1,e1⟩:=List.getElem?_eq_some_iff.mp a;obtain⟨h2,e2⟩:=List.getElem?_eq_some_iff.mp b;exact(List.getElem_inj hN).mp (e1.trans e2.symm)
theorem qT{M:Model}{A:Around}{E:VP}{i:Nat}{x:Str}{v:V}{u:Value}{Q:Unit->Shared->Prop}(I:Inv X pins σ H s)(hN:X.N.Nodup)(hi:X.N[i]? =some x)(hx:Loc X.env.scope x)(r:RelV v u)
  (h:∀ s',Inv X pins (σ.set i (some v)) H s'->(∃ a,Heap.SameBut a s.heap s'.heap/\(a=X.env.locals\/X.env.cells.lookup x=some a))->Q () s')(hf:X.fn x=true\/X.env.scope.names.lookup x=some .local:=by first | exact .inl rfl | exact .inr rfl | assumption):wpAny M A (storeName X.env x u) Q E s:=by
 obtain⟨m,hn,hl⟩:=id I.loc;have hcls:(X.env.scope.kind==.class || (X.env.scope.kind==.module&&X.env.locals != X.env.globals))=false:=by rw[I.ok.kind];rfl
 have hiσ:i<σ.length:=by rw[I.len];exact(List.getElem?_eq_some_iff.mp hi).1
 have cne:=I.cne;have tracked:∀ {a:Addr} {h':Heap},(∃ o,s.heap.get? a=some o/\H a=none)->Heap.SameBut a s.heap h'->HOk X.prog X.w H h':=λ {a h'} ha hs b ob e=>by
  obtain⟨_,_,hfree⟩:=ha;refine(I.hok b ob e).qV (λ c w' hc q=>(hs.2 c ?_).trans q) (λ _ q=>q) λ _ _ q=>q;rintro rfl;rcases hc with rfl | hc
  ·rw[hfree] at e;cases e
  ·rw[hfree] at hc;cases hc
 rcases hx with hk | hk
 ·refine wpAny_storeName_local hk hn (λ h' hn' hs=>?_) hcls;obtain⟨oL,_,_,hoL,_⟩:=id hn;refine h _ ⟨I.ok,I.os,I.bare,⟨λ b o e n hb hx=>?_,λ b o e n hb hx=>?_,I.base.free,λ b o e hx=>?_,I.base.tups,I.base.frzs,I.base.tbls⟩,⟨_,hn',λ j y v' e1 e2 e3=>?_⟩,λ y c e=>?_,I.free,I.freeC,λ p hp=>?_,tracked ⟨oL,hoL,I.free⟩ hs,by simpa using I.len⟩ ⟨_,hs,.inl rfl⟩
  ·exact(hs.2 b (Nat.ne_of_lt (Nat.lt_of_lt_of_le (Heap.lt_size e) I.ok.above))).trans (I.base.keep b o e n hb hx)
  ·obtain⟨sl,e1⟩:=I.base.slot b o e n hb hx;exact⟨sl,(hs.2 b (Nat.ne_of_lt (Nat.lt_of_lt_of_le (Heap.lt_size e) I.ok.above))).trans e1⟩
  ·obtain⟨o',e1⟩:=I.base.there b o e hx;exact⟨o',(hs.2 b (Nat.ne_of_lt (Nat.lt_of_lt_of_le (Heap.lt_size e) I.ok.above))).trans e1⟩
  ·by_cases hj:j=i
   ·subst hj;rw[hi] at e1;cases e1;rw[List.getElem?_set_self hiσ] at e2;cases e2;exact⟨u,r,.inl ⟨hk,by simp⟩⟩
   ·rw[List.getElem?_set_ne (Ne.symm hj)] at e2;obtain⟨u',r',q⟩:=hl j y v' e1 e2 e3;refine⟨u',r',?_⟩;rcases q with ⟨k,e⟩ | ⟨k,c,e,z⟩
    ·refine .inl ⟨k,?_⟩;have:y≠x:=λ e=>hj (oX hN e1 (e ▸ hi));simp[this,e]
    ·exact .inr ⟨k,c,e,z.sameBut hs (cne y c e)⟩
  ·obtain⟨w',z⟩:=I.cell y c e;exact⟨w',z.sameBut hs (cne y c e)⟩
  ·obtain⟨e,n,ne,nf,d⟩:=I.pin p hp;exact⟨(hs.2 p.1 ne).trans e,n,ne,nf,d⟩
 ·have hfn:X.fn x=true:=by
   rcases hf with z | z
   ·exact z
   ·rw[z] at hk;cases hk
  obtain⟨c,hc⟩:=I.ok.has x (.inl hk);obtain⟨w',z⟩:=I.cell x c hc;refine wpAny_storeName_cell I.ok.kind hk hc z (λ h' hc' hs=>?_);obtain⟨oc,hoc,hocd⟩:=id z;refine h {s with heap:=h'} ⟨I.ok,I.os,I.bare,⟨λ b o e n hb hx=>?_,λ b o e n hb hx=>?_,I.base.free,λ b o e hx=>?_,I.base.tups,I.base.frzs,I.base.tbls⟩,⟨m,hn.sameBut hs (Ne.symm (cne x c hc)),λ j y v' e1 e2 e3=>?_⟩,λ y c' e=>?_,I.free,I.freeC,λ p hp=>?_,tracked ⟨oc,hoc,I.freeC x c hc⟩ hs,by simpa using I.len⟩ ⟨c,hs,.inr hc⟩
  ·exact(hs.2 b (Nat.ne_of_lt (Nat.lt_of_lt_of_le (Heap.lt_size e) (I.ok.cab x c hfn hc)))).trans (I.base.keep b o e n hb hx)
  ·obtain⟨sl,e1⟩:=I.base.slot b o e n hb hx;exact⟨sl,(hs.2 b (Nat.ne_of_lt (Nat.lt_of_lt_of_le (Heap.lt_size e) (I.ok.cab x c hfn hc)))).trans e1⟩
  ·obtain⟨o',e1⟩:=I.base.there b o e hx;exact⟨o',(hs.2 b (Nat.ne_of_lt (Nat.lt_of_lt_of_le (Heap.lt_size e) (I.ok.cab x c hfn hc)))).trans e1⟩
  ·by_cases hj:j=i
   ·subst hj;rw[hi] at e1;cases e1;rw[List.getElem?_set_self hiσ] at e2;cases e2;exact⟨u,r,.inr ⟨.inl hk,c,hc,hc'⟩⟩
   ·rw[List.getElem?_set_ne (Ne.symm hj)] at e2;obtain⟨u',r',q⟩:=hl j y v' e1 e2 e3;refine⟨u',r',?_⟩;rcases q with q | ⟨k,c',e,z'⟩
    ·exact .inl q
    ·refine .inr ⟨k,c',e,z'.sameBut hs ?_⟩;rintro rfl;exact hj (oX hN e1 (I.ok.inj _ _ _ e hc ▸ hi))
  ·by_cases hcc:c'=c
   ·subst hcc;exact⟨_,hc'⟩
   ·obtain⟨w2,z2⟩:=I.cell y c' e;exact⟨w2,z2.sameBut hs hcc⟩
  ·obtain⟨e,n,ne,nf,d⟩:=I.pin p hp;refine⟨(hs.2 p.1 ?_).trans e,n,ne,nf,d⟩;intro q;rw[q,hoc] at e;have q':oc=p.2:=Option.some.inj e;exact d w' (by rw[<- q'];exact hocd)
theorem iK{M:Model}{A:Around}{E:VP}{i:Nat}{x:Str}{v:V}{u:Value}{Q:Unit->Shared->Prop}(I:Inv X pins σ H s)(hN:X.N.Nodup)(hi:X.N[i]? =some x)(hx:Loc X.env.scope x)(r:RelV v u)
  (h:∀ s',Inv X pins (σ.set i (some v)) H s'->Q () s')(hf:X.fn x=true\/X.env.scope.names.lookup x=some .local:=by first | exact .inl rfl | exact .inr rfl | assumption):wpAny M A (storeName X.env x u) Q E s:=
 qT I hN hi hx r (λ s' I' _=>h s' I') hf
theorem Inv.yf{s':Shared}{ch:List Addr}(I:Inv X pins σ H s)(ho:s'.os=s.os)(u:Un (frs X.stack) ch H H' s.heap s'.heap)(hok:HOk X.prog X.w H' s'.heap)(hg:AllBare s'.gens)
  (hch:∀ b∈ch,(b∈X.ex\/X.s₀.heap.objs.size<=b)/\b≠X.env.locals/\(∀ x c,X.env.cells.lookup x=some c->c≠b)/\∀ p∈X.pn++pins,p.1≠b):Inv X pins σ H' s':=by
 obtain⟨h',g',d',t',o'⟩:=s';have e:o'=s.os:=ho;subst e;exact I.call (g':=g') (t':=t') (d':=d') u hok hg hch
end
abbrev XK:=Value->Option Addr->Hp->Prop
abbrev St:=List (Option V)
abbrev VK:=V->Hp->Prop
abbrev TE:=St->Hp->VK->Prop
abbrev TT:=St->Hp->(Bool->Hp->Prop)->Prop
abbrev TA:=St->Hp->(List V->Hp->Prop)->Prop
structure Ends where
 nx:St->Hp->Prop
 rt:VK
 bk:St->Hp->Prop:=λ _ _=>False
 ct:St->Hp->Prop:=λ _ _=>False
abbrev TS:=Ends->St->Hp->Prop
def EP(X:Cx)(pins:PN)(σ:St)(Q:VK)(u:Value)(s':Shared):Prop:=∃ v H',Inv X pins σ H' s'/\RelV v u/\Q v H'
def TP(X:Cx)(pins:PN)(σ:St)(Q:Bool->Hp->Prop)(b:Bool)(s':Shared):Prop:=∃ H',Inv X pins σ H' s'/\Q b H'
def AP(X:Cx)(pins:PN)(σ:St)(Q:List V->Hp->Prop)(us:List Value)(s':Shared):Prop:=∃ vs H',Inv X pins σ H' s'/\Vals vs us/\Q vs H'
def SP(X:Cx)(pins:PN)(D:Ends)(f:Flow)(s':Shared):Prop:=
 match f with
 | .next=>∃ σ' H',Inv X pins σ' H' s'/\D.nx σ' H'
 | .brk=>∃ σ' H',Inv X pins σ' H' s'/\D.bk σ' H'
 | .cont=>∃ σ' H',Inv X pins σ' H' s'/\D.ct σ' H'
 | .ret u=>∃ v σ' H',Inv X pins σ' H' s'/\RelV v u/\D.rt v H'
def PE(X:Cx)(e:Expr)(t:TE):Prop:=
 ∀ (pins:PN) (s:Shared) (σ:St) (H:Hp) (Q:VK),Inv X pins σ H s->t σ H Q->wpAny (model X.prog X.w) X.A (eval e X.env) (EP X pins σ Q) X.xe s
def PT(X:Cx)(e:Expr)(t:TT):Prop:=
 ∀ (pins:PN) (s:Shared) (σ:St) (H:Hp) (Q:Bool->Hp->Prop),Inv X pins σ H s->t σ H Q->wpAny (model X.prog X.w) X.A (isTrue e X.env (eval e X.env)) (TP X pins σ Q) X.xe s
def PW(X:Cx)(e:Expr)(t:TT):Prop:=
 ∀ (whole:Sem Value) (pins:PN) (s:Shared) (σ:St) (H:Hp) (Q:Bool->Hp->Prop),Inv X pins σ H s->t σ H Q->wpAny (model X.prog X.w) X.A (isTrue e X.env whole) (TP X pins σ Q) X.xe s
theorem PW.pt{X:Cx}{e:Expr}{t:TT}(h:PW X e t):PT X e t:=h _
def PA(X:Cx)(es:List Expr)(t:TA):Prop:=
 ∀ (pos:Pos) (pins:PN) (s:Shared) (σ:St) (H:Hp) (Q:List V->Hp->Prop),Inv X pins σ H s->t σ H Q->wpAny (model X.prog X.w) X.A (spliced (backTo pos (starEach es X.env))) (AP X pins σ Q) X.xe s
def PS(X:Cx)(st:Stmt)(t:TS):Prop:=
 ∀ (pins:PN) (s:Shared) (σ:St) (H:Hp) (D:Ends),Inv X pins σ H s->t D σ H->wpAny (model X.prog X.w) X.A (exec st X.env) (SP X pins D) X.xe s
def PSs(X:Cx)(st:List Stmt)(t:TS):Prop:=
 ∀ (pins:PN) (s:Shared) (σ:St) (H:Hp) (D:Ends),Inv X pins σ H s->t D σ H->wpAny (model X.prog X.w) X.A (execs st X.env) (SP X pins D) X.xe s
theorem thn{α:Type}{t:Sem α}{Q Q':α->Shared->Prop}{M:Model}{A:Around}{E:VP}{s:Shared}(h:wpAny M A t Q E s)(hQ:∀ a s,Q a s->Q' a s):wpAny M A t Q' E s:=wpAny_mono h hQ λ _ _ x=>x
section
variable {X:Cx}
def adN(i:Nat):TE:=λ σ H Q=>∃ v,σ[i]? =some (some v)/\Q v H
def tC(v:V):TE:=λ _ H Q=>Q v H
theorem abZ{i:Nat}{x:Str}{pos:Pos}(hN:X.N[i]? =some x)(hv:Vis X.env.scope x)(hd:ND x:=by decide)(hcd:(x==("__classdict__" : Str))=false:=by decide):PE X (.Name x pos) (adN i):=by
 intro pins s σ H Q I h;obtain⟨v,e,h⟩:=h;obtain⟨m,hn,hl⟩:=I.loc;obtain⟨u,r,l⟩:=hl i x v hN e hv;have fin:EP X pins σ Q u s:=⟨v,H,I,r,h⟩;rcases l with ⟨hk,hm⟩ | ⟨hk,c,hc,hcell⟩
 ·exact wpAny_Name (wpAny_loadName_local I.ok.kind hk hn hm fin) hd
 ·rcases hk with hk | hk
  ·exact wpAny_Name (wpAny_loadName_cell I.ok.kind hk hc hcell fin) hd
  ·exact wpAny_Name (wpAny_loadName_free I.ok.kind hk hc hcell fin hcd) hd
theorem aaN{i j pos}:PE X (.Constant (.int i) j pos) (tC (.int i)):=λ _ _ _ H _ I h=>wpAny_Constant_int ⟨.int i,H,I.tok _,⟨_,rfl⟩,h⟩
theorem adp{b j pos}:PE X (.Constant (.bool b) j pos) (tC (.bl b)):=λ _ _ _ H _ I h=>Constant_bool ⟨.bl b,H,I,rfl,h⟩
theorem wY{j pos}:PE X (.Constant .none j pos) (tC .non):=λ _ _ _ H _ I h=>Constant_none ⟨.non,H,I,rfl,h⟩
theorem aaB{x j pos}:PE X (.Constant (.str x) j pos) (tC (.str x)):=λ _ _ _ H _ I h=>Calls.Constant_str ⟨.str x,H,I.tok _,⟨_,rfl⟩,h⟩
def Gl(X:Cx)(x:Str):Prop:=X.env.kindOf x=some .globalImplicit
theorem xr{E:VP}{pins:PN}{s:Shared}{σ:St}{H:Hp}{x:Str}{u:Value}{pos:Pos}{Q:VP}(I:Inv X pins σ H s)(hg:Gl X x)(hm:X.mg x=some u)(h:Q u s)
  (hd:ND x:=by decide):wpAny (model X.prog X.w) X.A (eval (.Name x pos) X.env) Q E s:=
 Calls.Name_function_global I.ok.kind hg (Calls.loadGlobal_global (by rw[I.ok.glob];exact I.mod.glob.keeps I.bk) hm h) hd
theorem nV{E:VP}{pins:PN}{s:Shared}{σ:St}{H:Hp}{x:Str}{u:Value}{pos:Pos}{Q:VP}(I:Inv X pins σ H s)(hg:Gl X x)(hm:X.mg x=none)(hv:bootBuiltins x=some u)(h:Q u s)
  (hn:x ≠ "__name__":= by decide)(hd:ND x:=by decide):wpAny (model X.prog X.w) X.A (eval (.Name x pos) X.env) Q E s:=by
 obtain⟨mb,h1,h2⟩:=I.mod.blt;exact Calls.Name_function_global I.ok.kind hg (Calls.loadGlobal_builtin (by rw[I.ok.glob];exact I.mod.glob.keeps I.bk) hm (by rw[I.ok.blt];exact h1.keeps I.bk) ((h2 x hn).trans hv) h) hd
variable {a b:Expr}{ta tb:TE}{pos:Pos}
def PC(X:Cx)(op:CmpOp)(a b:Expr)(t:TE):Prop:=
 ∀ (pins:PN) (s:Shared) (σ:St) (H:Hp) (Q:VK),Inv X pins σ H s->t σ H Q ->
  wpAny (model X.prog X.w) X.A (eval a X.env) (λ v s₁=>wpAny (model X.prog X.w) X.A (eval b X.env) (λ u s₂=>wpAny (model X.prog X.w) X.A (compareOp op v u) (EP X pins σ Q) X.xe s₂) X.xe s₁) X.xe s
theorem gy(b:Expr){op:CmpOp}(h:op ≠ .In)(h2:op ≠ .NotIn):behindInMarks op b=false:=by
 have e1:(op==CmpOp.In)=false:=by cases op<;>first | rfl | exact absurd rfl h
 have e2:(op==CmpOp.NotIn)=false:=by cases op<;>first | rfl | exact absurd rfl h2
 cases b<;>simp[behindInMarks,e1,e2]
def tB(t:TE):TT:=λ σ H Q=>t σ H λ x H1=>∃ c,x=.bl c/\Q c H1
theorem we{op:CmpOp}{t:TE}(h:PC X op a b t)(h1:behindInMarks op b=false:=by first | exact gy _ (by decide) (by decide) | rfl):PT X (.Compare a [op] [b] pos) (tB t):=by intro pins s σ H Q I hw;refine wpAny_isTrue_Compare1 (thn (h pins s σ H _ I hw) λ v s1 h1=>thn h1 λ u s2 h2=>thn h2 λ c s3 ⟨x,H1,I1,r1,q1⟩=>?_) h1;obtain⟨d,rfl,q⟩:=q1;cases r1;exact wpAny_truthy_bool ⟨H1,I1,q⟩
theorem abh{e:Expr}{t:TE}(h:PE X e t)(he:∀ whole,isTrue e X.env whole=(do let v <- whole;standAt e.pos;holding [v] (truthy v)):=by intro _;rfl):PT X e (tB t):=by intro pins s σ H Q I hw;refine isTrue_plain (thn (h pins s σ H _ I hw) λ v s1 ⟨x,H1,I1,r1,q1⟩=>?_) (he _);obtain⟨d,rfl,q⟩:=q1;cases r1;exact wpAny_truthy_bool ⟨H1,I1,q⟩
variable {tA tB':TT}{rest:List Expr}
def ad2(t u:TT):TT:=λ σ H Q=>t σ H λ c H1=>if c=true then u σ H1 Q else Q false H1
def tOr(t u:TT):TT:=λ σ H Q=>t σ H λ c H1=>if c=true then Q true H1 else u σ H1 Q
def ad3(t:TT):TT:=λ σ H Q=>t σ H λ c H1=>Q (!c) H1
theorem pw_and1(ha:PT X a tA):PW X (.BoolOp .And [a] pos) tA:=by
 intro wh pins s σ H Q I h;refine isTrue_and (thn (ha pins s σ H Q I h) λ c s1 e=>?_);cases c with
 | true=>exact isTrue_and_nil e
 | false=>exact e
theorem pw_or1(ha:PT X a tA):PW X (.BoolOp .Or [a] pos) tA:=by
 intro wh pins s σ H Q I h;refine isTrue_or (thn (ha pins s σ H Q I h) λ c s1 e=>?_);cases c with
 | false=>exact isTrue_or_nil e
 | true=>exact e
theorem pw_and(ha:PT X a tA)(hb:PW X (.BoolOp .And (b::rest) pos) tB'):PW X (.BoolOp .And (a::b::rest) pos) (ad2 tA tB'):=by
 intro wh pins s σ H Q I h;refine isTrue_and (thn (ha pins s σ H _ I h) λ c s1 hq1=>?_);obtain⟨H1,I1,q1⟩:=hq1;cases c with
 | true=>exact hb wh pins s1 σ H1 Q I1 q1
 | false=>exact⟨H1,I1,q1⟩
theorem pw_or(ha:PT X a tA)(hb:PW X (.BoolOp .Or (b::rest) pos) tB'):PW X (.BoolOp .Or (a::b::rest) pos) (tOr tA tB'):=by
 intro wh pins s σ H Q I h;refine isTrue_or (thn (ha pins s σ H _ I h) λ c s1 hq2=>?_);obtain⟨H1,I1,q1⟩:=hq2;cases c with
 | true=>exact⟨H1,I1,q1⟩
 | false=>exact hb wh pins s1 σ H1 Q I1 q1
theorem abv(ha:PT X a tA):PT X (.UnaryOp .Not a pos) (ad3 tA):=by intro pins s σ H Q I h;exact isTrue_not (ha pins s σ H (λ c H1=>Q (!c) H1) I h)
def ac0(ta tb:TE):TE:=λ σ H Q=>ta σ H λ x H1=>∃ c,x=.bl c/\if c=true then tb σ H1 Q else Q (.bl false) H1
theorem zW{op}{t:TE}(h:PE X a t):PE X (.BoolOp op [a] pos) t:=λ pins s σ H Q I hw=>BoolOp_one (h pins s σ H Q I hw)
theorem abO(ha:PE X a ta)(hb:PE X (.BoolOp .And (b::rest) pos) tb):PE X (.BoolOp .And (a::b::rest) pos) (ac0 ta tb):=by
 intro pins s σ H Q I h;refine BoolOp_and (thn (ha pins s σ H _ I h) λ v s1 hq3=>?_);obtain⟨x,H1,I1,r1,q1⟩:=hq3;obtain⟨c,rfl,q1⟩:=q1;cases r1;refine wpAny_truthy_bool ?_;cases c with
 | true=>exact hb pins s1 σ H1 Q I1 q1
 | false=>exact⟨.bl false,H1,I1,rfl,q1⟩
def tIf(t:TT)(ta tb:TE):TE:=λ σ H Q=>t σ H λ c H1=>if c=true then ta σ H1 Q else tb σ H1 Q
theorem vf{c:Expr}(hc:PT X c tA)(ha:PE X a ta)(hb:PE X b tb):PE X (.IfExp c a b pos) (tIf tA ta tb):=by
 intro pins s σ H Q I h;refine wpAny_IfExp (thn (hc pins s σ H _ I h) λ d s1 hq4=>?_);obtain⟨H1,I1,q1⟩:=hq4;cases d with
 | true=>exact ha pins s1 σ H1 Q I1 q1
 | false=>exact hb pins s1 σ H1 Q I1 q1
end
def SqL(K:FG)(H:Hp)(a:Addr)(xs:List V):Prop:=
 Rd H a (.lst xs) \/
  ∃ (o:Obj) (its:Array Value) (n:Nat),K.lookup a=some o/\o.cls=.type "list" /\ o.dict=none/\o.data=.seq its n/\its.size<=sizeLine/\Vals xs its.toList
def SqT(K:FG)(H:Hp)(a:Addr)(xs:List V):Prop:=
 Rd H a (.tup xs) \/
  ∃ (o:Obj) (its:Array Value) (n:Nat),K.lookup a=some o/\o.cls=.type "tuple" /\ o.dict=none/\o.data=.seq its n/\its.size<=sizeLine/\Vals xs its.toList
def ad4:Value->Option V
 | .none=>some .non
 | .bool b=>some (.bl b)
 | .int i _=>some (.int i)
 | .str x _=>some (.str x)
 | .bytes b _=>some (.byt b)
 | .float b _=>some (.flt b)
 | .ref a=>some (.ref a)
 | .type n=>some (.ty n)
 | _=>none
theorem RelV.abs{x:V}{u:Value}(r:RelV x u):ad4 u=some x:=by
 cases x with
 | non=>cases r;rfl
 | bl _=>cases r;rfl
 | int _=>obtain⟨t,rfl⟩:=r;rfl
 | str _=>obtain⟨t,rfl⟩:=r;rfl
 | byt _=>obtain⟨t,rfl⟩:=r;rfl
 | flt _=>obtain⟨t,rfl⟩:=r;rfl
 | ref _=>cases r;rfl
 | ty _=>cases r;rfl
theorem RelV.inj{x y:V}{u:Value}(r:RelV x u)(q:RelV y u):x=y:=Option.some.inj (r.abs.symm.trans q.abs)
theorem Vals.inj:∀ {xs ys:List V} {us:List Value},Vals xs us->Vals ys us->xs=ys
 | _,_,_,.nil,.nil=>rfl
 | _,_,_,.cons r t,.cons r' t'=>by rw[r.inj r',Vals.inj t t']
section
variable {X:Cx}{pins:PN}{σ:St}{H:Hp}{s:Shared}{a:Addr}{xs ys:List V}
theorem SqL.of{K:FG}(h:H a=some (.lst xs)):SqL K H a xs:=.inl (.inl h)
theorem Inv.list(I:Inv X pins σ H s)(h:SqL X.K H a xs):∃ its:List Value,Vals xs its/\PlainL s.heap a its.toArray/\xs.length<=sizeLine:=by
 rcases h with h | ⟨o,its,n,hk,hc,hd,hs,hz,r⟩
 ·obtain⟨z,its,n,r,e⟩:=h.ok I.hok;exact⟨its,r,⟨_,n,e,rfl,rfl,rfl⟩,z⟩
 ·refine⟨its.toList,r,⟨o,n,I.kIn a o hk,hc,hd,by simpa using hs⟩,?_⟩;have e:=r.length;simp only[Array.length_toList] at e;omega
theorem Inv.adO(I:Inv X pins σ H s)(h:SqT X.K H a xs):∃ its:List Value,Vals xs its/\vA s.heap a its.toArray/\xs.length<=sizeLine:=by
 rcases h with h | ⟨o,its,n,hk,hc,hd,hs,hz,r⟩
 ·obtain⟨z,its,r,p⟩:=h.ok I.hok;exact⟨its,r,p,z⟩
 ·refine⟨its.toList,r,⟨o,I.kIn a o hk,hc,hd,n,by simpa using hs⟩,?_⟩;have e:=r.length;simp only[Array.length_toList] at e;omega
theorem Inv.tuple(I:Inv X pins σ H s)(h:SqT X.K H a xs):∃ its:List Value,Vals xs its/\IsTup s.heap a its.toArray/\xs.length<=sizeLine:=by obtain⟨its,r,p,z⟩:=I.adO h;exact⟨its,r,p.tup,z⟩
theorem Inv.uA(I:Inv X pins σ H s)(h:SqL X.K H a xs)(h':SqL X.K H a ys):xs=ys:=by
 obtain⟨its,r,⟨o,n,e,_,_,d⟩,_⟩:=I.list h;obtain⟨its',r',⟨o',n',e',_,_,d'⟩,_⟩:=I.list h';rw[e] at e';cases e';rw[d] at d'
 injection d' with d1 _
 have:its=its':=by simpa using congrArg Array.toList d1
 subst this;exact r.inj r'
theorem Inv.qS(I:Inv X pins σ H s)(h:SqT X.K H a xs)(h':SqT X.K H a ys):xs=ys:=by
 obtain⟨its,r,⟨o,e,_,n,d⟩,_⟩:=I.tuple h;obtain⟨its',r',⟨o',e',_,n',d'⟩,_⟩:=I.tuple h';rw[e] at e';cases e';rw[d] at d'
 injection d' with d1 _
 have:its=its':=by simpa using congrArg Array.toList d1
 subst this;exact r.inj r'
end
abbrev Cx.uq(X:Cx)(E:VP):Cx:={X with xe:=E}
abbrev Cx.nox(X:Cx):Cx:=X.uq λ _ _=>False
theorem Cx.Ok.uq{X:Cx}(ok:X.Ok)(E:VP):(X.uq E).Ok:=
 ⟨ok.mod,ok.kind,ok.glob,ok.blt,ok.above,ok.inj,ok.has,ok.cab,ok.hd,ok.frames,ok.stk,ok.exf,ok.bs,ok.bsz,ok.noex,ok.exfs,ok.mH,ok.frf⟩
theorem Cx.Ok.hU{X:Cx}{E:VP}(ok:(X.uq E).Ok):X.Ok:=
 ⟨ok.mod,ok.kind,ok.glob,ok.blt,ok.above,ok.inj,ok.has,ok.cab,ok.hd,ok.frames,ok.stk,ok.exf,ok.bs,ok.bsz,ok.noex,ok.exfs,ok.mH,ok.frf⟩
section
variable {X:Cx}{pins:PN}{σ:St}{H:Hp}{s:Shared}{E:VP}
theorem Inv.uq(I:Inv X pins σ H s)(E:VP):Inv (X.uq E) pins σ H s:=⟨I.ok.uq E,I.os,I.bare,I.base,I.loc,I.cell,I.free,I.freeC,I.pin,I.hok,I.len⟩
theorem Inv.hU(I:Inv (X.uq E) pins σ H s):Inv X pins σ H s:=⟨I.ok.hU,I.os,I.bare,I.base,I.loc,I.cell,I.free,I.freeC,I.pin,I.hok,I.len⟩
theorem SP.hU{D:Ends}{f:Flow}{s':Shared}(h:SP (X.uq E) pins D f s'):SP X pins D f s':=by
 cases f with
 | next=>obtain⟨σ',H',I,q⟩:=h;exact⟨σ',H',I.hU,q⟩
 | brk=>obtain⟨σ',H',I,q⟩:=h;exact⟨σ',H',I.hU,q⟩
 | cont=>obtain⟨σ',H',I,q⟩:=h;exact⟨σ',H',I.hU,q⟩
 | ret u=>obtain⟨v,σ',H',I,r,q⟩:=h;exact⟨v,σ',H',I.hU,r,q⟩
theorem PSs.nox{st:List Stmt}{t:TS}(h:PSs X.nox st t):PSs X st t:=λ pins s σ H D I hw =>
 wpAny_mono (h pins s σ H D (I.uq _) hw) (λ _ _ q=>q.hU) λ _ _ z=>False.elim z
end
section
variable {X:Cx}{st:Stmt}{rest:List Stmt}{t u:TS}{e:Expr}{te:TE}{pos:Pos}
def acE:TS:=λ D σ H=>D.nx σ H
def aef(t u:TS):TS:=λ D σ H=>t {D with nx:=u D} σ H
theorem yU:PSs X [] acE:=λ _ _ σ H _ I h=>wpAny_execs_nil ⟨σ,H,I,h⟩
theorem uV(h1:PS X st t)(h2:PSs X rest u):PSs X (st::rest) (aef t u):=by
 intro pins s σ H D I h;refine wpAny_execs_cons (thn (h1 pins s σ H {D with nx:=u D} I h) λ f s1 q=>?_);cases f with
 | next =>
  obtain⟨σ',H',I',q⟩:=q;exact h2 pins s1 σ' H' D I' q
 | ret v=>exact q
 | brk=>exact q
 | cont=>exact q
theorem y0(h1:PS X st t):PSs X [st] t:=by
 intro pins s σ H D I h;refine wpAny_execs_cons (thn (h1 pins s σ H D I h) λ f s1 q=>?_);cases f with
 | next=>exact wpAny_execs_nil q
 | ret v=>exact q
 | brk=>exact q
 | cont=>exact q
theorem Inv.quiet{pins:PN}{σ:St}{H:Hp}{s:Shared}(I:Inv X pins σ H s):interactive X.env=false:=by simp[interactive,I.ok.kind]
def acq(te:TE):TS:=λ D σ H=>te σ H λ _ H1=>D.nx σ H1
theorem yK(he:PE X e te)(hs:swapsWith e none pos.line X.env=pure false:=by rfl):PS X (.Expr e pos) (acq te):=by intro pins s σ H D I h;exact wpAny_Expr_any (thn (he pins s σ H _ I h) λ v s1 ⟨x,H1,I1,r1,q1⟩=>⟨σ,H1,I1,q1⟩) I.quiet hs
def ad9(te:TE):TS:=λ D σ H=>te σ H D.rt
theorem ab6(he:PE X e te):PS X (.Return (some e) pos) (ad9 te):=by intro pins s σ H D I h;exact wpAny_Return_some (thn (he pins s σ H _ I h) λ v s1 ⟨x,H1,I1,r1,q1⟩=>⟨x,σ,H1,I1,r1,q1⟩)
def ad1(c:TT)(t u:TS):TS:=λ D σ H=>c σ H λ b H1=>if b=true then t D σ H1 else u D σ H1
theorem ac3{c:Expr}{a b:List Stmt}{tc:TT}(hc:PT X c tc)(ha:PSs X a t)(hb:PSs X b u):PS X (.If c a b pos) (ad1 tc t u):=by
 intro pins s σ H D I h;refine wpAny_If (thn (hc pins s σ H _ I h) λ d s1 hq5=>?_);obtain⟨H1,I1,q1⟩:=hq5;cases d with
 | true=>exact ha pins s1 σ H1 D I1 q1
 | false=>exact hb pins s1 σ H1 D I1 q1
end
abbrev TG:=V->St->Hp->(St->Hp->Prop)->Prop
abbrev TGs:=List V->St->Hp->(St->Hp->Prop)->Prop
def PG(X:Cx)(target:Expr)(t:TG):Prop:=
 ∀ (pins:PN) (s:Shared) (σ:St) (H:Hp) (v:V) (u:Value) (Q:St->Hp->Prop),Inv X pins σ H s->RelV v u->t v σ H Q ->
  wpAny (model X.prog X.w) X.A (assign target X.env u) (λ _ s'=>∃ σ' H',Inv X pins σ' H' s'/\Q σ' H') X.xe s
def PGs(X:Cx)(ts:List Expr)(t:TGs):Prop:=
 ∀ (pins:PN) (s:Shared) (σ:St) (H:Hp) (vs:List V) (us:List Value) (Q:St->Hp->Prop),Inv X pins σ H s->Vals vs us->t vs σ H Q ->
  wpAny (model X.prog X.w) X.A (assignInOrder ((assignEach ts X.env).map (·.2)) us) (λ _ s'=>∃ σ' H',Inv X pins σ' H' s'/\Q σ' H') X.xe s
abbrev aaH:=V->V->V->Hp->(Hp->Prop)->Prop
def adu(X:Cx)(t:aaH):Prop:=
 ∀ (pins:PN) (s:Shared) (σ:St) (H:Hp) (o i v:V) (ov iv u:Value) (Q:Hp->Prop),Inv X pins σ H s->RelV o ov->RelV i iv->RelV v u->t o i v H Q ->
  wpAny (model X.prog X.w) X.A (setItem ov iv u) (λ _ s'=>∃ H',Inv X pins σ H' s'/\Q H') X.xe s
abbrev TIp:=V->V->Hp->VK->Prop
def PIp(X:Cx)(op:Operator)(t:TIp):Prop:=
 ∀ (pins:PN) (s:Shared) (σ:St) (H:Hp) (x y:V) (v u:Value) (Q:VK),Inv X pins σ H s->RelV x v->RelV y u->t x y H Q ->
  wpAny (model X.prog X.w) X.A (inplaceOp op v u) (EP X pins σ Q) X.xe s
section
variable {X:Cx}{pos:Pos}
def yA(i:Nat):TG:=λ v σ H Q=>Q (σ.set i (some v)) H
theorem tL{i:Nat}{x:Str}(hN:X.N.Nodup)(hi:X.N[i]? =some x)(hx:Loc X.env.scope x)(hf:X.fn x=true\/X.env.scope.names.lookup x=some .local:=by first | exact .inl rfl | exact .inr rfl | assumption):PG X (.Name x pos) (yA i):=by intro pins s σ H v u Q I r h;exact wpAny_assign_Name (iK I hN hi hx r (λ s' I'=>⟨_,H,I',h⟩) hf)
def aea:TGs:=λ vs σ H Q=>vs=[]/\Q σ H
def acG(t:TG)(u:TGs):TGs:=λ vs σ H Q=>∃ v r,vs=v::r/\t v σ H λ σ' H'=>u r σ' H' Q
theorem yq:PGs X [] aea:=by intro pins s σ H vs us Q I r h;obtain⟨e,h⟩:=h;subst e;cases r;exact assignInOrder_nil ⟨σ,H,I,h⟩
theorem vo{e:Expr}{es:List Expr}{t:TG}{u:TGs}(h1:PG X e t)(h2:PGs X es u)
  (hs:(assignEach (e::es) X.env).map (·.2)=assign e X.env::(assignEach es X.env).map (·.2):=by rfl):PGs X (e::es) (acG t u):=by
 intro pins s σ H vs us Q I r h;obtain⟨v,vr,e1,h⟩:=h;subst e1;cases r with
 | cons r rr =>
  rw[hs];refine assignInOrder_cons (thn (h1 pins s σ H _ _ _ I r h) λ _ s1 hq6=>?_);obtain⟨σ1,H1,I1,q1⟩:=hq6;exact h2 pins s1 σ1 H1 _ _ Q I1 rr q1
def aeo(K:FG)(n:Nat)(t:TGs):TG:=λ v σ H Q=>∃ a xs,v=.ref a/\SqT K H a xs/\xs.length=n/\t xs σ H Q
theorem aay{es:List Expr}{k:Nat}{t:TGs}{n:Nat}(hc:X.calm=true)(h:PGs X es t)
  (hn:(assignEach es X.env).length=n:=by rfl)(hst:(assignEach es X.env).findIdx? (·.1)=none:=by rfl):PG X (.Tuple es k pos) (aeo X.K n t):=by
 intro pins s σ H v u Q I r hw;obtain⟨a,xs,e1,hq,hl,hw⟩:=hw;subst e1;cases r;obtain⟨its,rv,ht,hz⟩:=I.tuple hq;refine assign_Tuple_tuple (I.ok.hd hc) ht (by simp[hn,<- hl,rv.length]) hst λ h' hx=>?_;have I1:Inv X pins σ H {s with heap:=h'}:=I.kept (t':=s.toks) λ b o e=>hx b o (Nat.ne_of_lt (Heap.lt_size e)) e;exact h pins _ σ H xs _ Q I1 (by simpa using rv) hw
def aed(to ti:TE)(t:aaH):TG:=λ v σ H Q=>to σ H λ o H1=>ti σ H1 λ i H2=>t o i v H2 λ H3=>Q σ H3
theorem abS{o i:Expr}{to ti:TE}{t:aaH}(ho:PE X o to)(hi:PE X i ti)(hs:adu X t)
  (ha:∀ v,assign (.Subscript o i pos) X.env v=(do
   let ov <- holding [v] (eval o X.env)
   let iv <- holding [v,ov] (eval i X.env)
   standAt pos
   holding [v,ov,iv] (setItem ov iv v)
   release [v,ov,iv] []):=by intro _;rfl):PG X (.Subscript o i pos) (aed to ti t):=by
 intro pins s σ H v u Q I r h;rw[ha];refine wpAny_bind (wpAny_holding (thn (ho pins s σ H _ I h) λ ov s1 hq7=>?_));obtain⟨x,H1,I1,r1,q1⟩:=hq7;refine wpAny_bind (wpAny_holding (thn (hi pins s1 σ H1 _ I1 q1) λ iv s2 hq8=>?_));obtain⟨y,H2,I2,r2,q2⟩:=hq8;refine wpAny_bind (wpAny_standAt (wpAny_bind (wpAny_holding (thn (hs pins s2 σ H2 x y v ov iv u _ I2 r1 r2 r q2) λ _ s3 hq9=>?_))));obtain⟨H3,I3,q3⟩:=hq9;exact wpAny_release ⟨σ,H3,I3,q3⟩
def acm(te:TE)(g:TG):TS:=λ D σ H=>te σ H λ x H1=>g x σ H1 D.nx
theorem aaT{tg e:Expr}{te:TE}{g:TG}(he:PE X e te)(hg:PG X tg g)(hs:swapsWithSole [tg] e pos.line X.env=pure false:=by rfl)(hw:swappedStores [tg] e X.env=pure none:=by rfl)
  (h1:(assignEach [tg] X.env).map (·.2)=[assign tg X.env]:=by rfl):PS X (.Assign [tg] e pos) (acm te g):=by
 intro pins s σ H D I h;refine wpAny_Assign_stores (thn (he pins s σ H _ I h) λ v s1 ⟨x,H1,I1,r1,q1⟩=>?_) hs hw;rw[h1];exact thn (hg pins s1 σ H1 x v _ I1 r1 q1) λ _ s2 q=>q
theorem ab4{i:Nat}{x:Str}{e:Expr}{te:TE}{pos':Pos}(hN:X.N.Nodup)(hi:X.N[i]? =some x)(hx:Loc X.env.scope x)(he:PE X e te)(hs:swapsWith e (some (.Name x pos')) pos.line X.env=pure false:=by rfl)(hf:X.fn x=true\/X.env.scope.names.lookup x=some .local:=by first | exact .inl rfl | exact .inr rfl | assumption) :
  PS X (.Assign [.Name x pos'] e pos) (acm te (yA i)):=by
 intro pins s σ H D I h;refine wpAny_Assign_Name (thn (he pins s σ H _ I h) λ v s1 ⟨y,H1,I1,r1,q1⟩=>?_) hs;exact iK I1 hN hi hx r1 (λ s2 I2=>⟨_,H1,I2,q1⟩) hf
def aeg(i j:Nat)(ta:TA):TS:=λ D σ H=>ta σ H λ vs H1=>∃ v w,vs=[v,w]/\D.nx ((σ.set i (some v)).set j (some w)) H1
theorem aaF{i j:Nat}{x y:Str}{a b:Expr}{ta:TA}{px py pt:Pos}{kt k2 pt2}(hc:X.calm=true)(hN:X.N.Nodup)(hi:X.N[i]? =some x)(hj:X.N[j]? =some y)(hij:i≠j)
  (hx:X.env.scope.names.lookup x=some .local)(hy:X.env.scope.names.lookup y=some .local)(ha:PA X [a,b] ta)
  (hw:swappedStores [.Tuple [.Name x px,.Name y py] kt pt] (.Tuple [a,b] k2 pt2) X.env=pure (some [x,y]))
  (hs:swapsWithSole [.Tuple [.Name x px,.Name y py] kt pt] (.Tuple [a,b] k2 pt2) pos.line X.env=pure false:=by rfl) :
  PS X (.Assign [.Tuple [.Name x px,.Name y py] kt pt] (.Tuple [a,b] k2 pt2) pos) (aeg i j ta):=by
 intro pins s σ H D I h;rw[exec_Assign_arm];refine wpAny_bind (wpAny_standAt ?_);rw[hs];refine wpAny_bind (wpAny_pure ?_);rw[if_neg (by decide)];refine wpAny_bind (Tuple_ (thn (ha _ pins s σ H _ I h) λ us s1 hq10=>?_));obtain⟨vs,H1,I1,r1,q1⟩:=hq10;obtain⟨v,w,e1,q1⟩:=q1;subst e1;obtain⟨u1,u2,rfl,rv,rw'⟩:∃ u1 u2,us=[u1,u2]/\RelV v u1/\RelV w u2:=by
  cases r1 with
  | cons p q =>
   cases q with
   | cons p' q' =>
    cases q';exact⟨_,_,rfl,p,p'⟩
 refine wpAny_newObj_type ?_ (by show 2<=sizeLine;decide);have I2:Inv X pins σ H1 {s1 with heap:=s1.heap.push {cls:=.type "tuple",data:=.seq [u1,u2].toArray}}:=I1.kept (t':=s1.toks) λ b o e=>Heap.get?_push_of_some _ e;rw[hw];refine wpAny_bind (wpAny_pure ?_);show wpAny (model X.prog X.w) X.A (do rule "assign.swapped-stores";let items <- unpackItems (.ref s1.heap.objs.size) 2 none;assignInOrder [λ v=>bindName X.env y v,λ v=>bindName X.env x v] items.reverse;pure Flow.next) _ _ _;refine wpAny_bind (wpAny_rule (wpAny_bind (unpackItems_tuple (items:=#[u1,u2]) (I.ok.hd hc) (IsTup.new s1.heap _) λ h' hx'=>?_)));have I3:=I2.kept (h':=h') (t':=s1.toks) λ b o e=>hx' b o (Nat.ne_of_lt (Heap.lt_size e)) e;show wpAny _ _ (assignInOrder [λ v=>bindName X.env y v,λ v=>bindName X.env x v] [u2,u1] >>= λ _=>pure Flow.next) _ _ _;refine wpAny_bind (assignInOrder_cons (wpAny_bindName (iK I3 hN hj (.inl hy) rw' (λ s2 I4=>?_) (.inr hy))));refine assignInOrder_cons (wpAny_bindName (iK I4 hN hi (.inl hx) rv (λ s3 I5=>assignInOrder_nil (wpAny_pure ?_)) (.inr hx)));rw[List.set_comm _ _ (Ne.symm hij)] at I5;exact⟨_,H1,I5,q1⟩
def adq(to ti te:TE)(hG:V->V->Hp->VK->Prop)(tip:TIp)(tset:aaH):TS:=λ D σ H=>to σ H λ o H1=>ti σ H1 λ i H2=>hG o i H2 λ x H3=>te σ H3 λ y H4=>tip x y H4 λ z H5=>tset o i z H5 λ H6=>D.nx σ H6
def adR(X:Cx)(t:V->V->Hp->VK->Prop):Prop:=
 ∀ (pins:PN) (s:Shared) (σ:St) (H:Hp) (o i:V) (ov iv:Value) (Q:VK),Inv X pins σ H s->RelV o ov->RelV i iv->t o i H Q ->
  wpAny (model X.prog X.w) X.A (getItem ov iv) (EP X pins σ Q) X.xe s
theorem yM{o i e:Expr}{to ti te:TE}{hG:V->V->Hp->VK->Prop}{tip:TIp}{tset:aaH}{op:Operator}{tpos:Pos}(ho:PE X o to)(hi:PE X i ti)(hg:adR X hG)(he:PE X e te)(hp:PIp X op tip)(hs:adu X tset)
  (ha:∀ ov iv new,augStore i ov iv new=(do holding [new,ov,iv] (setItem ov iv new);release [new,ov,iv] [];pure .next):=by intros;rfl):PS X (.AugAssign (.Subscript o i tpos) op e pos) (adq to ti te hG tip tset):=by
 intro pins s σ H D I h;refine wpAny_AugAssign_SubscriptAny (thn (ho pins s σ H _ I h) λ ov s1 ⟨x1,H1,I1,r1,q1⟩=>?_) ha;refine thn (hi pins s1 σ H1 _ I1 q1) λ iv s2 hq11=>?_;obtain⟨x2,H2,I2,r2,q2⟩:=hq11;refine thn (hg pins s2 σ H2 x1 x2 ov iv _ I2 r1 r2 q2) λ old s3 hq12=>?_;obtain⟨x3,H3,I3,r3,q3⟩:=hq12;refine thn (he pins s3 σ H3 _ I3 q3) λ v s4 hq13=>?_;obtain⟨x4,H4,I4,r4,q4⟩:=hq13;refine thn (hp pins s4 σ H4 x3 x4 old v _ I4 r3 r4 q4) λ new s5 hq14=>?_;obtain⟨x5,H5,I5,r5,q5⟩:=hq14;exact thn (hs pins s5 σ H5 x1 x2 x5 ov iv new _ I5 r1 r2 r5 q5) λ _ s6 ⟨H6,I6,q6⟩=>⟨σ,H6,I6,q6⟩
def ipI(f:Int->Int->Int):TIp:=λ x y H Q=>∃ i j,x=.int i/\y=.int j/\Q (.int (f i j)) H
theorem abY:PIp X .Add (ipI λ i j=>i+j):=by intro pins s σ H x y v u Q I r1 r2 h;obtain⟨i,j,e1,e2,q⟩:=h;subst e1;subst e2;obtain⟨t,rfl⟩:=r1;obtain⟨t',rfl⟩:=r2;exact iadd_int ⟨.int _,H,I.tok _,⟨_,rfl⟩,q⟩
end
section
variable {X:Cx}{pos:Pos}
def aad(c:TT)(tb:TS):TS:=λ D σ H=>∃ W:Nat->St->Hp->Prop,(∃ m,W m σ H)/\∀ m σ H,W m σ H ->
 c σ H λ b H1=>if b=true then ∃ N:St->Hp->Prop,(∀ σ' H',N σ' H'->∃ m',m'<m/\W m' σ' H')/\tb {D with nx:=N,ct:=N,bk:=D.nx} σ H1 else D.nx σ H1
theorem u6{c:Expr}{body:List Stmt}{tc:TT}{tb:TS}(hp:PassesOwn (model X.prog X.w) X.A X.env X.xe)(hc:PT X c tc)(hb:PSs X body tb):PS X (.While c body [] pos) (aad tc tb):=by
 intro pins s σ H D I h;obtain⟨W,⟨m0,w0⟩,turn⟩:=h;refine wpAny_While (codeAny_whileLoop (λ n s'=>∃ σ' H',Inv X pins σ' H' s'/\W n σ' H') ?_ m0 ⟨σ,H,I,w0⟩);rintro n s1 ⟨σ1,H1,I1,w1⟩;refine wpAny_passesOwn hp (thn (hc pins s1 σ1 H1 _ I1 (turn n σ1 H1 w1)) λ b s2 hq15=>?_);obtain⟨H2,I2,q2⟩:=hq15;cases b with
 | true =>
  obtain⟨N,hN,q2⟩:=q2;rw[if_pos rfl];refine wpAny_passesOwn hp (thn (hb pins s2 σ1 H2 _ I2 q2) λ f s3 q3=>?_);cases f with
  | next =>
   obtain⟨σ3,H3,I3,n3⟩:=q3;obtain⟨m',hm,w3⟩:=hN σ3 H3 n3;exact⟨m',hm,σ3,H3,I3,w3⟩
  | cont =>
   obtain⟨σ3,H3,I3,n3⟩:=q3;obtain⟨m',hm,w3⟩:=hN σ3 H3 n3;exact⟨m',hm,σ3,H3,I3,w3⟩
  | brk=>exact q3
  | ret v=>exact q3
 | false =>
  rw[if_neg Bool.false_ne_true];exact wpAny_execs_nil ⟨σ1,H2,I2,q2⟩
end
structure It where
 go:Nat->Hp->Prop
 yld:Nat->Hp->V->Hp->Prop
 stop:Nat->Hp->Prop
def iA(X:Cx)(pins:PN)(H:Hp)(b:Addr):Prop:=
 H b=none/\b≠X.env.locals/\b ∉ X.fs/\(b∈X.ex\/X.s₀.heap.objs.size<=b)/\(∀ x c,X.env.cells.lookup x=some c->c≠b)/\∀ p∈X.pn++pins,p.1≠b
theorem Inv.qo{X:Cx}{pins:PN}{σ:St}{H H':Hp}{s:Shared}{b:Addr}(I:Inv X pins σ H s)(hb:s.heap.objs.size<=b)(hn:H' b=none):iA X pins H' b:=by
 refine⟨hn,Nat.ne_of_gt (Nat.lt_of_lt_of_le I.lt hb),I.acI hb,.inr (Nat.le_trans I.sz hb),λ x c e z=>?_,λ p hp z=>?_⟩
 ·obtain⟨v,q⟩:=I.cell x c e;exact absurd (Nat.lt_of_lt_of_le q.lt (by rw[z];exact hb)) (Nat.lt_irrefl _)
 ·exact absurd (Nat.lt_of_lt_of_le (Heap.lt_size (I.pin p hp).1) (by rw[z];exact hb)) (Nat.lt_irrefl _)
structure Turn(P:Program)(w:World)(K:FG)(tg:Expr)(J:It)(fp:List Addr)(it:Addr)(tn:Nat->Heap->Prop):Prop where
 mem:it∈fp
 obj:∀ i h,tn i h->∀ b∈fp,∃ o,h.get? b=some o/\∀ v,o.data ≠ .cell v
 keep:∀ i h h',tn i h->(∀ b∈fp,∀ o,h.get? b=some o->h'.get? b=some o)->tn i h'
 item:∀ (X:Cx),X.prog=P->X.w=w->X.K=K->X.calm=true->∀ (i:Nat) (pins:PN) (s:Shared) (σ:St) (H:Hp) (E:VP),Inv X pins σ H s->(∀ b∈fp,iA X pins H b)->tn i s.heap->J.go i H ->
  wpAny (model P w) X.A (pyNext (.ref it)) (λ r s1=>∃ u,r=some u /\
   wpAny (model P w) X.A (letOwnedTupleGo tg (.ref it) u) (λ _ s2=>∃ x H',Inv X pins σ H' s2/\RelV x u/\J.yld i H x H'/\tn (i+1) s2.heap/\∀ b∈fp,H' b=none) E s1) E s
 done:∀ (X:Cx),X.prog=P->X.w=w->X.K=K->X.calm=true->∀ (i:Nat) (pins:PN) (s:Shared) (σ:St) (H:Hp) (E:VP),Inv X pins σ H s->(∀ b∈fp,iA X pins H b)->tn i s.heap->J.stop i H ->
  wpAny (model P w) X.A (pyNext (.ref it)) (λ r s1=>r=none/\Inv X pins σ H s1) E s
 self:∀ (A:Around) (i:Nat) (s:Shared) (Q:VP) (E:VP),tn i s.heap->Q (.ref it) s->wpAny (model P w) A (pyIter (.ref it)) Q E s
abbrev TI:=St->Hp->(It->Hp->Prop)->Prop
def PIE(X:Cx)(pins:PN)(σ:St)(tg:Expr)(R:It->Hp->Prop)(itv:Value)(s2:Shared):Prop:=
 ∃ (it:Addr) (fp:List Addr) (tn:Nat->Heap->Prop) (J:It) (H':Hp),itv=.ref it/\Inv X pins σ H' s2/\Turn X.prog X.w X.K tg J fp it tn/\tn 0 s2.heap/\(∀ b∈fp,iA X pins H' b)/\R J H'
def PI(X:Cx)(tg iter:Expr)(wi:TI):Prop:=
 ∀ (pins:PN) (s:Shared) (σ:St) (H:Hp) (R:It->Hp->Prop),Inv X pins σ H s->wi σ H R ->
  wpAny (model X.prog X.w) X.A (eval iter X.env) (λ v s1=>wpAny (model X.prog X.w) X.A (pyIter v) (PIE X pins σ tg R) X.xe s1) X.xe s
theorem p9{M:Model}{A:Around}{E:VP}{s:Shared}{tg:Expr}{it:Addr}{u:Value}{o:Obj}{n:String}{vs:Array Value}{Q:Unit->Shared->Prop}(ho:s.heap.get? it=some o)(hc:o.cls=.type n)(hd:o.data=.fields vs)
  (hn:["enumerate", "zip", "dict_itemiterator", "dict_reverseitemiterator", "odict_iterator", "itertools.zip_longest", "itertools.pairwise"].contains n=false)(hQ:Q () s):wpAny M A (letOwnedTupleGo tg (.ref it) u) Q E s:=by
 unfold letOwnedTupleGo;cases tg<;>first
  | exact wpAny_pure hQ
  | (cases u<;>first
    | exact wpAny_pure hQ
    | (refine wpAny_bind (wpAny_load ho ?_)
       rw[hc,hd];show wpAny M A (if (["enumerate", "zip", "dict_itemiterator", "dict_reverseitemiterator", "odict_iterator", "itertools.zip_longest", "itertools.pairwise"].contains n&&vs[0]? == some (rawInt _))=true then _ else _) Q E s;rw[if_neg (by intro h;rw[hn,Bool.false_and] at h;cases h)];exact wpAny_pure hQ))
def Itl(K:FG)(a:Addr):It:=
 ⟨λ i H=>∃ xs x,SqL K H a xs/\xs[i]? =some x,λ i H x H'=>H'=H/\∀ xs,SqL K H a xs->xs[i]? =some x,λ i H=>∃ xs,SqL K H a xs/\xs.length<=i⟩
def Itt(K:FG)(a:Addr):It:=
 ⟨λ i H=>∃ xs x,SqT K H a xs/\xs[i]? =some x,λ i H x H'=>H'=H/\∀ xs,SqT K H a xs->xs[i]? =some x,λ i H=>∃ xs,SqT K H a xs/\xs.length<=i⟩
def Itr(lo:Int)(n:Nat):It:=⟨λ i _=>i<n,λ i H x H'=>H'=H/\x=.int (lo+i),λ i _=>n<=i⟩
theorem qF{P:Program}{w:World}{K:FG}{tg:Expr}(a it:Addr):Turn P w K tg (Itl K a) [it] it (λ i h=>h.IsListIter it a i) where
 mem:=by simp
 obj:=λ i h st b hb=>by
  have e:b=it:=by simpa using hb
  subst e;obtain⟨o,e,c,d⟩:=st;exact⟨o,e,λ v z=>by rw[d] at z;cases z⟩
 keep:=λ i h h' st k=>st.at λ o e=>k it (by simp) o e
 item:=by intro X hP hw hK hc i pins s σ H E I hf st hg;subst hP hw hK;obtain⟨xs,x,hq,hx⟩:=hg;obtain⟨its,rv,p,hz⟩:=I.list hq;obtain⟨u,hu,ru⟩:=rv.get hx;obtain⟨f0,f1,f2,f3,f4,f5⟩:=hf it (by simp);refine wpAny_pyNext_list_item st p.isList (x:=u) (by simpa using hu) λ h' st' sb=>?_;have I1:Inv X pins σ H {s with heap:=h'}:=I.turned (t':=s.toks) (λ b o hb e=>(sb.2 b hb).trans e) f0 f1 f3 f4 f5;obtain⟨o,e,c,d⟩:=id st';exact⟨u,rfl,p9 (s:={s with heap:=h'}) e c d (by decide) ⟨x,H,I1,ru,⟨rfl,λ ys hy=>by rw[I.uA hy hq];exact hx⟩,st',λ b hb=>(hf b hb).1⟩⟩
 done:=by intro X hP hw hK hc i pins s σ H E I hf st hg;subst hP hw hK;obtain⟨xs,hq,hx⟩:=hg;obtain⟨its,rv,p,hz⟩:=I.list hq;obtain⟨f0,f1,f2,f3,f4,f5⟩:=hf it (by simp);have hl:=rv.length;exact wpAny_pyNext_list_end (I.ok.hd hc) st p.isList (by simp;omega) λ h' eb=>⟨rfl,I.turned (t':=s.toks) (λ b o hb e=>eb b o hb e) f0 f1 f3 f4 f5⟩
 self:=λ _ _ _ _ _ st h=>wpAny_pyIter_listiter st h
theorem qp{P:Program}{w:World}{K:FG}{tg:Expr}(a it:Addr):Turn P w K tg (Itt K a) [it] it (λ i h=>h.IsTupleIter it a i) where
 mem:=by simp
 obj:=λ i h st b hb=>by
  have e:b=it:=by simpa using hb
  subst e;obtain⟨o,e,c,d⟩:=st;exact⟨o,e,λ v z=>by rw[d] at z;cases z⟩
 keep:=λ i h h' st k=>st.at λ o e=>k it (by simp) o e
 item:=by intro X hP hw hK hc i pins s σ H E I hf st hg;subst hP hw hK;obtain⟨xs,x,hq,hx⟩:=hg;obtain⟨its,rv,p,hz⟩:=I.tuple hq;obtain⟨u,hu,ru⟩:=rv.get hx;obtain⟨f0,f1,f2,f3,f4,f5⟩:=hf it (by simp);refine wpAny_pyNext_tuple_item st (show s.heap.IsTuple a its.toArray from p) (x:=u) (by simpa using hu) λ h' st' sb=>?_;have I1:Inv X pins σ H {s with heap:=h'}:=I.turned (t':=s.toks) (λ b o hb e=>(sb.2 b hb).trans e) f0 f1 f3 f4 f5;obtain⟨o,e,c,d⟩:=id st';exact⟨u,rfl,p9 (s:={s with heap:=h'}) e c d (by decide) ⟨x,H,I1,ru,⟨rfl,λ ys hy=>by rw[I.qS hy hq];exact hx⟩,st',λ b hb=>(hf b hb).1⟩⟩
 done:=by intro X hP hw hK hc i pins s σ H E I hf st hg;subst hP hw hK;obtain⟨xs,hq,hx⟩:=hg;obtain⟨its,rv,p,hz⟩:=I.tuple hq;obtain⟨f0,f1,f2,f3,f4,f5⟩:=hf it (by simp);have hl:=rv.length;exact wpAny_pyNext_tuple_end (I.ok.hd hc) st (show s.heap.IsTuple a its.toArray from p) (by simp;omega) λ h' eb=>⟨rfl,I.turned (t':=s.toks) (λ b o hb e=>eb b o hb e) f0 f1 f3 f4 f5⟩
 self:=λ _ _ _ _ _ st h=>wpAny_pyIter_tupleiter st h
theorem pR{P:Program}{w:World}{K:FG}{tg:Expr}(it:Addr)(lo:Int)(n:Nat):Turn P w K tg (Itr lo n) [it] it (λ i h=>IsRangeIter h it (lo+(i:Nat) * 1) ((n:Int)-(i:Nat)) 1) where
 mem:=by simp
 obj:=λ i h st b hb=>by
  have e:b=it:=by simpa using hb
  subst e;exact⟨_,st,λ v z=>by have z':Data.fields _=Data.cell v:=z;cases z'⟩
 keep:=λ i h h' st k=>k it (by simp) _ st
 item:=by intro X hP hw hK hc i pins s σ H E I hf st hg;subst hP hw hK;obtain⟨f0,f1,f2,f3,f4,f5⟩:=hf it (by simp);have W:=Walks.range (prog:=X.prog) (w:=X.w) (I.ok.hd hc) it lo 1 n;refine W.item i s _ _ hg st λ v h' tk hv st' kk=>?_;obtain⟨t,rfl⟩:=hv;have I1:Inv X pins σ H {s with heap:=h',toks:=tk}:=I.turned (λ b o hb e=>kk b o (by simpa using hb) e) f0 f1 f3 f4 f5;refine⟨_,rfl,p9 (s:={s with heap:=h',toks:=tk}) (n:= "range_iterator") st' rfl rfl (by decide) ⟨.int (lo+i),H,I1,⟨t,?_⟩,⟨rfl,rfl⟩,st',λ b hb=>(hf b hb).1⟩⟩;rw[Int.mul_one]
 done:=by intro X hP hw hK hc i pins s σ H E I hf st hg;subst hP hw hK;obtain⟨f0,f1,f2,f3,f4,f5⟩:=hf it (by simp);exact wpAny_pyNext_range_end (I.ok.hd hc) st (by have:n<=i:=hg;omega) λ h' eb=>⟨rfl,I.turned (t':=s.toks) (λ b o hb e=>eb b o hb e) f0 f1 f3 f4 f5⟩
 self:=λ _ _ _ _ _ st h=>wpAny_pyIter_rangeiter st h
section
variable {X:Cx}{tg:Expr}
theorem vI{pins:PN}{σ:St}{H:Hp}{s:Shared}{R:It->Hp->Prop}{E:VP}{lo hi:Int}{t u v:Tok}{tk:Nat}(I:Inv X pins σ H s)(h1:-(2 ^ 62)<=lo)(h2:lo<2 ^ 62)(h3:-(2 ^ 62)<=hi)(h4:hi<2 ^ 62)
  (q:R (Itr lo (hi-lo).toNat) H):wpAny (model X.prog X.w) X.A (pyIter (.ref s.heap.objs.size)) (PIE X pins σ tg R) E {s with heap:=s.heap.push {cls:=.type "range",data:=.fields #[.int lo t,.int hi u,.int 1 v]},toks:=tk}:=by
 refine wpAny_pyIter_range (IsRange.new ..) (small_one h1 h2 h3 h4) ?_;have I1:Inv X pins σ H {s with heap:=s.heap.push {cls:=.type "range",data:=.fields #[.int lo t,.int hi u,.int 1 v]},toks:=tk}:=I.kept λ b o e=>Heap.get?_push_of_some _ e;refine⟨(s.heap.push {cls:=.type "range",data:=.fields #[.int lo t,.int hi u,.int 1 v]}).objs.size,[(s.heap.push {cls:=.type "range",data:=.fields #[.int lo t,.int hi u,.int 1 v]}).objs.size],_,_,H,rfl,
  I1.kept (t':=tk) λ b o e=>Heap.get?_push_of_some _ e,pR _ lo (hi-lo).toNat,?_,λ b hb=>?_,q⟩
 ·have e1:lo+((0:Nat):Int) * 1=lo:=by simp
  have e2:(((hi-lo).toNat:Nat):Int)-((0:Nat):Int)=Builtin.Range.rangeSize lo hi 1:=by rw[rangeSize_one];split<;>omega
  show IsRangeIter _ _ (lo+((0:Nat):Int) * 1) ((((hi-lo).toNat:Nat):Int)-((0:Nat):Int)) 1;rw[e1,e2];exact Heap.get?_push_size _ rfl
 ·have e:b=(s.heap.push {cls:=.type "range",data:=.fields #[.int lo t,.int hi u,.int 1 v]}).objs.size:=by simpa using hb
  subst e;exact I1.qo (Nat.le_refl _) (I1.hok.fresh (Nat.le_refl _))
def adi(ta:TA):TI:=λ σ H R=>ta σ H λ vs H1=>∃ j:Int,vs=[.int j]/\-(2 ^ 62)<=j/\j<2 ^ 62/\R (Itr 0 j.toNat) H1
theorem rj{a:Expr}{ta:TA}{p pos:Pos}(hg:Gl X "range")(hm:X.mg "range" = none)(ha:PA X [a] ta)(hs:starEach [a] X.env=[(false,eval a X.env)]:=by rfl):PI X tg (.Call (.Name "range" p) [a] [] pos) (adi ta):=by
 intro pins s σ H R I h;refine Call_ (nV I hg hm boot_range (PyProof.Rows.callWith_type1 (thn (ha pos pins s σ H _ I h) λ us s1 ⟨vs,H1,I1,r1,q1⟩=>?_) hs rfl));obtain⟨j,e,q1,q2,q⟩:=q1;subst e;cases r1 with
 | cons r rr =>
  cases rr;obtain⟨t,rfl⟩:=r;exact call_range_1 (vI I1 (by omega) (by omega) q1 q2 (by simpa using q))
def aen(wi:TI)(g:TG)(tb:TS):TS:=λ D σ H=>wi σ H λ J H1=>∃ W:Nat->Nat->St->Hp->Prop,(∃ m,W 0 m σ H1)/\∀ i m σ H,W i m σ H ->
 (J.stop i H/\D.nx σ H)\/(J.go i H/\∃ N:St->Hp->Prop,(∀ σ' H',N σ' H'->∃ m',m'<m/\W (i+1) m' σ' H')/\∀ x H',J.yld i H x H'->g x σ H' λ σ2 H2=>tb {D with nx:=N,ct:=N,bk:=D.nx} σ2 H2)
def gD(fp:List Addr)(h:Heap):PN:=fp.filterMap λ b=>(h.get? b).map λ o=>(b,o)
theorem cB{fp:List Addr}{h:Heap}{b:Addr}{o:Obj}(hb:b∈fp)(e:h.get? b=some o):(b,o)∈gD fp h:=List.mem_filterMap.mpr ⟨b,hb,by rw[e];rfl⟩
theorem sO{fp:List Addr}{h:Heap}{p:Addr×Obj}(hp:p∈gD fp h):p.1∈fp/\h.get? p.1=some p.2:=by
 obtain⟨b,hb,e⟩:=List.mem_filterMap.mp hp;cases q:h.get? b with
 | none=>rw[q] at e;cases e
 | some o =>
  rw[q] at e;have e':(b,o)=p:=Option.some.inj e;subst e';exact⟨hb,q⟩
theorem Inv.pinned{pins:PN}{σ:St}{H:Hp}{s:Shared}{fp:List Addr}(I:Inv X pins σ H s)(hf:∀ b∈fp,iA X pins H b)(ho:∀ b∈fp,∃ o,s.heap.get? b=some o/\∀ v,o.data ≠ .cell v):Inv X (pins++gD fp s.heap) σ H s:=
 I.cV λ p hp=>(List.mem_append.mp hp).elim (λ z=>I.pin p (List.mem_append_right _ z)) λ z=>by obtain⟨hb,e⟩:=sO z;obtain⟨f0,f1,f2,_⟩:=hf p.1 hb;obtain⟨o,e',d⟩:=ho p.1 hb;rw[e] at e';cases e';exact⟨e,f0,f1,f2,d⟩
theorem Inv.iE{pins pl:PN}{σ:St}{H:Hp}{s:Shared}(I:Inv X (pins++pl) σ H s):Inv X pins σ H s:=I.cV λ p hp=>I.pin p (List.mem_append_right _ (List.mem_append_left _ hp))
theorem aaK{iter:Expr}{body:List Stmt}{wi:TI}{g:TG}{tb:TS}{pos:Pos}(hp:PassesOwn (model X.prog X.w) X.A X.env X.xe)(hc:X.calm=true)(hi:PI X tg iter wi)(hg:PG X tg g)(hb:PSs X body tb)
  (hs:∀ x,foldedSetIterable iter X.env x=pure x:=by intro _;rfl):PS X (.For tg iter body [] pos) (aen wi g tb):=by
 intro pins s σ H D I h;refine wpAny_For (thn (hi pins s σ H _ I h) λ v s1 h1=>thn h1 λ itv s2 h2=>?_) hs;obtain⟨it,fp,tn,J,H2,e,I2,T,st2,f2,W,⟨m0,w0⟩,turn⟩:=h2;subst e;have stat:∀ {H':Hp},(∀ b∈fp,H' b=none)->∀ b∈fp,iA X pins H' b:=λ hn b hb=>⟨hn b hb,(f2 b hb).2⟩;refine codeAny_forLoop_any (λ n s'=>∃ i σ' H',Inv X pins σ' H' s'/\tn i s'.heap/\(∀ b∈fp,H' b=none)/\W i n σ' H') ?_ m0 ⟨0,σ,H2,I2,st2,λ b hb=>(f2 b hb).1,w0⟩;rintro n s3 ⟨i,σ3,H3,I3,st3,fr3,w3⟩;rcases turn i n σ3 H3 w3 with ⟨stop,qn⟩ | ⟨go,N,hN,step⟩
 ·refine wpAny_passesOwn hp (thn (T.done X rfl rfl rfl hc i pins s3 σ3 H3 X.xe I3 (stat fr3) st3 stop) λ r s4 ⟨hr,I4⟩=>?_);subst hr;exact wpAny_execs_nil ⟨σ3,H3,I4,qn⟩
 ·refine wpAny_passesOwn hp (thn (T.item X rfl rfl rfl hc i pins s3 σ3 H3 X.xe I3 (stat fr3) st3 go) λ r s4 ⟨u,hr,h4⟩=>?_);subst hr;refine wpAny_passesOwn hp (thn h4 λ _ s5 hq16=>?_);obtain⟨x,H5,I5,r5,y5,st5,fr5⟩:=hq16;have I5':=I5.pinned (stat fr5) (T.obj _ _ st5);refine wpAny_passesOwn hp (thn (hg _ s5 σ3 H5 x u _ I5' r5 (step x H5 y5)) λ _ s6 hq17=>?_);obtain⟨σ6,H6,I6,q6⟩:=hq17;refine wpAny_passesOwn hp (thn (hb _ s6 σ6 H6 _ I6 q6) λ f s7 q7=>?_);have again:∀ {σ7:St} {H7:Hp},Inv X (pins++gD fp s5.heap) σ7 H7 s7->N σ7 H7->∃ m,m<n/\∃ i σ' H',Inv X pins σ' H' s7/\tn i s7.heap/\(∀ b∈fp,H' b=none)/\W i m σ' H':=λ {σ7 H7} I7 n7=>by obtain⟨m',hm,w7⟩:=hN σ7 H7 n7;refine⟨m',hm,i+1,σ7,H7,I7.iE,T.keep _ _ _ st5 λ b hb o e=>(I7.pin (b,o) (List.mem_append_right _ (List.mem_append_right _ (cB hb e)))).1,λ b hb=>?_,w7⟩;obtain⟨o,e,d⟩:=T.obj _ _ st5 b hb;exact(I7.pin (b,o) (List.mem_append_right _ (List.mem_append_right _ (cB hb e)))).2.1
  cases f with
  | next=>obtain⟨σ7,H7,I7,n7⟩:=q7;exact again I7 n7
  | cont=>obtain⟨σ7,H7,I7,n7⟩:=q7;exact again I7 n7
  | brk=>obtain⟨σ7,H7,I7,q7⟩:=q7;exact⟨σ7,H7,I7.iE,q7⟩
  | ret v=>obtain⟨x7,σ7,H7,I7,r7,q7⟩:=q7;exact⟨x7,σ7,H7,I7.iE,r7,q7⟩
end
abbrev R2:=V->V->Hp->VK->Prop
def OpR(X:Cx)(f:Value->Value->Sem Value)(r:R2):Prop:=
 ∀ (pins:PN) (s:Shared) (σ:St) (H:Hp) (x y:V) (v u:Value) (Q:VK),Inv X pins σ H s->RelV x v->RelV y u->r x y H Q ->
  wpAny (model X.prog X.w) X.A (f v u) (EP X pins σ Q) X.xe s
def UnR(X:Cx)(f:Value->Sem Value)(r:V->Hp->VK->Prop):Prop:=
 ∀ (pins:PN) (s:Shared) (σ:St) (H:Hp) (x:V) (v:Value) (Q:VK),Inv X pins σ H s->RelV x v->r x H Q ->
  wpAny (model X.prog X.w) X.A (f v) (EP X pins σ Q) X.xe s
def eC(X:Cx)(f:Value)(r:List V->Hp->VK->Prop):Prop:=
 ∀ (pins:PN) (s:Shared) (σ:St) (H:Hp) (xs:List V) (us:List Value) (Q:VK),Inv X pins σ H s->Vals xs us->r xs H Q ->
  wpAny (model X.prog X.w) X.A (call f us) (EP X pins σ Q) X.xe s
def aec(X:Cx)(r:V->Hp->(Bool->Hp->Prop)->Prop):Prop:=
 ∀ (pins:PN) (s:Shared) (σ:St) (H:Hp) (x:V) (v:Value) (Q:Bool->Hp->Prop),Inv X pins σ H s->RelV x v->r x H Q ->
  wpAny (model X.prog X.w) X.A (truthy v) (TP X pins σ Q) X.xe s
def tOp(r:R2)(ta tb:TE):TE:=λ σ H Q=>ta σ H λ x H1=>tb σ H1 λ y H2=>r x y H2 Q
def tUn(r:V->Hp->VK->Prop)(ta:TE):TE:=λ σ H Q=>ta σ H λ x H1=>r x H1 Q
def rI(C:Int->Int->Prop)(g:Int->Int->V):R2:=λ x y H Q=>∃ i j,x=.int i/\y=.int j/\C i j/\Q (g i j) H
def rI0(g:Int->Int->V):R2:=λ x y H Q=>∃ i j,x=.int i/\y=.int j/\Q (g i j) H
def rU(g:Int->V):V->Hp->VK->Prop:=λ x H Q=>∃ i,x=.int i/\Q (g i) H
section
variable {X:Cx}{a b c:Expr}{ta tb tc:TE}{pos:Pos}
theorem acF(ha:PE X a ta)(hb:PE X b tb){pins:PN}{s:Shared}{σ:St}{H:Hp}{R:V->V->Hp->Prop}(I:Inv X pins σ H s)
  (h:ta σ H λ x H1=>tb σ H1 λ y H2=>R x y H2){Q:VP}{f:Value->Value->Sem Value}
  (hf:∀ v u s2 x y H2,Inv X pins σ H2 s2->RelV x v->RelV y u->R x y H2->wpAny (model X.prog X.w) X.A (f v u) Q X.xe s2) :
  wpAny (model X.prog X.w) X.A (eval a X.env) (λ v s₁=>wpAny (model X.prog X.w) X.A (eval b X.env) (λ u s₂=>wpAny (model X.prog X.w) X.A (f v u) Q X.xe s₂) X.xe s₁) X.xe s:=by
 refine thn (ha pins s σ H _ I h) λ v s1 hq18=>?_;obtain⟨x,H1,I1,r1,q1⟩:=hq18;refine thn (hb pins s1 σ H1 _ I1 q1) λ u s2 hq19=>?_;obtain⟨y,H2,I2,r2,q2⟩:=hq19;exact hf v u s2 x y H2 I2 r1 r2 q2
theorem aat{op:Operator}{r:R2}(ho:OpR X (binaryOp op) r)(ha:PE X a ta)(hb:PE X b tb):PE X (.BinOp a op b pos) (tOp r ta tb):=by intro pins s σ H Q I h;exact wpAny_BinOp (acF ha hb I h λ v u s2 x y H2 I2 rx ry q=>ho pins s2 σ H2 x y v u Q I2 rx ry q)
theorem ac9{op:UnaryOp}{r:V->Hp->VK->Prop}(ho:UnR X (unaryOp op) r)(ha:PE X a ta):PE X (.UnaryOp op a pos) (tUn r ta):=by intro pins s σ H Q I h;exact UnaryOp_ (thn (ha pins s σ H _ I h) λ v s1 ⟨x,H1,I1,r1,q1⟩=>ho pins s1 σ H1 x v Q I1 r1 q1)
theorem opI{f:Value->Value->Sem Value}{C:Int->Int->Prop}{g:Int->Int->Int}
  (rule:∀ (i j:Int) (t u:Tok) (s:Shared) (Q:VP) (E:VP),C i j->Q (.int (g i j) s.toks) {s with toks:=s.toks+1}->wpAny (model X.prog X.w) X.A (f (.int i t) (.int j u)) Q E s) :
  OpR X f (rI C λ i j=>.int (g i j)):=by
 intro pins s σ H x y v u Q I rx ry h;obtain⟨i,j,rfl,rfl,hc,q⟩:=h;obtain⟨t,rfl⟩:=rx;obtain⟨t',rfl⟩:=ry;exact rule i j t t' s _ _ hc ⟨.int (g i j),H,I.tok _,⟨_,rfl⟩,q⟩
theorem adW{f:Value->Value->Sem Value}{g:Int->Int->Int}
  (rule:∀ (i j:Int) (t u:Tok) (s:Shared) (Q:VP) (E:VP),Q (.int (g i j) s.toks) {s with toks:=s.toks+1}->wpAny (model X.prog X.w) X.A (f (.int i t) (.int j u)) Q E s) :
  OpR X f (rI0 λ i j=>.int (g i j)):=by
 intro pins s σ H x y v u Q I rx ry h;obtain⟨i,j,rfl,rfl,q⟩:=h;obtain⟨t,rfl⟩:=rx;obtain⟨t',rfl⟩:=ry;exact rule i j t t' s _ _ ⟨.int (g i j),H,I.tok _,⟨_,rfl⟩,q⟩
theorem ac1{f:Value->Value->Sem Value}{g:Int->Int->Bool}
  (rule:∀ (i j:Int) (t u:Tok) (s:Shared) (Q:VP) (E:VP),Q (.bool (g i j)) s->wpAny (model X.prog X.w) X.A (f (.int i t) (.int j u)) Q E s) :
  OpR X f (rI0 λ i j=>.bl (g i j)):=by
 intro pins s σ H x y v u Q I rx ry h;obtain⟨i,j,rfl,rfl,q⟩:=h;obtain⟨t,rfl⟩:=rx;obtain⟨t',rfl⟩:=ry;exact rule i j t t' s _ _ ⟨.bl (g i j),H,I,rfl,q⟩
def acR(i j:Int):Prop:=0<j/\j<1073741824
def abW(i j:Int):Prop:=(-(2 ^ 64)<i/\i<2 ^ 64)\/(-(2 ^ 64)<j/\j<2 ^ 64)
theorem abW.ok{i j:Int}(h:abW i j):IntMulOk i j:=by
 rcases h with ⟨h1,h2⟩ | ⟨h1,h2⟩
 ·exact .of_left (intBits_le_64 h1 h2)
 ·exact .of_right (intBits_le_64 h1 h2)
theorem zY:OpR X (binaryOp .Add) (rI0 λ i j=>.int (i+j)):=adW λ _ _ _ _ _ _ _ q=>add_int q
theorem aao:OpR X (binaryOp .Sub) (rI0 λ i j=>.int (i-j)):=adW λ _ _ _ _ _ _ _ q=>sub_int q
theorem i5:OpR X (binaryOp .Mult) (rI abW λ i j=>.int (i * j)):=opI λ _ _ _ _ _ _ _ hc q=>mul_int q hc.ok
theorem mM:OpR X (binaryOp .FloorDiv) (rI acR λ i j=>.int (i / j)):=opI λ i j _ _ _ _ _ hc q=>by have h1:(0:Int)<j:=hc.1;have h2:j<1073741824:=hc.2;exact floordiv_int (by omega) (by rw[Int.fdiv_eq_ediv_of_nonneg i (by omega)];exact q) (.inl (PyProof.noPylong_small (by omega)))
theorem fL:OpR X (binaryOp .Mod) (rI (λ _ j=>0<j) λ i j=>.int (i % j)):=opI λ i j _ _ _ _ _ hc q=>by have h1:(0:Int)<j:=hc;exact mod_int' (by omega) (by rw[Int.fmod_eq_emod_of_nonneg i (by omega)];exact q)
theorem unI{f:Value->Sem Value}{g:Int->Int}
  (rule:∀ (i:Int) (t:Tok) (s:Shared) (Q:VP) (E:VP),Q (.int (g i) s.toks) {s with toks:=s.toks+1}->wpAny (model X.prog X.w) X.A (f (.int i t)) Q E s) :
  UnR X f (rU λ i=>.int (g i)):=by
 intro pins s σ H x v Q I rx h;obtain⟨i,rfl,q⟩:=h;obtain⟨t,rfl⟩:=rx;exact rule i t s _ _ ⟨.int (g i),H,I.tok _,⟨_,rfl⟩,q⟩
theorem sV:UnR X (unaryOp .USub) (rU λ i=>.int (-i)):=unI λ _ _ _ _ _ q=>neg_int q
end
def ad0:V->V->Bool
 | .non,.non=>true | .non,.int _=>true | .int _,.non=>true | .non,.bl _=>true | .bl _,.non=>true | .non,.str _=>true | .str _,.non=>true
 | .int _,.int _=>true | .bl _,.bl _=>true | .str _,.str _=>true | .byt _,.byt _=>true
 | .int _,.str _=>true | .str _,.int _=>true | .bl _,.str _=>true | .str _,.bl _=>true
 | _,_=>false
def rEq:R2:=λ x y H Q=>ad0 x y=true/\Q (.bl (decide (x=y))) H
def rNe:R2:=λ x y H Q=>ad0 x y=true/\Q (.bl (!decide (x=y))) H
theorem sT{i j:Int}:decide (V.int i=V.int j)=(i==j):=by rw[Bool.eq_iff_iff];simp
theorem wG{i j:Bool}:decide (V.bl i=V.bl j)=(i==j):=by rw[Bool.eq_iff_iff];simp
theorem sg{i j:Str}:decide (V.str i=V.str j)=(i==j):=by rw[Bool.eq_iff_iff];simp
theorem rC{i j:Array UInt8}:decide (V.byt i=V.byt j)=(i.toList==j.toList):=by rw[Bool.eq_iff_iff];cases i;cases j;simp
section
variable {X:Cx}{a b c:Expr}{ta tb tc:TE}{pos:Pos}
theorem aX{pins:PN}{σ:St}{H:Hp}{s:Shared}{Q:VK}{k k':Bool}(I:Inv X pins σ H s)(q:Q (.bl k) H)(e:k=k'):EP X pins σ Q (.bool k') s:=by subst e;exact⟨.bl k,H,I,rfl,q⟩
theorem adv:OpR X (compareOp .Eq) rEq:=by
 intro pins s σ H x y v u Q I rx ry h;obtain⟨hs,q⟩:=h;cases x with
 | non =>
  cases rx;cases y with
  | non=>cases ry;exact PySem.EqNone.eq_none_none (aX I q (by simp))
  | bl j=>cases ry;exact PySem.EqNone.eq_none_bool (aX I q (by simp))
  | int j=>obtain⟨t',rfl⟩:=ry;exact PySem.EqNone.eq_none_int (aX I q (by simp))
  | str j=>obtain⟨t',rfl⟩:=ry;exact PySem.EqNone.eq_none_str (aX I q (by simp))
  | _=>exact absurd (show false=true from hs) Bool.false_ne_true
 | bl i =>
  cases rx;cases y with
  | non=>cases ry;exact PySem.EqNone.eq_bool_none (aX I q (by simp))
  | bl j=>cases ry;exact eq_bool (aX I q wG)
  | str j=>obtain⟨t',rfl⟩:=ry;exact PySem.EqMixed.eq_bool_str (aX I q (by simp))
  | _=>exact absurd (show false=true from hs) Bool.false_ne_true
 | int i =>
  obtain⟨t,rfl⟩:=rx;cases y with
  | non=>cases ry;exact PySem.EqNone.eq_int_none (aX I q (by simp))
  | int j=>obtain⟨t',rfl⟩:=ry;exact eq_int (aX I q sT)
  | str j=>obtain⟨t',rfl⟩:=ry;exact PySem.EqMixed.eq_int_str (aX I q (by simp))
  | _=>exact absurd (show false=true from hs) Bool.false_ne_true
 | str i =>
  obtain⟨t,rfl⟩:=rx;cases y with
  | non=>cases ry;exact PySem.EqNone.eq_str_none (aX I q (by simp))
  | bl j=>cases ry;exact PySem.EqMixed.eq_str_bool (aX I q (by simp))
  | int j=>obtain⟨t',rfl⟩:=ry;exact PySem.EqMixed.eq_str_int (aX I q (by simp))
  | str j=>obtain⟨t',rfl⟩:=ry;exact eq_str (aX I q sg)
  | _=>exact absurd (show false=true from hs) Bool.false_ne_true
 | byt i =>
  obtain⟨t,rfl⟩:=rx;cases y with
  | byt j=>obtain⟨t',rfl⟩:=ry;exact W.eq_bytes (aX I q rC)
  | _=>exact absurd (show false=true from hs) Bool.false_ne_true
 | _=>cases y<;>exact absurd (show false=true from hs) Bool.false_ne_true
theorem adg:OpR X (compareOp .NotEq) rNe:=by
 intro pins s σ H x y v u Q I rx ry h;obtain⟨hs,q⟩:=h;cases x with
 | non =>
  cases rx;cases y with
  | non=>cases ry;exact PySem.EqNone.ne_none_none (aX I q (by simp))
  | bl j=>cases ry;exact PySem.EqNone.ne_none_bool (aX I q (by simp))
  | int j=>obtain⟨t',rfl⟩:=ry;exact PySem.EqNone.ne_none_int (aX I q (by simp))
  | str j=>obtain⟨t',rfl⟩:=ry;exact PySem.EqNone.ne_none_str (aX I q (by simp))
  | _=>exact absurd (show false=true from hs) Bool.false_ne_true
 | bl i =>
  cases rx;cases y with
  | non=>cases ry;exact PySem.EqNone.ne_bool_none (aX I q (by simp))
  | bl j=>cases ry;exact ne_bool (aX I q (congrArg not wG))
  | str j=>obtain⟨t',rfl⟩:=ry;exact PySem.EqMixed.ne_bool_str (aX I q (by simp))
  | _=>exact absurd (show false=true from hs) Bool.false_ne_true
 | int i =>
  obtain⟨t,rfl⟩:=rx;cases y with
  | non=>cases ry;exact PySem.EqNone.ne_int_none (aX I q (by simp))
  | int j=>obtain⟨t',rfl⟩:=ry;exact ne_int (aX I q (congrArg not sT))
  | str j=>obtain⟨t',rfl⟩:=ry;exact PySem.EqMixed.ne_int_str (aX I q (by simp))
  | _=>exact absurd (show false=true from hs) Bool.false_ne_true
 | str i =>
  obtain⟨t,rfl⟩:=rx;cases y with
  | non=>cases ry;exact PySem.EqNone.ne_str_none (aX I q (by simp))
  | bl j=>cases ry;exact PySem.EqMixed.ne_str_bool (aX I q (by simp))
  | int j=>obtain⟨t',rfl⟩:=ry;exact PySem.EqMixed.ne_str_int (aX I q (by simp))
  | str j=>obtain⟨t',rfl⟩:=ry;exact ne_str (aX I q (congrArg not sg))
  | _=>exact absurd (show false=true from hs) Bool.false_ne_true
 | byt i =>
  obtain⟨t,rfl⟩:=rx;cases y with
  | byt j=>obtain⟨t',rfl⟩:=ry;exact W.ne_bytes (aX I q (congrArg not rC))
  | _=>exact absurd (show false=true from hs) Bool.false_ne_true
 | _=>cases y<;>exact absurd (show false=true from hs) Bool.false_ne_true
theorem tS:OpR X (compareOp .Lt) (rI0 λ i j=>.bl (decide (i<j))):=ac1 λ _ _ _ _ _ _ _ q=>lt_int q
theorem abd:OpR X (compareOp .Gt) (rI0 λ i j=>.bl (decide (j<i))):=ac1 λ _ _ _ _ _ _ _ q=>gt_int q
theorem acr:OpR X (compareOp .GtE) (rI0 λ i j=>.bl (decide (j<=i))):=ac1 λ _ _ _ _ _ _ _ q=>ge_int q
theorem qH:OpR X (compareOp .IsNot) (λ x y H Q=>y=.non/\Q (.bl (!decide (x=.non))) H):=by
 intro pins s σ H x y v u Q I rx ry h;obtain⟨rfl,q⟩:=h;cases ry;refine isnot_none_gen (aX I q ?_);cases x<;>first
  | (cases rx;rfl)
  | (obtain⟨t,rfl⟩:=rx;rfl)
theorem yh{op:CmpOp}{r:R2}(ho:OpR X (compareOp op) r)(ha:PE X a ta)(hb:PE X b tb)(hm:behindInMarks op b=false):PE X (.Compare a [op] [b] pos) (tOp r ta tb):=by intro pins s σ H Q I h;exact wpAny_Compare1 (acF ha hb I h λ v u s2 x y H2 I2 rx ry q=>ho pins s2 σ H2 x y v u Q I2 rx ry q) hm
def ab8(t:TE):TT:=λ σ H Q=>t σ H λ x H'=>∃ k,x=.bl k/\Q k H'
theorem xu{op:CmpOp}{r:R2}(ho:OpR X (compareOp op) r)(ha:PE X a ta)(hb:PE X b tb)(hm:behindInMarks op b=false):PT X (.Compare a [op] [b] pos) (ab8 (tOp r ta tb)):=by
 intro pins s σ H Q I h;refine wpAny_isTrue_Compare1 (thn (ha pins s σ H _ I h) λ v s1 ⟨x,H1,I1,r1,q1⟩=>thn (hb pins s1 σ H1 _ I1 q1) λ u s2 ⟨y,H2,I2,r2,q2⟩ =>
  thn (ho pins s2 σ H2 x y v u _ I2 r1 r2 q2) λ c s3 ⟨z,H3,I3,r3,k,e,q3⟩=>?_) hm
 subst e;cases r3;exact wpAny_truthy_bool ⟨H3,I3,q3⟩
def acw(K:FG)(x:V)(H:Hp)(k:Bool):Prop:=
 match x with
 | .non=>k=false
 | .bl b=>k=b
 | .int i=>k=(i != 0)
 | .str y=>y.length<=sizeLine/\k=((y.length:Int) != 0)
 | .byt y=>y.size<=sizeLine/\k=((y.size:Int) != 0)
 | .ref p=>(∃ xs,SqL K H p xs/\k=!xs.isEmpty)\/(∃ xs,SqT K H p xs/\k=!xs.isEmpty)\/∃ kvs,H p=some (.dK kvs)/\k=!kvs.isEmpty
 | _=>False
theorem pO{κ:Type}{kvs:List (κ×V)}{vs:List (κ×Value)}(r:KV kvs vs):(!vs.isEmpty)=!kvs.isEmpty:=by
 cases r<;>rfl
theorem jS{xs:List V}{its:List Value}(r:Vals xs its):(!its.toArray.isEmpty)=!xs.isEmpty:=by
 cases r<;>simp
theorem jx:(sizeLine:Nat)<2 ^ 63:=by rw[sizeLine_eq];decide
theorem aaO:aec X (λ x H Q=>∃ k,acw X.K x H k/\Q k H):=by
 intro pins s σ H x v Q I rx h;obtain⟨k,e,q⟩:=h;have hl:=jx;have hs:sizeLine=16777216:=sizeLine_eq;cases x with
 | non =>
  cases rx;have e':k=false:=e;subst e';exact truthy_none ⟨H,I,q⟩
 | bl b =>
  cases rx;have e':k=b:=e;subst e';exact wpAny_truthy_bool ⟨H,I,q⟩
 | int i =>
  obtain⟨t,rfl⟩:=rx;have e':k=(i != 0):=e;subst e';exact PySem.P.truthy_int ⟨H,I,q⟩
 | str y =>
  obtain⟨t,rfl⟩:=rx;obtain⟨hy,e'⟩:y.length<=sizeLine/\k=((y.length:Int) != 0):=e;subst e';exact PySem.P.truthy_str (by omega) ⟨H,I.tok _,q⟩
 | byt y =>
  obtain⟨t,rfl⟩:=rx;obtain⟨hy,e'⟩:y.size<=sizeLine/\k=((y.size:Int) != 0):=e;subst e';exact W.truthy_bytes (by omega) ⟨H,I.tok _,q⟩
 | ref p =>
  cases rx;have e':(∃ xs,SqL X.K H p xs/\k=!xs.isEmpty)\/(∃ xs,SqT X.K H p xs/\k=!xs.isEmpty)\/∃ kvs,H p=some (.dK kvs)/\k=!kvs.isEmpty:=e;rcases e' with ⟨xs,hx,e'⟩ | ⟨xs,hx,e'⟩ | ⟨kvs,hx,e'⟩
  ·subst e';obtain⟨its,r,pl,hz⟩:=I.list hx;have hlen:=r.length;exact wpAny_truthy_list pl.isList (by simp only[List.size_toArray];omega) ⟨H,I.tok _,by rw[jS r];exact q⟩
  ·subst e';obtain⟨its,r,pl,hz⟩:=I.tuple hx;have hlen:=r.length;exact truthy_tuple pl (by simp only[List.size_toArray];omega) ⟨H,I.tok _,by rw[jS r];exact q⟩
  ·subst e';obtain⟨hz,hS,vs,r,m⟩:kvs.length<=sizeLine/\(p==sysModules)=false/\∃ vs,KV kvs vs/\s.heap.DictOf (aQ X.prog X.w) p vs:=I.hok p _ hx;have hlen:kvs.length=vs.length:=Paired.length r;exact wpAny_truthy_dict hS m (by omega) ⟨H,I.tok _,by rw[pO r];exact q⟩
 | _=>exact(show False from e).elim
theorem uI(ha:PE X a ta)(he:∀ whole,isTrue a X.env whole=(do let v <- whole;standAt a.pos;holding [v] (truthy v))) :
  PT X a (λ σ H Q=>ta σ H λ x H'=>∃ k,acw X.K x H' k/\Q k H'):=by
 intro pins s σ H Q I h;exact isTrue_plain (thn (ha pins s σ H _ I h) λ v s1 ⟨x,H1,I1,r1,q1⟩=>aaO pins s1 σ H1 x v Q I1 r1 q1) (he _)
theorem pP:OpR X (binaryOp .Add) (λ x y H Q=>∃ i j,x=.str i/\y=.str j/\i.length+j.length<=sizeLine/\Q (.str (i++j)) H):=by intro pins s σ H x y v u Q I rx ry h;obtain⟨i,j,rfl,rfl,hz,q⟩:=h;obtain⟨t,rfl⟩:=rx;obtain⟨t',rfl⟩:=ry;exact add_str (λ t' tk=>⟨.str (i++j),H,I.tok _,⟨_,rfl⟩,q⟩) hz
theorem vals1{x:V}{us:List Value}(r:Vals [x] us):∃ u,us=[u]/\RelV x u:=by
 cases r with
 | cons r1 r2=>cases r2;exact⟨_,rfl,r1⟩
theorem vals2{x y:V}{us:List Value}(r:Vals [x,y] us):∃ u w',us=[u,w']/\RelV x u/\RelV y w':=by
 cases r with
 | cons r1 r2 =>
  cases r2 with
  | cons r3 r4=>cases r4;exact⟨_,_,rfl,r1,r3⟩
theorem vL:eC X (.builtin "abs") (λ xs H Q=>∃ i,xs=[.int i]/\Q (.int (if i<0 then -i else i)) H):=by intro pins s σ H xs us Q I r h;obtain⟨i,rfl,q⟩:=h;obtain⟨u,rfl,t,rfl⟩:=vals1 r;exact call_abs_int λ u tk=>⟨.int (if i<0 then -i else i),H,I.tok _,⟨_,rfl⟩,q⟩
theorem qQ(hc:X.calm=true):eC X (.builtin "min") (λ xs H Q=>∃ i j,xs=[.int i,.int j]/\Q (.int (if j<i then j else i)) H):=by
 intro pins s σ H xs us Q I r h;obtain⟨i,j,rfl,q⟩:=h;obtain⟨u,w',rfl,⟨t,rfl⟩,⟨t',rfl⟩⟩:=vals2 r;refine min_two_ints (I.ok.hd hc) λ h' tk k=>⟨_,H,I.kept k,?_,q⟩
 by_cases hj:j<i
 ·rw[if_pos hj,if_pos hj];exact⟨_,rfl⟩
 ·rw[if_neg hj,if_neg hj];exact⟨_,rfl⟩
theorem sG:eC X (.type "int") (λ xs H Q=>(∃ i,xs=[.int i]/\Q (.int i) H)\/∃ k,xs=[.bl k]/\Q (.int (if k then 1 else 0)) H):=by
 intro pins s σ H xs us Q I r h;rcases h with ⟨i,rfl,q⟩ | ⟨k,rfl,q⟩
 ·obtain⟨u,rfl,t,rfl⟩:=vals1 r;exact call_int_int ⟨.int i,H,I,⟨_,rfl⟩,q⟩
 ·obtain⟨u,rfl,r1⟩:=vals1 r;cases r1;exact call_int_bool ⟨.int (if k then 1 else 0),H,I.tok _,⟨_,rfl⟩,q⟩
def adX(K:FG)(x:V)(H:Hp)(n:Nat):Prop:=
 match x with
 | .str y=>y.length<=sizeLine/\n=y.length
 | .byt y=>y.size<=sizeLine/\n=y.size
 | .ref p=>(∃ xs,SqL K H p xs/\n=xs.length)\/∃ xs,SqT K H p xs/\n=xs.length
 | _=>False
theorem bY:eC X (.builtin "len") (λ xs H Q=>∃ x n,xs=[x]/\adX X.K x H n/\Q (.int n) H):=by
 intro pins s σ H xs us Q I r h;obtain⟨x,n,rfl,e,q⟩:=h;obtain⟨u,rfl,rx⟩:=vals1 r;have hl:=jx;have hs:sizeLine=16777216:=sizeLine_eq;cases x with
 | str y =>
  obtain⟨t,rfl⟩:=rx;obtain⟨hy,e'⟩:y.length<=sizeLine/\n=y.length:=e;subst e';exact len_str (by omega) ⟨.int _,H,I.tok _,⟨_,rfl⟩,q⟩
 | byt y =>
  obtain⟨t,rfl⟩:=rx;obtain⟨hy,e'⟩:y.size<=sizeLine/\n=y.size:=e;subst e';exact W.len_bytes (by omega) ⟨.int _,H,I.tok _,⟨_,rfl⟩,q⟩
 | ref p =>
  cases rx;have e':(∃ xs,SqL X.K H p xs/\n=xs.length)\/∃ xs,SqT X.K H p xs/\n=xs.length:=e;rcases e' with ⟨xs,hx,e'⟩ | ⟨xs,hx,e'⟩
  ·subst e';obtain⟨its,r',pl,hz⟩:=I.list hx;have hlen:=r'.length;exact Calls.call_len_list pl.isList (by simp only[List.size_toArray];omega) ⟨.int xs.length,H,I.tok _,⟨_,by simp only[List.size_toArray];rw[hlen]⟩,q⟩
  ·subst e';obtain⟨its,r',pl,hz⟩:=I.tuple hx;have hlen:=r'.length;exact len_tuple pl (by simp only[List.size_toArray];omega) ⟨.int xs.length,H,I.tok _,⟨_,by simp only[List.size_toArray];rw[hlen]⟩,q⟩
 | _=>exact(show False from e).elim
end
section
variable {prog:Program}{w:World}{A:Around}{E:VP}{s:Shared}{K:FG}{x dx C f:Addr}{mA:Str->Option Value}{name:Str}{v:Value}
end
theorem rq.some_of{v:V}{o:Option Value}(r:rq (some v) o):∃ u,o=some u/\RelV v u:=by
 cases o with
 | none=>exact(show False from r).elim
 | some u=>exact⟨u,rfl,r⟩
section
variable {P:Program}{w:World}{H H':Hp}{h h':Heap}{a C dx:Addr}{fs fs':List (Str×V)}
end
section
variable {X:Cx}{pins:PN}{σ:St}{H:Hp}{s:Shared}{a C dx:Addr}{fs:List (Str×V)}{f:Str}{v:V}{A:Around}{E:VP}
end
section
variable {X:Cx}{o e value:Expr}{f:Str}{pos pos' tpos:Pos}{ta tv:TE}
end
section
variable {X:Cx}{pins:PN}{σ:St}{H:Hp}{s:Shared}{A:Around}{E:VP}{Q:VP}{c:Value}{b:Bool}
end
structure er(k:Nat)(A:Around):Prop where
 hd:A.handled=none
 gd:A.guards=some []
 dp:A.depth+3 * k+5<recursionLimit
 un:A.units+16 * k+200<cLine
theorem er.mono{j k:Nat}{A:Around}(r:er k A)(h:j<=k):er j A:=⟨r.hd,r.gd,by have:=r.dp;omega,by have:=r.un;omega⟩
theorem er.deeper{k:Nat}{A:Around}(r:er (k+1) A)(env:Env):er k (A.deeper env):=
 ⟨r.hd,r.gd,by have:=r.dp;show A.depth+1+3 * k+5<_;omega,by have:=r.un;show A.units+3+16 * k+200<_;omega⟩
theorem er.in1{k:Nat}{A:Around}(r:er (k+1) A):er k A.in1:=
 ⟨r.hd,r.gd,by have:=r.dp;show A.depth+3 * k+5<_;omega,by have:=r.un;show A.units+1+16 * k+200<_;omega⟩
theorem er.depth{k:Nat}{A:Around}(r:er k A):A.depth<recursionLimit:=by have:=r.dp;omega
theorem er.units{k:Nat}{A:Around}(r:er k A):A.units+64<cLine:=by have:=r.un;omega
def acf:TA:=λ _ H Q=>Q [] H
def uk(ta:TE)(tr:TA):TA:=λ σ H Q=>ta σ H λ x H1=>tr σ H1 λ xs H2=>Q (x::xs) H2
section
variable {X:Cx}{e:Expr}{es:List Expr}{te:TE}{t:TA}{pos:Pos}
theorem wO:PA X [] acf:=λ _ _ _ _ H Q I h=>Calls.spliced_nil ⟨[],H,I,.nil,h⟩
theorem rg(ha:PE X e te)(hr:PA X es t)(hs:starEach (e::es) X.env=(false,eval e X.env)::starEach es X.env:=by rfl):PA X (e::es) (uk te t):=by intro pos pins s σ H Q I h;rw[hs];show wpAny _ _ (spliced ((false,eval e X.env)::backTo pos (starEach es X.env))) _ _ s;refine Calls.spliced_cons (thn (ha pins s σ H _ I h) λ u s1 hq20=>?_);obtain⟨x,H1,I1,r1,q1⟩:=hq20;exact thn (hr pos pins s1 σ H1 _ I1 q1) λ us s2 ⟨xs,H2,I2,r2,q2⟩=>⟨x::xs,H2,I2,.cons r1 r2,q2⟩
def aem(t:TA):TE:=λ σ H Q=>t σ H λ xs H1=>xs.length<=sizeLine/\∀ p,H1 p=none->Q (.ref p) (upd H1 p (.tup xs))
def ad7(t:TA):TE:=λ σ H Q=>t σ H λ xs H1=>xs.length<=sizeLine/\∀ p,H1 p=none->Q (.ref p) (upd H1 p (.lst xs))
theorem aa7{x1}(h:PA X es t):PE X (.Tuple es x1 pos) (aem t):=by intro pins s σ H Q I hq;refine wpAny_Tuple_spliced (thn (h pos pins s σ H _ I hq) λ us s1 ⟨xs,H1,I1,r,z,q⟩=>⟨by rw[<- r.length];exact z,?_⟩);have hf:H1 s1.heap.objs.size=none:=I1.hok.fresh (Nat.le_refl _);refine⟨.ref s1.heap.objs.size,upd H1 s1.heap.objs.size (.tup xs),I1.laid (t':=s1.toks) (λ b u e=>Heap.get?_push_of_some _ e) (Nat.le_refl _) ?_,rfl,q _ hf⟩;exact⟨z,us,r,vA.new _ _⟩
theorem wQ(h:PA X es t):PE X (.List es pos) (ad7 t):=by intro pins s σ H Q I hq;refine wpAny_List_spliced (thn (h pos pins s σ H _ I hq) λ us s1 ⟨xs,H1,I1,r,z,q⟩=>⟨by rw[<- r.length];exact z,?_⟩);have hf:H1 s1.heap.objs.size=none:=I1.hok.fresh (Nat.le_refl _);refine⟨.ref s1.heap.objs.size,upd H1 s1.heap.objs.size (.lst xs),I1.laid (t':=s1.toks) (λ b u e=>Heap.get?_push_of_some _ e) (Nat.le_refl _) ?_,rfl,q _ hf⟩;exact⟨z,us,0,r,Heap.get?_push_size _ rfl⟩
end
abbrev Sp:=List V->Hp->VK->XK->Prop
abbrev CXT:=List Env->Hp->Shared->XK->VP
structure acg(P:Program)(w:World)(K:FG)(mg:Str->Option Value)(base:Heap)(A:Around)(outer:List Env)(s:Shared)(H:Hp):Prop where
 frames:A.frames=some outer
 mod:Mod K mg base
 bs:∀ b o,base.get? b=some o->s.heap.get? b=some o/\H b=none
 bsz:base.objs.size<=s.heap.objs.size
 mH:s.heap.FunFrames base outer
 frf:∀ b∈frs outer,H b=none
 hok:HOk P w H s.heap
 bare:AllBare s.gens
def CE(outer:List Env)(P:Program)(w:World)(H:Hp)(s:Shared)(Q:VK)(u:Value)(s':Shared):Prop:=
 ∃ v H',s'.os=s.os/\AllBare s'.gens/\Un (frs outer) [] H H' s.heap s'.heap/\HOk P w H' s'.heap/\RelV v u/\Q v H'
def CR(CX:CXT)(outer:List Env)(P:Program)(w:World)(H:Hp)(s:Shared)(Q:VK)(E:XK)(r:Result)(s':Shared):Prop:=
 match r with
 | .ok (.ret u)=>CE outer P w H s Q u s'
 | .ok _=>False
 | .error e=>CX outer H s E e s'
structure gu(P:Program)(w:World)(K:FG)(mg:Str->Option Value)(base:Heap)(CX:CXT)(k:Nat)(f:Addr)(fd:FuncData)(ps:List Str)(sp:Sp):Prop where
 len:∀ vs H Q E,sp vs H Q E->vs.length=ps.length
 run:∀ (A:Around) (outer:List Env) (s:Shared) (H:Hp) (args:Args) (us:List Value) (vs:List V) (Q:VK) (E:XK),er k A->acg P w K mg base A outer s H->BindsTo s fd args (ps.zip us)->Vals vs us->sp vs H Q E ->
  codeAny (model P w) A (.call (.ref f) args) (CR CX outer P w H s Q E) s
section
variable {X:Cx}{pins:PN}{σ:St}{H:Hp}{s s':Shared}
theorem Inv.aek(I:Inv X pins σ H s):acg X.prog X.w X.K X.mg X.base X.A X.stack s H:=
 ⟨I.ok.frames,I.ok.mod,I.bs,Nat.le_trans I.ok.bsz I.sz,I.stack,I.kg,I.hok,I.bare⟩
theorem Inv.after{Q:VK}{u:Value}(I:Inv X pins σ H s)(h:CE X.stack X.prog X.w H s Q u s'):EP X pins σ Q u s':=by obtain⟨v,H',os,bare,un,hok,r,q⟩:=h;obtain⟨hh,g,d,t,os'⟩:=s';obtain rfl:os'=s.os:=os;exact⟨v,H',I.call (h':=hh) (g':=g) (d':=d) (t':=t) (ch:=[]) un hok bare (λ b z=>absurd z (by simp)),r,q⟩
end
def acJ(sp:Sp)(dvs:List V)(E:XK)(t:TA):TE:=λ σ H Q=>t σ H λ vs H1=>sp (vs++dvs) H1 Q E
def Binds(K:FG)(fd:FuncData)(ps:List Str)(ds:List Value):Prop:=
 ∀ (s:Shared) (us:List Value),K.In s.heap->(us++ds).length=ps.length->BindsTo s fd ⟨us,[]⟩ (ps.zip (us++ds))
theorem Binds.all{K:FG}{fd:FuncData}{ps:List Str}(h:∀ us:List Value,us.length=ps.length->bindArgs fd ⟨us,[]⟩=pure (ps.zip us)):Binds K fd ps []:=λ s us _ hl=>by rw[List.append_nil] at hl ⊢;exact .of_eq (h us hl)
def Passes(CX:CXT)(X:Cx)(E:XK):Prop:=∀ (pins:PN) (σ:St) (H:Hp) (s:Shared) (e:Value) (s':Shared),Inv X pins σ H s->CX X.stack H s E e s'->X.xe e s'
section
variable {X:Cx}{CX:CXT}{k:Nat}{f C:Addr}{fd:FuncData}{ps:List Str}{sp:Sp}{dvs:List V}{ds:List Value}{E:XK}{x m:Str}{p pos apos:Pos}{e o:Expr}{es:List Expr}{ta:TE}{t:TA}
theorem abP{pins:PN}{σ:St}{H:Hp}{s:Shared}{Q:VK}{us:List Value}{vs:List V}(F:gu X.prog X.w X.K X.mg X.base CX k f fd ps sp)(hr:er k X.A)(hb:Binds X.K fd ps ds)(hd:Vals dvs ds)(hx:Passes CX X E)
  (I:Inv X pins σ H s)(r:Vals vs us)(h:sp (vs++dvs) H Q E):wpAny (model X.prog X.w) X.A (call (.ref f) us) (EP X pins σ Q) X.xe s:=by
 have r2:Vals (vs++dvs) (us++ds):=r.append hd;have hl:(us++ds).length=ps.length:=by rw[<- r2.length];exact F.len _ _ _ _ h
 refine wpAny_call (codeAny_mono (F.run X.A X.stack s H ⟨us,[]⟩ (us++ds) (vs++dvs) Q E hr I.aek (hb s us I.kIn hl) r2 h) λ r s' hq=>?_);cases r with
 | error e=>exact hx pins σ H s e s' I hq
 | ok fl =>
  cases fl with
  | ret u=>exact I.after hq
  | next=>exact False.elim hq
  | brk=>exact False.elim hq
  | cont=>exact False.elim hq
theorem yX(F:gu X.prog X.w X.K X.mg X.base CX k f fd ps sp)(hr:er k X.A)(hg:Gl X x)(hm:X.mg x=some (.ref f))(hk:W.keepIn X.K (.ref f)=true)(hb:Binds X.K fd ps ds)(hd:Vals dvs ds)(hx:Passes CX X E)
  (ha:PA X (e::es) t)(hdb:ND x:=by decide)(he:starEach (e::es) X.env=(false,eval e X.env)::starEach es X.env:=by rfl)(hpl:(backTo pos (starEach es X.env)).any (·.1)=false:=by rfl) :
  PE X (.Call (.Name x p) (e::es) [] pos) (acJ sp dvs E t):=by
 intro pins s σ H Q I h;refine wpAny_Call_Name_kw (xr I hg hm ?_ hdb);refine W.callWith_K (h₀:=X.base) I.ok.mod.kin hk (thn (ha pos pins s σ H _ I h) λ us s1 ⟨vs,H1,I1,r,q⟩=>⟨I1.kIn,?_⟩) he hpl;exact abP F hr hb hd hx I1 r q
end
def PK(X:Cx)(kws:List Keyword)(t:TA):Prop:=
 ∀ (pos:Pos) (pins:PN) (s:Shared) (σ:St) (H:Hp) (Q:List V->Hp->Prop),Inv X pins σ H s->t σ H Q->wpAny (model X.prog X.w) X.A (evalAll ((backToKw pos (keywordEach kws X.env)).map (·.2))) (AP X pins σ Q) X.xe s
section
variable {X:Cx}{CX:CXT}{k:Nat}{f C:Addr}{fd:FuncData}{ps ks:List Str}{sp:Sp}{E:XK}{x m:Str}{p pos apos kpos:Pos}{e o:Expr}{es:List Expr}{kws:List Keyword}{te ta:TE}{t tk:TA}{nm:Option Str}
theorem ab5:PK X [] acf:=λ _ _ _ _ H Q I h=>wpAny_evalAll_nil ⟨[],H,I,.nil,h⟩
theorem sM(ha:PE X e te)(hr:PK X kws t):PK X (⟨nm,e,kpos⟩::kws) (uk te t):=by intro pos pins s σ H Q I h;show wpAny _ _ (evalAll ((do let v <- eval e X.env;standAt pos;pure v)::(backToKw pos (keywordEach kws X.env)).map (·.2))) _ _ s;refine wpAny_evalAll_cons (wpAny_bind (thn (ha pins s σ H _ I h) λ u s1 ⟨x,H1,I1,r1,q1⟩=>wpAny_bind (wpAny_standAt (wpAny_pure ?_))));exact thn (hr pos pins s1 σ H1 _ I1 q1) λ us s2 ⟨xs,H2,I2,r2,q2⟩=>⟨x::xs,H2,I2,.cons r1 r2,q2⟩
variable {g:List Value->List Value->List Value}{gV:List V->List V->List V}
end
structure bA(N P:List Str)(sc:Scope):Prop where
 kind:sc.kind=.function
 co:sc.isCoroutine=false
 gen:sc.isGenerator=false
 nd:N.Nodup
 pre:N.take P.length=P
 par:∀ x∈P,sc.names.lookup x=some .local\/sc.names.lookup x=some .cell
 nofree:∀ y∈sc.names,y.2 ≠ .free
theorem mh{kindOf:Str->Option NameKind}{x:Str}:∀ {binds:List (Str×Value)} {m:Str->Option Value},(∀ v,(x,v) ∉ binds)->bindL kindOf binds m x=m x
 | [],_,_=>rfl
 | (n,v)::r,m,h=>by
  unfold bindL;rw[mh λ w hw=>h w (List.mem_cons_of_mem _ hw)]
  split
  ·have:x≠n:=by rintro rfl;exact h v List.mem_cons_self
   simp[this]
  ·rfl
theorem md{kindOf:Str->Option NameKind}{x:Str}:∀ {binds:List (Str×Value)} {m:Str->Option Value},(∀ v,(x,v) ∉ binds)->bindC kindOf binds m x=m x
 | [],_,_=>rfl
 | (n,v)::r,m,h=>by
  unfold bindC;rw[md λ w hw=>h w (List.mem_cons_of_mem _ hw)]
  split
  ·rfl
  ·have:x≠n:=by rintro rfl;exact h v List.mem_cons_self
   simp[this]
theorem mE{kindOf:Str->Option NameKind}{x:Str}{v:Value}:∀ {P:List Str} {vs:List Value} {i:Nat} {m:Str->Option Value},P.Nodup->P[i]? =some x->vs[i]? =some v->kindOf x=some .local ->
  bindL kindOf (P.zip vs) m x=some v
 | [],_,_,_,_,h,_,_=>by simp at h
 | _::_,[],_,_,_,_,h,_=>by simp at h
 | p::P,w::vs,0,m,nd,h1,h2,hk=>by simp at h1 h2;subst h1;subst h2;show bindL kindOf ((p,w)::P.zip vs) m p=_;unfold bindL;rw[mh λ v hv=>(List.nodup_cons.mp nd).1 (List.of_mem_zip hv).1,if_pos hk];simp
 | p::P,w::vs,i+1,m,nd,h1,h2,hk=>by show bindL kindOf ((p,w)::P.zip vs) m x=_;unfold bindL;exact mE (i:=i) (List.nodup_cons.mp nd).2 (by simpa using h1) (by simpa using h2) hk
theorem mr{kindOf:Str->Option NameKind}{x:Str}{v:Value}:∀ {P:List Str} {vs:List Value} {i:Nat} {m:Str->Option Value},P.Nodup->P[i]? =some x->vs[i]? =some v->kindOf x≠some .local ->
  bindC kindOf (P.zip vs) m x=some v
 | [],_,_,_,_,h,_,_=>by simp at h
 | _::_,[],_,_,_,_,h,_=>by simp at h
 | p::P,w::vs,0,m,nd,h1,h2,hk=>by simp at h1 h2;subst h1;subst h2;show bindC kindOf ((p,w)::P.zip vs) m p=_;unfold bindC;rw[md λ v hv=>(List.nodup_cons.mp nd).1 (List.of_mem_zip hv).1,if_neg hk];simp
 | p::P,w::vs,i+1,m,nd,h1,h2,hk=>by show bindC kindOf ((p,w)::P.zip vs) m x=_;unfold bindC;exact mr (i:=i) (List.nodup_cons.mp nd).2 (by simpa using h1) (by simpa using h2) hk
def start(N:List Str)(vs:List V):St:=vs.map some++List.replicate (N.length-vs.length) none
def wD(CX:CXT)(P:Program)(w:World)(K:FG)(mg:Str->Option Value)(base:Heap)(N:List Str)(qual:Str)(scope:Scope)(f:Addr)(cd:Value)(A:Around)(outer:List Env)(s:Shared)(H:Hp)(E:XK):Cx where
 prog:=P
 w:=w
 K:=K
 mg:=mg
 base:=base
 A:=A.deeper (envOfC qual scope s.heap.objs.size f cd)
 N:=N
 s₀:=s
 H₀:=H
 env:=envOfC qual scope s.heap.objs.size f cd
 outer:=outer
 stack:=envOfC qual scope s.heap.objs.size f cd::outer
 ex:=[]
 calm:=true
 fn:=λ _=>true
 pn:=[]
 xe:=λ e s'=>wpAny (model P w) (A.deeper (envOfC qual scope s.heap.objs.size f cd)) (leaving (envOfC qual scope s.heap.objs.size f cd) e) (λ _ s''=>CX outer H s E e s'') (λ e' s''=>CX outer H s E e' s'') s'
theorem pd{sc:Scope}{n:Nat}{x:Str}(h:sc.names.lookup x=some .cell):∃ c,(cellsFrom n sc.names []).lookup x=some c:=by have q:=W.cellsFrom_some sc.names n [] (.inl h);exact Option.isSome_iff_exists.mp q
theorem tH{CX:CXT}{P:Program}{w:World}{K:FG}{mg:Str->Option Value}{base:Heap}{N ps:List Str}{qual:Str}{scope:Scope}{f:Addr}{cd:Value}{A:Around}{outer:List Env}{s s1:Shared}{H:Hp}{E:XK}{us:List Value}{vs:List V}
  (S:bA N ps scope)(hd:A.handled=none)(e0:acg P w K mg base A outer s H)(hl:vs.length=ps.length)(r:Vals vs us)
  (x:InCallC s s.heap.objs.size (bindL (envOfC qual scope s.heap.objs.size f cd).kindOf (ps.zip us) λ _=>none) (cellsFrom (s.heap.objs.size+1) scope.names []) (bindC (envOfC qual scope s.heap.objs.size f cd).kindOf (ps.zip us) λ _=>none) s1) :
  Inv (wD CX P w K mg base N qual scope f cd A outer s H E) [] (start N vs) H s1:=by
 have hpl:ps.length<=N.length:=by have:=congrArg List.length S.pre;rw[List.length_take] at this;omega
 obtain⟨h1,tk,rfl,hk⟩:=x.done;have noA:∀ b:Addr,b ∉ (wD CX P w K mg base N qual scope f cd A outer s H E).ex:=λ b z=>absurd (show b∈([]:List Addr) from z) (by simp);refine⟨⟨e0.mod,S.kind,rfl,rfl,Nat.le_refl _,λ y z c h1 h2=>?_,λ y hy=>?_,λ y c _ h=>?_,λ _=>hd,Around.frames_deeper e0.frames,.inr ⟨rfl,rfl⟩,λ b z=>absurd z (noA b),e0.bs,e0.bsz,λ b _ _=>noA b,λ b z=>absurd z (noA b),e0.mH,e0.frf⟩,
  rfl,e0.bare,Un.kept hk,⟨_,x.toInCall.ns,λ i y v h1 h2 h3=>?_⟩,λ y c h=>⟨_,x.cell y c h⟩,e0.hok.fresh (Nat.le_refl _),λ y c h=>?_,λ p hp=>absurd (show p∈([]:PN) from hp) (by simp),e0.hok.kept hk,?_⟩
 ·exact name_of_addr x.apart (PySem.mem_of_lookup h1) (PySem.mem_of_lookup h2)
 ·have hy:scope.names.lookup y=some .cell\/scope.names.lookup y=some .free:=hy;rcases hy with hy | hy
  ·exact pd hy
  ·exact absurd rfl (S.nofree _ (PySem.mem_of_lookup hy))
 ·exact Nat.le_of_lt (x.above y c (PySem.mem_of_lookup h))
 ·have hi:i<vs.length:=by
   unfold start at h2
   by_cases hi:i<vs.length
   ·exact hi
   ·rw[List.getElem?_append_right (by simpa using hi)] at h2;rw[List.getElem?_replicate] at h2
    split at h2<;>cases h2
  have ha:vs[i]? =some v:=by
   unfold start at h2;rw[List.getElem?_append_left (by simpa using hi),List.getElem?_map] at h2;cases e:vs[i]? with
   | none=>rw[e] at h2;cases h2
   | some a=>rw[e] at h2;cases h2;rfl
  obtain⟨u,hu,rv⟩:=r.get ha;have hp:ps[i]? =some y:=by rw[<- S.pre,List.getElem?_take_of_lt (by omega)];exact h1
  have ndP:ps.Nodup:=by rw[<- S.pre];exact S.nd.sublist (List.take_sublist _ _)
  refine⟨u,rv,?_⟩;rcases S.par y (List.mem_of_getElem? hp) with k | k
  ·exact .inl ⟨k,mE ndP hp hu k⟩
  ·obtain⟨c,e⟩:=pd (n:=s.heap.objs.size+1) k;refine .inr ⟨.inl k,c,e,?_⟩;have q:=x.cell y c e;rw[mr ndP hp hu (by show scope.names.lookup y≠_;rw[k];decide)] at q;exact q
 ·exact e0.hok.fresh (Nat.le_of_lt (x.above y c (PySem.mem_of_lookup h)))
 ·unfold start;show _=N.length;rw[List.length_append,List.length_map,List.length_replicate];omega
theorem zV{CX:CXT}{P:Program}{w:World}{K:FG}{mg:Str->Option Value}{base:Heap}{k:Nat}{f:Addr}{name qual:Str}{params:Arguments}{body:List Stmt}{scope:Scope}{dV kV doc pm cdv ct oc:Value}{an od:Option Addr}
  {osl:Array (Option Value)}{N ps:List Str}{sp:Sp}(lk:K.lookup f=some ⟨oc,od,.func (W.fnOf name qual params body scope dV kV doc pm an cdv ct),osl⟩)(hcd:W.codeIn K cdv qual=true)(S:bA N ps scope)
  (len:∀ vs H Q E,sp vs H Q E->vs.length=ps.length)
  (hbody:∀ (A:Around) (outer:List Env) (s:Shared) (H:Hp) (vs:List V) (Q:VK) (E:XK),er k (A.deeper (envOfC qual scope s.heap.objs.size f cdv))->sp vs H Q E ->
   ∃ t,PSs (wD CX P w K mg base N qual scope f cdv A outer s H E) body t/\t {nx:=λ _ H'=>Q .non H',rt:=Q} (start N vs) H) :
  gu P w K mg base CX (k+1) f (W.fnOf name qual params body scope dV kV doc pm an cdv ct) ps sp:=by
 refine⟨len,λ A outer s H args us vs Q E hr e0 hb r hsp=>?_⟩;have hl:=len _ _ _ _ hsp;have KX:K.In s.heap:=e0.mod.kin.keeps λ b o e=>(e0.bs b o e).1;have lim:s.heap.NoLimit:=e0.mod.nolimit.keeps λ b o e=>(e0.bs b o e).1;have hkind:∀ y∈ps.zip us,scope.names.lookup y.1=some .local\/(scope.names.lookup y.1=some .cell/\((cellsFrom (s.heap.objs.size+1) scope.names []).lookup y.1).isSome=true):=λ⟨n,v⟩ hy=>by
  rcases S.par n (List.of_mem_zip hy).1 with q | q
  ·exact .inl q
  ·exact .inr ⟨q,W.cellsFrom_some _ _ _ (.inl q)⟩
 refine codeAny_call_function hr.depth (KX _ _ lk) rfl S.co S.gen rfl (W.codeRec_of KX hcd) (hb _ _ _ _ ?_);refine wpAny_newFunctionEnv_cells S.kind hkind λ env he s1 x=>?_;subst he;refine⟨lim.keeps x.toInCall.keep,codeAny_func ?_⟩;obtain⟨t,ht,hq⟩:=hbody A outer s H vs Q E (hr.deeper _) hsp;have I:Inv (wD CX P w K mg base N qual scope f cdv A outer s H E) [] (start N vs) H s1:=tH S hr.hd e0 hl r x;refine wpAny_mono (ht [] s1 (start N vs) H _ I hq) (λ fl s' hs=>?_) λ e s' hs=>hs;have fin:∀ {σ':St} {H':Hp} {v:V} {u:Value},Inv (wD CX P w K mg base N qual scope f cdv A outer s H E) [] σ' H' s'->RelV v u->Q v H'->CE outer P w H s Q u s':=
  λ {σ' H' v u} J rv q=>⟨v,H',J.os,J.bare,J.base,J.hok,rv,q⟩
 cases fl with
 | ret u =>
  obtain⟨v,σ',H',J,rv,q⟩:=hs;exact fin J rv q
 | next =>
  obtain⟨σ',H',J,q⟩:=hs;exact fin (v:=V.non) (u:=Value.none) J rfl q
 | brk =>
  obtain⟨_,_,_,q⟩:=hs;exact False.elim q
 | cont =>
  obtain⟨_,_,_,q⟩:=hs;exact False.elim q
section
variable {X:Cx}{x:Str}{p pos:Pos}{e:Expr}{es:List Expr}{t:TA}{id T:String}{r:List V->Hp->VK->Prop}
def tCB(r:List V->Hp->VK->Prop)(t:TA):TE:=λ σ H Q=>t σ H λ vs H1=>r vs H1 Q
theorem uF(hc:eC X (.builtin id) r)(hg:Gl X x)(hm:X.mg x=none)(hv:bootBuiltins x=some (.builtin id))(ha:PA X (e::es) t)(hn:x ≠ "__name__":= by decide)(hdb:ND x:=by decide)
  (he:starEach (e::es) X.env=(false,eval e X.env)::starEach es X.env:=by rfl)(hpl:(backTo pos (starEach es X.env)).any (·.1)=false:=by rfl):PE X (.Call (.Name x p) (e::es) [] pos) (tCB r t):=by
 intro pins s σ H Q I h;refine wpAny_Call_Name_kw (nV I hg hm hv ?_ hn hdb);exact PyProof.Rows.callWith_builtin1 (thn (ha pos pins s σ H _ I h) λ us s1 ⟨vs,H1,I1,r1,q1⟩=>hc pins s1 σ H1 vs us Q I1 r1 q1) he hpl
theorem rO(hc:eC X (.type T) r)(hg:Gl X x)(hm:X.mg x=none)(hv:bootBuiltins x=some (.type T))(ha:PA X (e::es) t)(hn:x ≠ "__name__":= by decide)(hdb:ND x:=by decide)
  (he:starEach (e::es) X.env=(false,eval e X.env)::starEach es X.env:=by rfl)(hpl:(backTo pos (starEach es X.env)).any (·.1)=false:=by rfl):PE X (.Call (.Name x p) (e::es) [] pos) (tCB r t):=by
 intro pins s σ H Q I h;refine wpAny_Call_Name_kw (nV I hg hm hv ?_ hn hdb);exact PyProof.Rows.callWith_type1 (thn (ha pos pins s σ H _ I h) λ us s1 ⟨vs,H1,I1,r1,q1⟩=>hc pins s1 σ H1 vs us Q I1 r1 q1) he hpl
end
end L2
namespace HT
open PySem PyProof.Rows
section
open PySem.SeqAt
open PySem.AutoSeq1 (wpAny_loadPart')
open PySem.MeetsSeq PySem.MeetsSeq2 PySem.MeetsSeq3
end
section
variable {prog:Program}{w:World}{A:Around}{E:VP}{s:Shared}
theorem zc{t b:Addr}{vs ws:List Value}{Q:VP}(ht:IsTup s.heap t vs.toArray)(hb:IsTup s.heap b ws.toArray)(hv:vs≠[])
  (h1:ws=[]->Q (.ref t) s)(h2:ws≠[]->Q (.ref s.heap.objs.size) {s with heap:=s.heap.push {cls:=.type "tuple",data:=.seq (vs++ws).toArray}})
  (hsz:vs.length+ws.length<=sizeLine):wpAny (model prog w) A (binaryOp .Add (.ref t) (.ref b)) Q E s:=by
 obtain⟨⟨cls,dd,data,sl⟩,ho,hc,n,hd⟩:=id ht;obtain⟨⟨cls2,dd2,data2,sl2⟩,ho2,hc2,n2,hd2⟩:=id hb;simp only at hc hd hc2 hd2;subst hc hd hc2 hd2;have e:vs.toArray++ws.toArray=(vs++ws).toArray:=by simp
 by_cases hw:ws=[]
 ·exact concat_meets ⟨_,ho,rfl⟩ ⟨_,ho2,rfl⟩ noFill_tuple_add seq_tuple_add PySem.F.slot_tuple_add PySem.F.entry_tuple_add (PySem.F.args_tuple_add_2 _ _)
   (tuple_addW1 t b vs.toArray ws.toArray n n2 dd dd2 sl sl2 (by simpa using hv) (by simp[hw])) ⟨ho,ho2,h1 hw⟩
 ·refine concat_meets ⟨_,ho,rfl⟩ ⟨_,ho2,rfl⟩ noFill_tuple_add seq_tuple_add PySem.F.slot_tuple_add PySem.F.entry_tuple_add (PySem.F.args_tuple_add_2 _ _)
   (tuple_addW2 t b vs.toArray ws.toArray n n2 dd dd2 sl sl2 (by simpa using hv) (by simpa using hw) (by rw[List.size_toArray,List.size_toArray];exact hsz)) ⟨ho,ho2,?_⟩
  rw[e];exact h2 hw
def sIx(n d:Nat):Option Int->Nat
 | none=>d
 | some v=>if v<0 then (v+(n:Int)).toNat else min v.toNat n
theorem abX(n d:Nat)(hd:d<=n)(o:Option Int):sIx n d o<=n:=by
 cases o with
 | none=>exact hd
 | some v =>
  show(if v<0 then (v+(n:Int)).toNat else min v.toNat n)<=n
  by_cases hv:v<0
  ·rw[if_pos hv];omega
  ·rw[if_neg hv];exact Nat.min_le_right _ _
theorem tR(v:Int)(n d:Nat):(if v<0 then max (v+(n:Int)) 0 else min v (n:Int))=((sIx n d (some v):Nat):Int):=by
 show(if v<0 then max (v+(n:Int)) 0 else min v (n:Int))=(((if v<0 then (v+(n:Int)).toNat else min v.toNat n):Nat):Int)
 by_cases hv:v<0
 ·simp only[if_pos hv];omega
 ·simp only[if_neg hv];omega
theorem pB(lo hi:Option Int)(n:Nat):Builtin.Slice.sliceAdjust lo hi 1 (n:Int)=(((sIx n 0 lo:Nat):Int),((sIx n n hi:Nat):Int)):=by
 have h1:¬ ((1:Int)<0):=by omega
 unfold Builtin.Slice.sliceAdjust;simp only[h1,if_false];refine Prod.ext ?_ ?_
 ·cases lo with
  | none=>rfl
  | some v=>exact tR v n 0
 ·cases hi with
  | none=>rfl
  | some v=>exact tR v n n
theorem pV(i j:Nat):Builtin.Slice.slicePlaces (i:Int) (j:Int) 1=j-i:=by
 unfold Builtin.Slice.slicePlaces;have h1:(1:Int) > 0:=by omega
 simp only[h1,if_true,Int.ediv_one]
 split<;>omega
theorem jN{v:Value}{o:Option Int}{Q:Option Int->Shared->Prop}(p:IsPart v o)(h:Q o s):wpAny (model prog w) A (Builtin.Slice.slicePartIndex v) Q E s:=by
 cases p with
 | none=>exact slicePart_none h
 | int i t=>exact slicePart_int h
theorem iw{sl:Addr}{vl vu:Value}{lo hi:Option Int}{n:Nat}{Q:Int×Int×Nat->Shared->Prop}(hs:s.heap.IsSliceOf sl vl vu .none)(pl:IsPart vl lo)(pu:IsPart vu hi)
  (h:Q (((sIx n 0 lo:Nat):Int),1,sIx n n hi-sIx n 0 lo) s):wpAny (model prog w) A (Builtin.Slice.sliceApplied (.ref sl) (pure (n:Int))) Q E s:=by
 obtain⟨os,hos,hcs,hds⟩:=id hs;unfold Builtin.Slice.sliceApplied Builtin.Slice.sliceFields;refine wpAny_bind (wpAny_bind (wpAny_field hos hds (x:=vl) rfl (wpAny_bind (wpAny_field hos hds (x:=vu) rfl (wpAny_bind (wpAny_field hos hds (x:=.none) rfl (wpAny_pure ?_)))))));refine wpAny_bind (slicePart_none ?_);show wpAny _ _ (if ((1:Int)==0)=true then _ else _) _ _ s;rw[if_neg (by decide)];refine wpAny_bind (jN pl (wpAny_bind (jN pu (wpAny_bind (wpAny_pure ?_)))));show wpAny _ _ (match Builtin.Slice.sliceAdjust lo hi 1 (n:Int) with | (lo,hi)=>pure (lo,(1:Int),Builtin.Slice.slicePlaces lo hi 1)) _ _ s
 rw[pB lo hi n];show wpAny _ _ (pure (((sIx n 0 lo:Nat):Int),(1:Int),Builtin.Slice.slicePlaces ((sIx n 0 lo:Nat):Int) ((sIx n n hi:Nat):Int) 1)) _ _ s;rw[pV];exact wpAny_pure h
theorem uB(xs:Array Value)(i k:Nat):((List.range k).filterMap λ(m:Nat)=>xs[((i:Int)+(m:Int) * 1).toNat]?).toArray=((xs.toList.drop i).take k).toArray:=by
 have e:(λ(m:Nat)=>xs[((i:Int)+(m:Int) * 1).toNat]?)=λ m=>xs[i+m]?:=by
  funext m;have:((i:Int)+(m:Int) * 1).toNat=i+m:=by omega
  rw[this]
 rw[e];have:=pick_run xs i k;rw[List.filterMap_map] at this;have e2:((λ x=>xs[x]?) ∘ λ x=>i+x)=λ m=>xs[i+m]?:=rfl;rw[e2] at this;rw[this]
theorem g6{t sl:Addr}{items:Array Value}{vl vu:Value}{lo hi:Option Int}{Q:VP}(ht:IsTup s.heap t items)(hs:s.heap.IsSliceOf sl vl vu .none)(pl:IsPart vl lo)(pu:IsPart vu hi)
  (hw:¬ (sIx items.size 0 lo=0/\sIx items.size items.size hi=items.size))
  (h:Q (.ref s.heap.objs.size) {s with heap:=s.heap.push {cls:=.type "tuple",data:=.seq ((items.toList.drop (sIx items.size 0 lo)).take (sIx items.size items.size hi-sIx items.size 0 lo)).toArray}})
  (hsz:items.size<=sizeLine):wpAny (model prog w) A (getItem (.ref t) (.ref sl)) Q E s:=by
 have htake:sizeOk (.seq ((items.toList.drop (sIx items.size 0 lo)).take (sIx items.size items.size hi-sIx items.size 0 lo)).toArray):=by show((items.toList.drop (sIx items.size 0 lo)).take (sIx items.size items.size hi-sIx items.size 0 lo)).toArray.size<=sizeLine;rw[List.size_toArray,List.length_take,List.length_drop,Array.length_toList];omega
 have hj:sIx items.size items.size hi<=items.size:=abX _ _ (Nat.le_refl _) hi;obtain⟨os,hos,hcs,hds⟩:=id hs;have hTs:s.TypeIs (.ref sl) "slice":= ⟨os,hos,hcs⟩;unfold getItem
 try with_reducible refine wpAny_holding ?_
 first | refine wpAny_bind (wpAny_pure ?_) | skip
 refine wpAny_bind (wpAny_sequenceKey ht.typeIs (by decide) ?_);refine wpAny_bind (wpAny_callSpecial?_slot (name:=Str.ofString "__getitem__") ht.typeIs PyProof.Rows.slot_tuple_getitem
  (wpAny_call_entry PyProof.Rows.slot_tuple_getitem ht.typeIs entry_tuple_getitem ?_ (args_tuple_getitem _ _)))
 show wpAny _ _ (Builtin.Tuple.tupleItemsOf (.ref t) >>= _) _ _ s;refine wpAny_bind (tupleItemsOf_ ht ?_);refine wpAny_bind (wpAny_typeOf hTs ?_);rw[if_pos (by decide)];refine wpAny_bind (iw hs pl pu ?_);have hno:¬ ((((sIx items.size 0 lo:Nat):Int)==0&&(1:Int)==1&&(sIx items.size items.size hi-sIx items.size 0 lo)==items.size)=true):=by intro q;rw[Bool.and_eq_true,Bool.and_eq_true] at q;have q1:((sIx items.size 0 lo:Nat):Int)=0:=eq_of_beq q.1.1;have q2:sIx items.size items.size hi-sIx items.size 0 lo=items.size:=eq_of_beq q.2;exact hw ⟨by omega,by omega⟩
 show wpAny _ _ (if (((sIx items.size 0 lo:Nat):Int)==0&&(1:Int)==1&&(sIx items.size items.size hi-sIx items.size 0 lo)==items.size)=true then _ else _) _ _ s;rw[if_neg hno,uB]
 first
  | exact wpAny_bind (m:=Builtin.Tuple.tupleExact _) (wpAny_newObj_type (wpAny_pure ⟨_,rfl,wpAny_pure h⟩) htake)
  | exact wpAny_bind (m:=Builtin.Tuple.tupleExact _) (wpAny_newObj_type (wpAny_bind (wpAny_pure (wpAny_pure ⟨_,rfl,wpAny_pure h⟩))) htake)
  | exact wpAny_bind (wpAny_bind (m:=Builtin.Tuple.tupleExact _) (wpAny_newObj_type (wpAny_pure (wpAny_pure ⟨_,rfl,wpAny_pure h⟩)) htake))
  | exact wpAny_bind (wpAny_bind (m:=Builtin.Tuple.tupleExact _) (wpAny_newObj_type (wpAny_pure ⟨_,rfl,wpAny_pure h⟩) htake))
end
end HT
namespace L2
abbrev TO:=St->Hp->(Option Int->Hp->Prop)->Prop
def PO(X:Cx)(e:Option Expr)(t:TO):Prop:=
 ∀ (pins:PN) (s:Shared) (σ:St) (H:Hp) (Q:Option Int->Hp->Prop),Inv X pins σ H s->t σ H Q ->
  wpAny (model X.prog X.w) X.A (evalPart e X.env) (λ u s'=>∃ o H',Inv X pins σ H' s'/\IsPart u o/\Q o H') X.xe s
def xl:TO:=λ _ H Q=>Q none H
def acP(t:TE):TO:=λ σ H Q=>t σ H λ x H1=>∃ i,x=.int i/\Q (some i) H1
section
variable {X:Cx}{e:Expr}{te:TE}{lo hi:Option Expr}{tl th:TO}{pos p2:Pos}
theorem xJ:PO X none xl:=by intro pins s σ H Q I h;rw[evalPart_none];exact wpAny_pure ⟨none,H,I,.none,h⟩
theorem yi(h:PE X e te):PO X (some e) (acP te):=by intro pins s σ H Q I hw;rw[evalPart_some];refine thn (h pins s σ H _ I hw) λ u s1 hq21=>?_;obtain⟨x,H1,I1,r1,q1⟩:=hq21;obtain⟨i,rfl,q⟩:=q1;obtain⟨t,rfl⟩:=r1;exact⟨some i,H1,I1,.int i t,q⟩
def SlR(X:Cx)(r:V->Option Int->Option Int->Hp->VK->Prop):Prop:=
 ∀ (pins:PN) (s:Shared) (σ:St) (H:Hp) (x:V) (v vl vu:Value) (lo hi:Option Int) (sl:Addr) (Q:VK),Inv X pins σ H s->RelV x v->s.heap.IsSliceOf sl vl vu .none->IsPart vl lo->IsPart vu hi->r x lo hi H Q ->
  ∃ T id,typeLookup (.type T) "__getitem__" = pure (some (.builtin id))/\s.TypeIs v T/\wpAny (model X.prog X.w) X.A (getItem v (.ref sl)) (EP X pins σ Q) X.xe s
theorem SlR.or{r r':V->Option Int->Option Int->Hp->VK->Prop}(h:SlR X r)(h':SlR X r'):SlR X (λ x lo hi H Q=>r x lo hi H Q\/r' x lo hi H Q):=by
 intro pins s σ H x v vl vu lo hi sl Q I rx hs pl pu q;rcases q with q | q
 ·exact h pins s σ H x v vl vu lo hi sl Q I rx hs pl pu q
 ·exact h' pins s σ H x v vl vu lo hi sl Q I rx hs pl pu q
def tSl(r:V->Option Int->Option Int->Hp->VK->Prop)(te:TE)(tl th:TO):TE:=λ σ H Q=>te σ H λ x H1=>tl σ H1 λ l H2=>th σ H2 λ u H3=>r x l u H3 Q
theorem uC{r:V->Option Int->Option Int->Hp->VK->Prop}(hr:SlR X r)(he:PE X e te)(hl:PO X lo tl)(hu:PO X hi th):PE X (.Subscript e (.Slice lo hi none p2) pos) (tSl r te tl th):=by intro pins s σ H Q I h;refine Subscript_ (thn (he pins s σ H _ I h) λ v s1 hq22=>?_);obtain⟨x,H1,I1,r1,q1⟩:=hq22;refine wpAny_Slice (thn (hl pins s1 σ H1 _ I1 q1) λ vl s2 ⟨l,H2,I2,pl,q2⟩=>thn (hu pins s2 σ H2 _ I2 q2) λ vu s3 hq23=>?_);obtain⟨u,H3,I3,pu,q3⟩:=hq23;rw[evalPart_none];refine wpAny_pure ?_;have I4:Inv X pins σ H3 {s3 with heap:=s3.heap.push {cls:=.type "slice",data:=.fields #[vl,vu,.none]}}:=I3.kept (t':=s3.toks) λ b ob q=>Heap.get?_push_of_some _ q;obtain⟨T,id,hT,ht,hg⟩:=hr pins {s3 with heap:=s3.heap.push {cls:=.type "slice",data:=.fields #[vl,vu,.none]}} σ H3 x v vl vu l u s3.heap.objs.size Q I4 r1 (Heap.IsSliceOf.new ..) pl pu q3;show wpAny (model X.prog X.w) X.A (subscriptTail e (.Slice lo hi none p2) v (.ref s3.heap.objs.size)) (EP X pins σ Q) X.xe {s3 with heap:=s3.heap.push {cls:=.type "slice",data:=.fields #[vl,vu,.none]}};exact tail_any (ops:=[.ref s3.heap.objs.size,v]) ht hT hg (by with_unfolding_all rfl)
def wJ(xs:List V)(lo hi:Option Int):List V:=(xs.drop (HT.sIx xs.length 0 lo)).take (HT.sIx xs.length xs.length hi-HT.sIx xs.length 0 lo)
theorem jc(xs:List V)(lo hi:Option Int):(wJ xs lo hi).length<=xs.length:=by
 unfold wJ;rw[List.length_take,List.length_drop];omega
def adU(K:FG):V->Option Int->Option Int->Hp->VK->Prop:=λ x lo hi H Q=>∃ a xs,x=.ref a/\SqT K H a xs /\
 ¬ (HT.sIx xs.length 0 lo=0/\HT.sIx xs.length xs.length hi=xs.length)/\∀ p,H p=none->Q (.ref p) (upd H p (.tup (wJ xs lo hi)))
theorem zX:SlR X (adU X.K):=by
 intro pins s σ H x v vl vu lo hi sl Q I rx hs pl pu h;obtain⟨a,xs,rfl,hx,hw,q⟩:=h;cases rx;obtain⟨its,r,ht,hz⟩:=I.tuple hx;have hlen:its.toArray.size=xs.length:=by rw[List.size_toArray];exact r.length.symm
 refine⟨"tuple",_,PyProof.Rows.slot_tuple_getitem.lookup,ht.typeIs,?_⟩;refine HT.g6 ht hs pl pu (by rw[hlen];exact hw) ?_ (by rw[hlen];exact hz);rw[hlen];refine⟨.ref s.heap.objs.size,_,I.laid (t':=s.toks) (o:=.tup (wJ xs lo hi)) (λ b ob q=>Heap.get?_push_of_some _ q) (Nat.le_refl _) ?_,rfl,q _ (I.hok.fresh (Nat.le_refl _))⟩;exact⟨Nat.le_trans (jc xs lo hi) hz,_,(r.drop (HT.sIx xs.length 0 lo)).take (HT.sIx xs.length xs.length hi-HT.sIx xs.length 0 lo),vA.new _ _⟩
def aal(K:FG):R2:=λ x y H Q=>∃ a b xs ys,x=.ref a/\y=.ref b/\SqT K H a xs/\SqT K H b ys/\xs≠[]/\xs.length+ys.length<=sizeLine /\
 (ys=[]->Q (.ref a) H)/\(ys≠[]->∀ p,H p=none->Q (.ref p) (upd H p (.tup (xs++ys))))
theorem Vals.nH{xs:List V}{us:List Value}(r:Vals xs us):us=[] ↔ xs=[]:=by
 cases r with
 | nil=>simp
 | cons _ _=>simp
theorem mR:OpR X (binaryOp .Add) (aal X.K):=by intro pins s σ H x y v u Q I rx ry h;obtain⟨a,b,xs,ys,rfl,rfl,ha,hb,hx,hz,q1,q2⟩:=h;cases rx;cases ry;obtain⟨its,r1,p1,_⟩:=I.tuple ha;obtain⟨its2,r2,p2,_⟩:=I.tuple hb;refine HT.zc p1 p2 (λ z=>hx (r1.nH.mp z)) (λ z=>⟨.ref a,H,I,rfl,q1 (r2.nH.mp z)⟩) (λ z=>?_) (by rw[<- r1.length,<- r2.length];exact hz);refine⟨.ref s.heap.objs.size,_,I.laid (t':=s.toks) (o:=.tup (xs++ys)) (λ b ob q=>Heap.get?_push_of_some _ q) (Nat.le_refl _) ?_,rfl,q2 (λ w=>z (r2.nH.mpr w)) _ (I.hok.fresh (Nat.le_refl _))⟩;exact⟨by rw[List.length_append];exact hz,_,r1.append r2,vA.new _ _⟩
end
def ixN(n:Nat)(i:Int):Option Nat:=if 0<=i then (if i<n then some i.toNat else none) else if -(n:Int)<=i then some (i+n).toNat else none
def atI{α:Type}(xs:List α)(i:Int):Option α:=(ixN xs.length i).bind λ j=>xs[j]?
theorem tQ{n:Nat}{i:Int}{j:Nat}(h:ixN n i=some j):seqIndex? i n=some j/\j<n/\-(n:Int)<=i/\i<n:=by
 unfold ixN at h
 by_cases h0:0<=i
 ·rw[if_pos h0] at h
  by_cases h1:i<n
  ·rw[if_pos h1] at h;have e:i.toNat=j:=Option.some.inj h;exact⟨by rw[seqIndex_of h0 h1,e],by omega,by omega,h1⟩
  ·rw[if_neg h1] at h;cases h
 ·rw[if_neg h0] at h
  by_cases h1:-(n:Int)<=i
  ·rw[if_pos h1] at h;have e:(i+n).toNat=j:=Option.some.inj h;exact⟨by rw[seqIndex_neg (by omega) h1,e],by omega,h1,by omega⟩
  ·rw[if_neg h1] at h;cases h
theorem kP{α:Type}{xs:List α}{i:Int}{v:α}(h:atI xs i=some v):∃ j,seqIndex? i xs.length=some j/\xs[j]? =some v/\j<xs.length/\-(xs.length:Int)<=i/\i<xs.length:=by
 unfold atI at h;cases e:ixN xs.length i with
 | none=>rw[e] at h;cases h
 | some j =>
  rw[e] at h;obtain⟨h1,h2,h3,h4⟩:=tQ e;exact⟨j,h1,h,h2,h3,h4⟩
def nM(b:Expr):Prop:=∀ o i,subscripted b false o i=operate [o,i] (getItem o i)
def IxR(X:Cx)(r:R2):Prop:=
 ∀ (value slice:Expr) (pins:PN) (s:Shared) (σ:St) (H:Hp) (x y:V) (v u:Value) (Q:VK),Inv X pins σ H s->RelV x v->RelV y u->r x y H Q ->
  subscripted slice false v u=operate [v,u] (getItem v u)->wpAny (model X.prog X.w) X.A (subscriptTail value slice v u) (EP X pins σ Q) X.xe s
def MtR(X:Cx)(id:String)(r:V->List V->Hp->VK->Prop):Prop:=
 ∀ (pins:PN) (s:Shared) (σ:St) (H:Hp) (x:V) (xs:List V) (v:Value) (us:List Value) (Q:VK),Inv X pins σ H s->RelV x v->Vals xs us->r x xs H Q ->
  wpAny (model X.prog X.w) X.A (call (.builtin id) (v::us)) (EP X pins σ Q) X.xe s
section
variable {X:Cx}{a b:Expr}{ta tb:TE}{pos:Pos}
theorem IxR.or{r r':R2}(h:IxR X r)(h':IxR X r'):IxR X (λ x y H Q=>r x y H Q\/r' x y H Q):=by
 intro value slice pins s σ H x y v u Q I rx ry q hs;rcases q with q | q
 ·exact h value slice pins s σ H x y v u Q I rx ry q hs
 ·exact h' value slice pins s σ H x y v u Q I rx ry q hs
theorem adk{r:R2}(hr:IxR X r)(ha:PE X a ta)(hb:PE X b tb)(hs:nM b):PE X (.Subscript a b pos) (tOp r ta tb):=by intro pins s σ H Q I h;exact Subscript_ (acF ha hb I h λ v u s2 x y H2 I2 rx ry q=>hr a b pins s2 σ H2 x y v u Q I2 rx ry q (hs _ _))
def adf(K:FG):R2:=λ x y H Q=>∃ p xs i v,x=.ref p/\y=.int i/\SqL K H p xs/\atI xs i=some v/\Q v H
def adM(K:FG):R2:=λ x y H Q=>∃ p xs i v,x=.ref p/\y=.int i/\SqT K H p xs/\atI xs i=some v/\Q v H
def adH:R2:=λ x y H Q=>∃ z i c,x=.str z/\y=.int i/\z.length<=sizeLine/\atI z.cps.toList i=some c/\Q (.str ⟨#[c]⟩) H
theorem zC:IxR X (adf X.K):=by
 intro value slice pins s σ H x y v u Q I rx ry h hs;obtain⟨p,xs,i,z,rfl,rfl,hq,he,q⟩:=h;cases rx;obtain⟨t,rfl⟩:=ry;obtain⟨its,r,pl,hz⟩:=I.list hq;obtain⟨j,h1,h2,h3,h4,h5⟩:=kP he;obtain⟨w,ew,rw'⟩:=r.get h2;have hl:=r.length;have hn:=jx;have fin:EP X pins σ Q w s:=⟨z,H,I,rw',q⟩
 by_cases h0:0<=i
 ·have hj:i.toNat=j:=by rw[seqIndex_of h0 h5] at h1;exact Option.some.inj h1
  exact item_listR pl.isList h0 (by omega) (by rw[hj];simpa using ew) fin hs
 ·have hj:(i+(its.toArray.size:Int)).toNat=j:=by rw[seqIndex_neg (by omega) h4] at h1;rw[List.size_toArray,<- hl];exact Option.some.inj h1
  exact subscriptTail_builtinR (x:=w) pl.isList.typeIs slot_list_getitem.lookup
   (wpAny_getItem_list_neg (Q:=λ r s'=>r=w/\EP X pins σ Q r s') pl.isList (by omega) (by rw[List.size_toArray]<;>omega) (by omega) (by rw[hj];simpa using ew) ⟨rfl,fin⟩) hs
theorem aau:IxR X (adM X.K):=by
 intro value slice pins s σ H x y v u Q I rx ry h hs;obtain⟨p,xs,i,z,rfl,rfl,hq,he,q⟩:=h;cases rx;obtain⟨t,rfl⟩:=ry;obtain⟨its,r,pl,hz⟩:=I.tuple hq;obtain⟨j,h1,h2,h3,h4,h5⟩:=kP he;obtain⟨w,ew,rw'⟩:=r.get h2;have hl:=r.length;have hn:=jx;have fin:EP X pins σ Q w s:=⟨z,H,I,rw',q⟩;exact subscriptTail_builtinR (x:=w) pl.typeIs slot_tuple_getitem.lookup
  (getItem_tuple (j:=j) (Q:=λ r s'=>r=w/\EP X pins σ Q r s') pl (by omega) (by omega) (by rw[List.size_toArray,<- hl];exact h1) (by simpa using ew) ⟨rfl,fin⟩) hs
theorem abJ:IxR X adH:=by
 intro value slice pins s σ H x y v u Q I rx ry h hs;obtain⟨z,i,c,rfl,rfl,hz,he,q⟩:=h;obtain⟨t,rfl⟩:=rx;obtain⟨t',rfl⟩:=ry;obtain⟨j,h1,h2,h3,h4,h5⟩:=kP he;have hl:z.cps.toList.length=z.length:=by simp[Str.length]
 rw[hl] at h1 h4 h5;have hn:=jx;exact tail_any (typeIs_str s z t) slot_str_getitem.lookup (getItem_str (c:=c) (by have e1:decide (i < -(2 ^ 63:Int))=false:=decide_eq_false (by omega);have e2:decide (i >= 2 ^ 63)=false:=decide_eq_false (by omega);rw[e1,e2,Bool.or_false]) (by rw[h1];simpa using h2) ⟨.str ⟨#[c]⟩,H,I.tok _,⟨_,rfl⟩,q⟩) hs
def rIx(K:FG):R2:=λ x y H Q=>adf K x y H Q\/adM K x y H Q\/adH x y H Q
theorem bj:IxR X (rIx X.K):=zC.or (aau.or abJ)
theorem pK(its:List Value)(n j:Nat)(u:Value):Obj.mapSeq (·.setIfInBounds j u) {cls:=.type "list",data:=.seq its.toArray n}={cls:=.type "list",data:=.seq (its.set j u).toArray n}:=by simp[Obj.mapSeq]
theorem Inv.lst{pins:PN}{σ:St}{H:Hp}{s:Shared}{p:Addr}{xs:List V}(I:Inv X pins σ H s)(h:H p=some (.lst xs)) :
  ∃ (its:List Value) (n:Nat),Vals xs its/\s.heap.get? p=some {cls:=.type "list",data:=.seq its.toArray n}/\xs.length<=sizeLine:=by
 obtain⟨z,its,n,r,e⟩:=I.hok p _ h;exact⟨its,n,r,e,z⟩
theorem Inv.aaD{pins:PN}{σ:St}{H:Hp}{s:Shared}{p:Addr}{xs ys:List V}{its its':List Value}{n n':Nat}{f:Obj->Obj}(I:Inv X pins σ H s)(h:H p=some (.lst xs))
  (ho:s.heap.get? p=some {cls:=.type "list",data:=.seq its.toArray n})(hf:f {cls:=.type "list",data:=.seq its.toArray n}={cls:=.type "list",data:=.seq its'.toArray n'})(r:Vals ys its')(hz:ys.length<=sizeLine)(t:Nat) :
  Inv X pins σ (upd H p (.lst ys)) {s with heap:=s.heap.update p f,toks:=t}:=by
 have e:(s.heap.update p f).get? p=some {cls:=.type "list",data:=.seq its'.toArray n'}:=by rw[Heap.get?_update_self f ho (by rw[hf]<;>rfl),hf]
 refine I.write (x:=p) (e:=p) (by rw[h];trivial) (.inl rfl) (λ b u hb q=>(Heap.get?_update_other _ _ (Ne.symm hb)).trans q) ⟨_,e⟩ ?_;exact⟨hz,its',n',r,e⟩
def adt:V->V->V->Hp->(Hp->Prop)->Prop:=λ o i v H Q=>∃ p xs k j,o=.ref p/\i=.int k/\H p=some (.lst xs)/\ixN xs.length k=some j/\Q (upd H p (.lst (xs.set j v)))
theorem set_list:adu X adt:=by
 intro pins s σ H o i v ov iv u Q I ro ri rv h;obtain⟨p,xs,k,j,rfl,rfl,hp,hj,q⟩:=h;cases ro;obtain⟨t,rfl⟩:=ri;obtain⟨its,n,r,ho,hz⟩:=I.lst hp;obtain⟨h1,h2,h3,h4⟩:=tQ hj;have hl:=r.length;have hn:=jx;have I':Inv X pins σ (upd H p (.lst (xs.set j v))) {s with heap:=s.heap.update p (Obj.mapSeq (·.setIfInBounds j u))}:=
  I.aaD hp ho (pK its n j u) (r.set rv j) (by rw[List.length_set];exact hz) s.toks
 by_cases h0:0<=k
 ·have hk:k.toNat=j:=by rw[seqIndex_of h0 h4] at h1;exact Option.some.inj h1
  exact W.ki_setAt ho h0 (by omega) (by rw[List.size_toArray,<- hl];exact h4) (by rw[hk];exact⟨_,I',q⟩)
 ·have hk:(k+(its.toArray.size:Int)).toNat=j:=by rw[seqIndex_neg (by omega) h3] at h1;rw[List.size_toArray,<- hl];exact Option.some.inj h1
  exact W.ki_setBack ho (by omega) (by rw[List.size_toArray,<- hl];exact h3) (by omega) (by rw[hk];exact⟨_,I',q⟩)
theorem lT(lo hi:Option Int)(n:Nat):(sliceBounds lo hi none n).1=((HT.sIx n 0 lo:Nat):Int)/\(sliceBounds lo hi none n).2.1=((HT.sIx n n hi:Nat):Int)/\(sliceBounds lo hi none n).2.2=1:=by
 refine⟨?_,?_,rfl⟩
 ·cases lo with
  | none=>simp[sliceBounds,HT.sIx]
  | some i =>
   simp only[sliceBounds,HT.sIx,Option.getD_none,show(1:Int) > 0 by decide,if_true]
   by_cases h:i<0
   ·simp only[h,if_true]<;>omega
   ·simp only[h,if_false]<;>omega
 ·cases hi with
  | none=>simp[sliceBounds,HT.sIx]
  | some i =>
   simp only[sliceBounds,HT.sIx,Option.getD_none,show(1:Int) > 0 by decide,if_true]
   by_cases h:i<0
   ·simp only[h,if_true]<;>omega
   ·simp only[h,if_false]<;>omega
theorem kE(its:List Value)(lo hi:Option Int):slicePick its.toArray lo hi none=((its.drop (HT.sIx its.length 0 lo)).take (HT.sIx its.length its.length hi-HT.sIx its.length 0 lo)).toArray:=by obtain⟨h1,h2,h3⟩:=lT lo hi its.toArray.size;unfold slicePick;rw[h1,h2,h3];simp only[sliceRange_one,pick_run,List.size_toArray]<;>rfl
def adL(K:FG):V->Option Int->Option Int->Hp->VK->Prop:=λ x lo hi H Q=>∃ a xs,x=.ref a/\SqL K H a xs/\∀ p,H p=none->Q (.ref p) (upd H p (.lst (wJ xs lo hi)))
theorem xM:SlR X (adL X.K):=by intro pins s σ H x v vl vu lo hi sl Q I rx hs pl pu h;obtain⟨a,xs,rfl,hx,q⟩:=h;cases rx;obtain⟨its,r,ht,hz⟩:=I.list hx;have hlen:=r.length;refine⟨"list",_,slot_list_getitem.lookup,ht.isList.typeIs,?_⟩;refine wpAny_getItem_list_slice ht.isList hs pl pu .none (by simp) ?_ (by rw[List.size_toArray]<;>omega);rw[kE,<- hlen];refine⟨.ref s.heap.objs.size,_,I.laid (t':=s.toks) (o:=.lst (wJ xs lo hi)) (λ b ob q=>Heap.get?_push_of_some _ q) (Nat.le_refl _) ?_,rfl,q _ (I.hok.fresh (Nat.le_refl _))⟩;exact⟨Nat.le_trans (jc xs lo hi) hz,_,0,(r.drop (HT.sIx xs.length 0 lo)).take (HT.sIx xs.length xs.length hi-HT.sIx xs.length 0 lo),Heap.get?_push_size _ rfl⟩
def jF:V->Bool
 | .non=>true
 | .bl _=>true
 | .int _=>true
 | .str _=>true
 | _=>false
def eqV:V->V->Bool
 | .non,.non=>true
 | .bl a,.bl b=>a==b
 | .bl a,.int b=>(if a then 1 else 0)==b
 | .int a,.bl b=>a==(if b then 1 else 0)
 | .int a,.int b=>a==b
 | .str a,.str b=>a==b
 | _,_=>false
theorem aa3{A:Around}{s:Shared}{y x:V}{u v:Value}(ry:RelV y u)(rx:RelV x v)(fy:jF y=true)(fx:jF x=true):SeqAt.EqAt A s u v (eqV y x):=by
 cases y with
 | non =>
  cases ry;cases x with
  | non=>cases rx;exact SeqAt.EqAt.same _
  | bl b=>cases rx;exact SeqAt.EqAt.none_bool b
  | int b=>obtain⟨t,rfl⟩:=rx;exact SeqAt.EqAt.none_int b t
  | str b=>obtain⟨t,rfl⟩:=rx;exact SeqAt.EqAt.none_str b t
  | _=>exact absurd (show false=true from fx) Bool.false_ne_true
 | bl a =>
  cases ry;cases x with
  | non=>cases rx;exact SeqAt.EqAt.bool_none a
  | bl b=>cases rx;exact SeqAt.EqAt.bool_bool a b
  | int b=>obtain⟨t,rfl⟩:=rx;exact SeqAt.EqAt.bool_int a b t
  | str b=>obtain⟨t,rfl⟩:=rx;exact SeqAt.EqAt.bool_str a b t
  | _=>exact absurd (show false=true from fx) Bool.false_ne_true
 | int a =>
  obtain⟨t',rfl⟩:=ry;cases x with
  | non=>cases rx;exact SeqAt.EqAt.int_none a t'
  | bl b=>cases rx;exact SeqAt.EqAt.int_bool a t' b
  | int b=>obtain⟨t,rfl⟩:=rx;exact SeqAt.EqAt.int_int a t' b t
  | str b=>obtain⟨t,rfl⟩:=rx;exact SeqAt.EqAt.int_str a t' b t
  | _=>exact absurd (show false=true from fx) Bool.false_ne_true
 | str a =>
  obtain⟨t',rfl⟩:=ry;cases x with
  | non=>cases rx;exact SeqAt.EqAt.str_none a t'
  | bl b=>cases rx;exact SeqAt.EqAt.str_bool a t' b
  | int b=>obtain⟨t,rfl⟩:=rx;exact SeqAt.EqAt.str_int a t' b t
  | str b=>obtain⟨t,rfl⟩:=rx;exact SeqAt.EqAt.str_str a t' b t
  | _=>exact absurd (show false=true from fx) Bool.false_ne_true
 | _=>exact absurd (show false=true from fy) Bool.false_ne_true
def eqU(x:V)(u:Value):Bool:=match u with
 | .none=>eqV .non x
 | .bool b=>eqV (.bl b) x
 | .int i _=>eqV (.int i) x
 | .str z _=>eqV (.str z) x
 | _=>false
theorem wg{x y:V}{u:Value}(r:RelV y u)(f:jF y=true):eqU x u=eqV y x:=by
 cases y with
 | non=>cases r;rfl
 | bl b=>cases r;rfl
 | int i=>obtain⟨t,rfl⟩:=r;rfl
 | str z=>obtain⟨t,rfl⟩:=r;rfl
 | _=>exact absurd (show false=true from f) Bool.false_ne_true
theorem jt{x:V}:∀ {xs:List V} {us:List Value},Vals xs us->xs.all jF=true->us.any (eqU x)=xs.any λ y=>eqV y x
 | _,_,.nil,_=>rfl
 | y::xs,u::us,.cons r t,f=>by rw[List.all_cons,Bool.and_eq_true] at f;rw[List.any_cons,List.any_cons,wg r f.1,jt t f.2]
theorem gF{A:Around}{s:Shared}{x:V}{v:Value}(rx:RelV x v)(fx:jF x=true):∀ {xs:List V} {us:List Value},Vals xs us->xs.all jF=true->∀ u∈us,SeqAt.EqAt A s u v (eqU x u)
 | _,_,.nil,_=>λ u hu=>by cases hu
 | y::xs,u::us,.cons r t,f=>λ u' hu=>by
  rw[List.all_cons,Bool.and_eq_true] at f;rcases List.mem_cons.mp hu with rfl | hu
  ·rw[wg r f.1];exact aa3 r rx f.1 fx
  ·exact gF rx fx t f.2 u' hu
def inV(x:V)(xs:List V):Bool:=xs.any λ y=>eqV y x
def rIn(K:FG)(neg:Bool):R2:=λ x y H Q=>∃ p xs,y=.ref p/\(SqL K H p xs\/SqT K H p xs)/\jF x=true/\xs.all jF=true/\Q (.bl (if neg then !inV x xs else inV x xs)) H
theorem lB:OpR X (compareOp .In) (rIn X.K false):=by
 intro pins s σ H x y v u Q I rx ry h;obtain⟨p,xs,rfl,hq,fx,fs,q⟩:=h;cases ry;rcases hq with hq | hq
 ·obtain⟨its,r,pl,hz⟩:=I.list hq;refine SeqAt.in_listAt (eqU x) pl.isList (λ w hw=>gF rx fx r fs w (by simpa using hw)) ⟨.bl _,H,I,rfl,?_⟩;rw[show its.toArray.any (eqU x)=its.any (eqU x) by simp,jt r fs];exact q
 ·obtain⟨its,r,pl,hz⟩:=I.tuple hq;refine SeqAt.in_tupleAt (eqU x) pl (λ w hw=>gF rx fx r fs w (by simpa using hw)) ⟨.bl _,H,I,rfl,?_⟩;rw[show its.toArray.any (eqU x)=its.any (eqU x) by simp,jt r fs];exact q
theorem ie:OpR X (compareOp .NotIn) (rIn X.K true):=by
 intro pins s σ H x y v u Q I rx ry h;obtain⟨p,xs,rfl,hq,fx,fs,q⟩:=h;cases ry;rcases hq with hq | hq
 ·obtain⟨its,r,pl,hz⟩:=I.list hq;refine SeqAt.notIn_listAt (eqU x) pl.isList (λ w hw=>gF rx fx r fs w (by simpa using hw)) ⟨.bl _,H,I,rfl,?_⟩;rw[show its.toArray.any (eqU x)=its.any (eqU x) by simp,jt r fs];exact q
 ·obtain⟨its,r,pl,hz⟩:=I.tuple hq;refine SeqAt.notIn_tupleAt (eqU x) pl (λ w hw=>gF rx fx r fs w (by simpa using hw)) ⟨.bl _,H,I,rfl,?_⟩;rw[show its.toArray.any (eqU x)=its.any (eqU x) by simp,jt r fs];exact q
theorem dE:eC X (.type "list") (λ xs H Q=>∃ p ys,xs=[.ref p]/\(SqL X.K H p ys\/SqT X.K H p ys)/\∀ l,H l=none->Q (.ref l) (upd H l (.lst ys))):=by
 intro pins s σ H xs us Q I r h;obtain⟨p,ys,rfl,hq,q⟩:=h;obtain⟨u,rfl,rx⟩:=vals1 r;cases rx;have fin:∀ (its:List Value),Vals ys its->ys.length<=sizeLine->∀ (h':Heap) (c':Nat),(∀ b o',s.heap.get? b=some o'->h'.get? b=some o') ->
   h'.get? s.heap.objs.size=some {cls:=.type "list",dict:=none,data:=.seq its.toArray c',slots:=#[]}->EP X pins σ Q (.ref s.heap.objs.size) {s with heap:=h'}:=λ its r' hz h' c' kp e =>
  ⟨.ref s.heap.objs.size,_,I.laid (t':=s.toks) kp (Nat.le_refl _) (show cM X.prog X.w _ h' _ (.lst ys) from⟨hz,its,c',r',e⟩),rfl,q _ (I.hok.fresh (Nat.le_refl _))⟩
 rcases hq with hq | hq
 ·obtain⟨its,r',pl,hz⟩:=I.list hq;have hlen:=r'.length;obtain⟨o,ho,hc,n,hd⟩:=pl.isList;exact call_list_seq p (.inl rfl) ho hc hd (λ h' c' kp e=>fin its r' hz h' c' kp e) (by simp only[List.size_toArray]<;>omega)
 ·obtain⟨its,r',pl,hz⟩:=I.tuple hq;have hlen:=r'.length;obtain⟨o,ho,hc,n,hd⟩:=pl;exact call_list_seq p (.inr rfl) ho hc hd (λ h' c' kp e=>fin its r' hz h' c' kp e) (by simp only[List.size_toArray]<;>omega)
def tyV(K:FG)(T:String)(x:V)(H:Hp):Prop:=match x with
 | .str _=>T = "str"
 | .int _=>T = "int"
 | .ref p=>(T = "list" /\ ∃ xs,SqL K H p xs)\/(T = "tuple" /\ ∃ xs,SqT K H p xs) \/
   (T = "dict" /\ ((∃ kvs,H p=some (.dK kvs))\/∃ kvs,H p=some (.dT kvs)))\/(T = "set" /\ ∃ S n,H p=some (.set S n))
 | _=>False
theorem abB{pins:PN}{σ:St}{H:Hp}{s:Shared}{T:String}{x:V}{v:Value}(I:Inv X pins σ H s)(r:RelV x v)(ty:tyV X.K T x H) :
  s.TypeIs v T/\∀ a,v=.ref a->∃ ob,s.heap.get? a=some ob/\ob.dict=none:=by
 cases x with
 | str z =>
  obtain⟨t,rfl⟩:=r;cases (show T = "str" from ty);exact⟨typeIs_str s z t,λ _ e=>nomatch e⟩
 | int i =>
  obtain⟨t,rfl⟩:=r;cases (show T = "int" from ty);exact⟨typeIs_int s i t,λ _ e=>nomatch e⟩
 | ref p =>
  cases r;rcases ty with ⟨rfl,xs,hq⟩ | ⟨rfl,xs,hq⟩ | ⟨rfl,hk⟩ | ⟨rfl,S,n,hk⟩
  ·obtain⟨its,_,pl,_⟩:=I.list hq;refine⟨pl.isList.typeIs,λ a e=>?_⟩;cases e;obtain⟨o,n,e,c,hd,_⟩:=pl;exact⟨o,e,hd⟩
  ·obtain⟨its,_,⟨o,h1,h2,h3,_⟩,_⟩:=I.adO hq;refine⟨⟨o,h1,h2⟩,λ a e=>?_⟩;cases e;exact⟨o,h1,h3⟩
  ·have z:∃ o,s.heap.get? p=some o/\o.ExactDict:=by
    rcases hk with ⟨kvs,hk⟩ | ⟨kvs,hk⟩
    ·obtain⟨_,_,_,_,o,_,_,e,ex,_⟩:=I.hok p _ hk;exact⟨o,e,ex⟩
    ·obtain⟨_,_,_,_,o,_,_,e,ex,_⟩:=I.hok p _ hk;exact⟨o,e,ex⟩
   obtain⟨o,e,ex⟩:=z;refine⟨⟨o,e,ex.1⟩,λ a e2=>?_⟩;cases e2;exact⟨o,e,ex.2.1⟩
  ·obtain⟨o,_,_,_,e,ex,_⟩:=I.hok p _ hk;refine⟨⟨o,e,ex.1⟩,λ a e2=>?_⟩;cases e2;exact⟨o,e,ex.2.1⟩
 | _=>exact False.elim ty
def tBM(K:FG)(T:String)(r:V->List V->Hp->VK->Prop)(to:TE)(t:TA):TE:=λ σ H Q=>to σ H λ x H1=>tyV K T x H1/\t σ H1 λ xs H2=>r x xs H2 Q
variable {o e:Expr}{es:List Expr}{to:TE}{t:TA}{name:Str}{apos cpos:Pos}{T id:String}{r:V->List V->Hp->VK->Prop}
theorem adm(pa:PlainAttrs T)(slot:Slot T name id)(hty:typeOf (.builtin id)=pure (.type "method_descriptor"))(hm:MtR X id r)(ho:PE X o to)(ha:PA X (e::es) t)
  (hbase:attributeBase o name X.env (eval o X.env)=eval o X.env:=by rfl)
  (hfew:((backTo cpos (starEach (e::es) X.env)).all (λ x=>!x.1)&&(backToKw cpos (keywordEach [] X.env)).all (λ x=>x.1.isSome)
   && decide ((e::es).length+([]:List Keyword).length+(if ([]:List Keyword).isEmpty then 0 else 1)<30))=true:=by rfl)
  (hline:(apos.endLine==cpos.line)=true:=by rfl)(hs:starEach (e::es) X.env=(false,eval e X.env)::starEach es X.env:=by rfl)(hplain:(backTo cpos (starEach es X.env)).any (·.1)=false:=by rfl) :
  PE X (.Call (.Attribute o name apos) (e::es) [] cpos) (tBM X.K T r to t):=by
 intro pins s σ H Q I h;refine wpAny_Call_method_late hbase hfew hline rfl (thn (ho pins s σ H _ I h) λ v s1 hq24=>?_);obtain⟨x,H1,I1,r1,ty,q1⟩:=hq24;obtain⟨h1,h2⟩:=abB I1 r1 ty;refine⟨T,id,pa,slot,hty,h1,h2,?_⟩;have hA:=ha cpos pins s1 σ H1 _ I1 q1;rw[hs] at hA ⊢;refine Calls.callWith_builtin (by show(false || (backTo cpos (starEach es X.env)).any (·.1))=false;rw[hplain]<;>rfl) (Calls.evalArgs_plain ?_);exact thn hA λ us s2 ⟨vs,H2,I2,r2,q2⟩=>hm pins s2 σ H2 x vs v us Q I2 r1 r2 q2
end
def MtM(X:Cx)(id:String)(r:V->List V->Hp->VK->Prop):Prop:=
 ∀ (pins:PN) (s:Shared) (σ:St) (H:Hp) (x:V) (xs:List V) (v:Value) (us:List Value) (Q:VK),Inv X pins σ H s->RelV x v->Vals xs us->r x xs H Q ->
  wpAny (model X.prog X.w) X.A (call (.builtin id) (v::us)) (EP X pins σ Q) X.xe s
theorem Vals.one:∀ {x:V} {us:List Value},Vals [x] us->∃ u,us=[u]/\RelV x u
 | _,_,.cons r .nil=>⟨_,rfl,r⟩
section
variable {X:Cx}{pins:PN}{σ:St}{H:Hp}{s:Shared}{l b:Addr}{xs ys zs:List V}
theorem Inv.aej{its its':List Value}{n:Nat}{f:Array Value->Array Value}{t':Nat}(I:Inv X pins σ H s)(hH:H l=some (.lst xs))
  (e:s.heap.get? l=some {cls:=.type "list",data:=.seq its.toArray n})(hf:f its.toArray=its'.toArray)(hv:Vals ys its')(hz:ys.length<=sizeLine) :
  Inv X pins σ (upd H l (.lst ys)) {s with heap:=s.heap.update l (Obj.mapSeq f),toks:=t'}:=by
 have q:=PySem.IsL.update e f;rw[hf] at q;refine I.write (x:=l) (e:=l) (by rw[hH];exact trivial) (.inl rfl) (λ b' u hb hu=>(Heap.get?_update_other s.heap (Obj.mapSeq f) (Ne.symm hb)).trans hu) ⟨_,q⟩ ?_;exact⟨hz,its',_,hv,q⟩
theorem Inv.aeb{its:List Value}{t':Nat}(I:Inv X pins σ H s)(hv:Vals ys its)(hz:ys.length<=sizeLine) :
  Inv X pins σ (upd H s.heap.objs.size (.lst ys)) {s with heap:=s.heap.push {cls:=.type "list",data:=.seq its.toArray},toks:=t'}:=
 I.laid (λ _ _ q=>Heap.get?_push_of_some _ q) (Nat.le_refl _) ⟨hz,its,0,hv,Heap.get?_push_size _ rfl⟩
theorem Inv.fresh(I:Inv X pins σ H s):H s.heap.objs.size=none:=I.hok.fresh (Nat.le_refl _)
theorem Inv.aep(I:Inv X pins σ H s)(hH:H l=some (.lst xs)):xs.length<=sizeLine/\∃ (its:List Value) (n:Nat),Vals xs its/\xs.length=its.length/\s.heap.get? l=some {cls:=.type "list",data:=.seq its.toArray n}:=by obtain⟨z,its,n,r,e⟩:=I.hok l _ hH;exact⟨z,its,n,r,r.length,e⟩
end
section
variable {X:Cx}
def xD:V->List V->Hp->VK->Prop:=λ x vs H Q=>∃ l xs y,x=.ref l/\vs=[y]/\H l=some (.lst xs)/\xs.length<sizeLine/\Q .non (upd H l (.lst (xs++[y])))
theorem ug:MtM X "list.append" xD:=by intro pins s σ H x vs v us Q I rx rv h;obtain⟨l,xs,y,rfl,rfl,hH,hz,q⟩:=h;cases rx;obtain⟨u,rfl,ru⟩:=rv.one;obtain⟨z,its,n,r,hl,e⟩:=I.aep hH;refine call_meets F.slot_list_append ⟨_,e,rfl⟩ F.entry_list_append (F.args_list_append_2 _ _) (PySem.list_append l its.toArray n u (by rw[List.size_toArray];omega)) ⟨e,?_⟩;refine⟨.non,_,I.aej (its':=its++[u]) hH e (by simp) (r.append (.cons ru .nil)) ?_,rfl,q⟩;rw[List.length_append,List.length_singleton];omega
end
section
variable {prog:Program}{w:World}{A:Around}{E:VP}{s:Shared}
end
section
variable {X:Cx}
end
end L2
namespace Att
open PySem PySem.W PySem.Calls PyProof.Rows
theorem i8{P:Params}{h:Heap}:∀ (ns:List Int) (vs:List Value),WellAll P h vs (ns.map WData.int)->IntsAre vs ns:=by
 intro ns
 induction ns with
 | nil =>
  intro vs w;rw[List.map_nil] at w;cases w;exact .nil
 | cons n ns ih =>
  intro vs w;rw[List.map_cons] at w;cases w with
  | cons a b =>
   cases a;exact .cons _ _ (ih _ b)
theorem sX{l:OpenLaw}{n:Nat}(hn:l.most=some n){P:Params}{h:Heap}{args:List WData}{vals:List Value}
  (hpre:l.row.toRowW.claim.pre args=true)(hwl:WellAll P h vals args) :
  ∃ a vs ns,vals=[Value.ref a]/\args=[WData.list (ns.map WData.int)]/\h.get? a=some {cls:=.type "list",data:=.seq vs.toArray}/\IntsAre vs ns/\ns.length<=n:=by
 have hsh:WShape.hasAll [] args [.list .int]=true:=(pre_splitW hpre).1;have hc:l.pre.holds [] {args:=args}=true:=(pre_splitW hpre).2;obtain⟨d,r,rfl,h1,h2⟩:=hasAllW_cons hsh;obtain rfl:=hasAllW_nil h2;obtain⟨xs,rfl,h3⟩:=hasW_list h1;obtain⟨ns,rfl⟩:=items_int h3;have hlen:ns.length<=n:=by
  unfold OpenLaw.pre at hc;have h4:(WTm.not (.lt (.lit (.int (n:Int))) (.len (.arg 0)))).holds [] {args:=[.list (ns.map .int)]}=true:=by have h4:=(holds_andW hc).1;rw[hn] at h4;exact h4
  have h5:=condW_of h4 (w_not (w_lt w_lit (w_len_list (w_arg rfl))));rw[List.length_map] at h5;refine Nat.le_of_not_lt λ q=>?_;have q':(n:Int)<((ns.length:Nat):Int):=by omega
  first
   | (rw[decide_eq_true q'] at h5;exact absurd h5 (by decide))
   | (simp at h5;omega)
 cases hwl with
 | cons w1 w2 =>
  cases w2;cases w1 with
  | list ho hall=>exact⟨_,_,ns,rfl,rfl,ho,i8 ns _ hall,hlen⟩
theorem qN(l:OpenLaw)(args:List WData):l.row.toRowW.claim.post args (.bool true) args=true:=
 postW_of (r:=l.row.toRowW) (X:=(true==true))
  (show WShape.has [] (.bool true) .bool=true by first | rfl | decide | simp[WShape.has,WShape.arms,WShape.armsAll])
  (show(WTm.eq .res (.lit (.bool true))).value [] {args:=args,res:=some (.bool true),after:=args}=some (.bool (true==true)) from w_eq_bool (w_res rfl) w_lit) rfl
theorem m8{l:OpenLaw}{n:Nat}{q:Program}{loose:List Str}{XP:(Str->Option Value)->Heap->Prop}{YP:World->Heap->Prop}{d:DefRec}
  (hn:l.most=some n)(hdf:d.params.defaults=[])
  (call:∀ (w:World) (s₀ s₁:Shared) (mg mb:Str->Option Value) (fa:Addr) (o:Obj) (pm cd doc:Value) (a:Addr) (vs:List Value) (ns:List Int),
   Ground q loose [] XP w s₀ mg mb s₁.heap->YP w s₁.heap ->
   s₁.heap.get? fa=some o->o.data=.func (docDef d.name d.params d.body d.scope pm cd doc)->s₁.heap.CodeRec cd d.name->mg d.name=some (.ref fa) ->
   s₁.heap.get? a=some {cls:=.type "list",data:=.seq vs.toArray}->IntsAre vs ns->ns.length<=n->s₁.gens = #[] ->
   codeAny (model l.prog w) callerA (.call (.ref fa) ⟨[.ref a],[]⟩) (λ r s'=>r=.ok (.ret (.bool true))/\OldK s₁.heap s'.heap/\s'.os=s₁.os/\AllBare s'.gens) s₁) :
  WalkO q loose XP YP l.row.toRowW d [] (λ f vs=>PySem.call f vs):=by
 intro w s₀ s₁ mg mb G Y fa o pm cd doc dV kV ho hd hcd hD hmg hg args vals as hpre hlay hrd hwl hlo;obtain rfl:dV=.none:=Dflts.none hD hdf;obtain rfl:kV=.none:=Dflts.noKw hD;obtain⟨a,vs,ns,rfl,rfl,hobj,hints,hlen⟩:=sX hn hpre hwl;refine enter_call (codeAny_mono (call w s₀ s₁ mg mb fa o pm cd doc a vs ns G Y ho (fd_plain hd) hcd hmg hobj hints hlen hg) λ r s' hq=>?_);obtain⟨rfl,h2,h3,h4⟩:=hq;exact⟨.inl ⟨.bool true,.bool true,[],rfl,λ _=>rfl,.bool true,qN l _,λ _=>⟨List.Pairwise.nil,λ _ hm=>(nomatch hm)⟩⟩,h2,h3,h4⟩
section
variable {prog:Program}{w:World}{A:Around}{E:VP}{s:Shared}{K:Frag}
end
end Att
namespace L2
theorem lF:∀ {vs:List Value} {ns:List Int},IntsAre vs ns->Vals (ns.map V.int) vs
 | _,_,.nil=>.nil
 | _,_,.cons n t h=>.cons ⟨t,rfl⟩ (lF h)
def cv(s:Stmt):Arguments:=match s with
 | .FunctionDef _ a _ _ _ _ _ _ _ _=>a
 | _=>{posonlyargs:=[],args:=[],vararg:=none,kwonlyargs:=[],kw_defaults:=[],kwarg:=none,defaults:=[]}
def bN(s:Stmt):List Stmt:=match s with
 | .FunctionDef _ _ b _ _ _ _ _ _ _=>b
 | _=>[]
def au(s:Stmt):Scope:=match s with
 | .FunctionDef _ _ _ _ _ _ sc _ _ _=>sc
 | _=>{kind:=.function,names:=[],isGenerator:=false,isCoroutine:=false}
abbrev CX0:CXT:=λ _ _ _ _ _ _=>False
abbrev E0:XK:=λ _ _ _=>False
theorem acK{X:Cx}:Passes CX0 X E0:=λ _ _ _ _ _ _ _ h=>h.elim
structure Fun(K:FG)(x qual:Str)(st:Stmt)(f:Addr)(fd:FuncData):Prop where
 ex:∃ (oc:Value) (od:Option Addr) (kV doc pm:Value) (an:Option Addr) (cdv ct:Value) (osl:Array (Option Value)),
  fd=W.fnOf x qual (cv st) (bN st) (au st) .none kV doc pm an cdv ct/\K.lookup f=some ⟨oc,od,.func fd,osl⟩/\W.codeIn K cdv qual=true
 kp:W.keepIn K (.ref f)=true
section
variable {P:Program}{w:World}{K:FG}{mg:Str->Option Value}{base:Heap}
theorem Fun.ok{x qual:Str}{st:Stmt}{f:Addr}{fd:FuncData}{N ps:List Str}{k:Nat}{sp:Sp}(F:Fun K x qual st f fd)(S:bA N ps (au st))(len:∀ vs H Q E,sp vs H Q E->vs.length=ps.length)
  (hbody:∀ (cdv:Value) (A:Around) (outer:List Env) (s:Shared) (H:Hp) (vs:List V) (Q:VK) (E:XK),er k (A.deeper (envOfC qual (au st) s.heap.objs.size f cdv))->sp vs H Q E ->
   ∃ t,PSs (wD CX0 P w K mg base N qual (au st) f cdv A outer s H E).nox (bN st) t/\t {nx:=λ _ H'=>Q .non H',rt:=Q} (start N vs) H):gu P w K mg base CX0 (k+1) f fd ps sp:=by
 obtain⟨oc,od,kV,doc,pm,an,cdv,ct,osl,rfl,lk,hcd⟩:=F.ex;refine zV lk hcd S len λ A outer s H vs Q E hr hsp=>?_;obtain⟨t,h,q⟩:=hbody cdv A outer s H vs Q E hr hsp;exact⟨t,h.nox,q⟩
theorem Fun.binds{x qual:Str}{st:Stmt}{f:Addr}{fd:FuncData}{ps:List Str}(F:Fun K x qual st f fd)
  (h:∀ (kV doc pm:Value) (an:Option Addr) (cdv ct:Value) (us:List Value),us.length=ps.length->bindArgs (W.fnOf x qual (cv st) (bN st) (au st) .none kV doc pm an cdv ct) ⟨us,[]⟩=pure (ps.zip us)):Binds K fd ps []:=by
 obtain⟨oc,od,kV,doc,pm,an,cdv,ct,osl,rfl,lk,hcd⟩:=F.ex;exact .all (h kV doc pm an cdv ct)
theorem aaU{x qual:Str}{st:Stmt}{f:Addr}{oc:Value}{od an:Option Addr}{osl:Array (Option Value)}{kV doc pm cdv ct:Value}(l:K.lookup f=some ⟨oc,od,.func (W.fnOf x qual (cv st) (bN st) (au st) .none kV doc pm an cdv ct),osl⟩)
  (c:W.codeIn K cdv qual=true)(k:W.keepIn K (.ref f)=true):Fun K x qual st f (W.fnOf x qual (cv st) (bN st) (au st) .none kV doc pm an cdv ct):=⟨⟨oc,od,kV,doc,pm,an,cdv,ct,osl,rfl,l,c⟩,k⟩
end
theorem d6{A:Around}{k:Nat}(hr:er k A):A.units+1<cLine:=Nat.lt_of_le_of_lt (Nat.add_le_add_left (by decide:1<=64) _) hr.units
section
variable {X:Cx}
end
theorem dF{A B:Prop}(h:B):if false=true then A else B:=by rw[if_neg Bool.false_ne_true];exact h
theorem fK{A B:Prop}(h:A):if true=true then A else B:=by rw[if_pos rfl];exact h
section
variable {κ:Type}[DecidableEq κ]
def mJ(kvs:List (κ×V))(k:κ):Option V:=(kvs.find? λ kv=>decide (kv.1=k)).map (·.2)
def putK(kvs:List (κ×V))(k:κ)(v:V):List (κ×V):=
 if (kvs.any λ kv=>decide (kv.1=k))=true then kvs.map (λ kv=>if kv.1=k then (kv.1,v) else kv) else kvs++[(k,v)]
theorem iG{p:κ×V}{r:List (κ×V)}{k:κ}(e:p.1=k):mJ (p::r) k=some p.2:=by simp[mJ,List.find?_cons,e]
theorem iH{p:κ×V}{r:List (κ×V)}{k:κ}(e:¬ p.1=k):mJ (p::r) k=mJ r k:=by simp[mJ,List.find?_cons,e]
theorem iD(k:κ):∀ kvs:List (κ×V),(kvs.any λ kv=>decide (kv.1=k))=(mJ kvs k).isSome
 | []=>rfl
 | p::r=>by
  rw[List.any_cons]
  by_cases e:p.1=k
  ·simp only[iG e,decide_eq_true e,Bool.true_or,Option.isSome_some]
  ·rw[iH e,decide_eq_false e,Bool.false_or];exact iD k r
theorem eD(kvs:List (κ×V))(k:κ)(v:V):(putK kvs k v).length<=kvs.length+1:=by
 unfold putK
 split
 ·rw[List.length_map];omega
 ·rw[List.length_append,List.length_cons,List.length_nil];omega
theorem ux{kvs:List (κ×V)}{k:κ}(v:V)(h:mJ kvs k=none):putK kvs k v=kvs++[(k,v)]:=by
 unfold putK;rw[iD,h];exact if_neg (by decide)
theorem rq.eU{o:Option V}{u:Option Value}(r:rq o u):o.isSome=u.isSome:=by
 cases o with
 | none=>cases u with
  | none=>rfl
  | some _=>exact(show False from r).elim
 | some _=>cases u with
  | none=>exact(show False from r).elim
  | some _=>rfl
theorem rq.getD{o:Option V}{u:Option Value}{d:V}{d':Value}(r:rq o u)(rd:RelV d d'):RelV (o.getD d) (u.getD d'):=by
 cases o with
 | none=>cases u with
  | none=>exact rd
  | some _=>exact(show False from r).elim
 | some _=>cases u with
  | none=>exact(show False from r).elim
  | some _=>exact r
theorem KV.val{kvs:List (κ×V)}{vs:List (κ×Value)}(r:KV kvs vs)(k:κ):rq (mJ kvs k) (valueAt vs k):=by
 unfold KV at r
 induction r with
 | nil=>exact True.intro
 | @cons p q ps qs h t ih =>
  obtain⟨h1,h2⟩:=h
  by_cases e:p.1=k
  ·have e':q.1=k:=h1.symm.trans e;have b:valueAt (q::qs) k=some q.2:=by simp[valueAt,List.find?_cons,e']
   rw[iG e,b];exact h2
  ·have e':¬ q.1=k:=λ z=>e (h1.trans z);have b:valueAt (q::qs) k=valueAt qs k:=by simp[valueAt,List.find?_cons,e']
   rw[iH e,b];exact ih
theorem KV.any{kvs:List (κ×V)}{vs:List (κ×Value)}(r:KV kvs vs)(k:κ):(kvs.any λ kv=>decide (kv.1=k))=vs.any λ kv=>decide (kv.1=k):=by
 unfold KV at r
 induction r with
 | nil=>rfl
 | cons h t ih=>rw[List.any_cons,List.any_cons,ih,h.1]
theorem KV.ac4{kvs:List (κ×V)}{vs:List (κ×Value)}(r:KV kvs vs)(k:κ){y:V}{u:Value}(ry:RelV y u) :
  KV (kvs.map λ kv=>if kv.1=k then (kv.1,y) else kv) (vs.map λ kv=>if kv.1=k then (kv.1,u) else kv):=by
 unfold KV at r ⊢
 induction r with
 | nil=>exact .nil
 | @cons p q ps qs h t ih =>
  rw[List.map_cons,List.map_cons];refine .cons ?_ ih;obtain⟨h1,h2⟩:=h
  by_cases e:p.1=k
  ·rw[if_pos e,if_pos (h1.symm.trans e)];exact⟨h1,ry⟩
  ·rw[if_neg e,if_neg (λ z=>e (h1.trans z))];exact⟨h1,h2⟩
theorem KV.put{kvs:List (κ×V)}{vs:List (κ×Value)}(r:KV kvs vs)(k:κ){y:V}{u:Value}(ry:RelV y u):KV (putK kvs k y) (stored vs k u):=by
 unfold putK stored;rw[r.any k]
 by_cases e:(vs.any λ kv=>decide (kv.1=k))=true
 ·rw[if_pos e,if_pos e];exact r.ac4 k ry
 ·rw[if_neg e,if_neg e];exact Paired.snoc r ⟨rfl,ry⟩
theorem KV.length{kvs:List (κ×V)}{vs:List (κ×Value)}(r:KV kvs vs):kvs.length=vs.length:=Paired.length r
end
theorem kZ{P:Program}{w:World}{k:Key}{u:Value}(r:RelV (kV k) u):(aQ P w).is k u=true:=by
 cases k with
 | inl i=>obtain⟨t,e⟩:=(show ∃ t,u=Value.int i t from r);subst e;exact m9 P w i t
 | inr x=>obtain⟨t,e⟩:=(show ∃ t,u=Value.str x t from r);subst e;exact mP P w x t
theorem jy{P:Program}{w:World}:∀ {ks:List Key} {us:List Value},Vals (ks.map kV) us->ItemsAre (aQ P w) ks us
 | [],_,r=>by rw[List.map_nil] at r;cases r;exact .nil
 | k::ks,_,r=>by
  rw[List.map_cons] at r;cases r with
  | cons h t=>exact .cons (kZ h) (jy t)
abbrev KT(H:Hp):List (List Key×V)->List (List Key×Addr×Value)->Prop:=Paired λ p q=>p.1=q.1/\H q.2.1=some (.tup (p.1.map kV))/\RelV p.2 q.2.2
theorem KT.val{H:Hp}{kvs:List (List Key×V)}{xs:List (List Key×Addr×Value)}(r:KT H kvs xs)(k:List Key):rq (mJ kvs k) ((atKey xs k).map (·.2)):=by
 induction r with
 | nil=>exact True.intro
 | @cons p q ps qs h t ih =>
  obtain⟨h1,_,h2⟩:=h
  by_cases e:p.1=k
  ·have e':q.1=k:=h1.symm.trans e;have b:atKey (q::qs) k=some q.2:=by simp[atKey,List.find?_cons,e']
   rw[iG e,b];exact h2
  ·have e':¬ q.1=k:=λ z=>e (h1.trans z);have b:atKey (q::qs) k=atKey qs k:=by simp[atKey,List.find?_cons,e']
   rw[iH e,b];exact ih
theorem KT.ac4{H:Hp}{kvs:List (List Key×V)}{xs:List (List Key×Addr×Value)}(r:KT H kvs xs)(k:List Key){y:V}{u:Value}(ry:RelV y u) :
  KT H (kvs.map λ kv=>if kv.1=k then (kv.1,y) else kv) (xs.map (putAt k u)):=by
 induction r with
 | nil=>exact .nil
 | @cons p q ps qs h t ih =>
  rw[List.map_cons,List.map_cons];refine .cons ?_ ih;obtain⟨h1,h2,h3⟩:=h;unfold putAt
  by_cases e:p.1=k
  ·rw[if_pos e,if_pos (h1.symm.trans e)];exact⟨h1,h2,ry⟩
  ·rw[if_neg e,if_neg (λ z=>e (h1.trans z))];exact⟨h1,h2,h3⟩
theorem KT.put{H:Hp}{kvs:List (List Key×V)}{xs:List (List Key×Addr×Value)}(r:KT H kvs xs)(k:List Key){b:Addr}{y:V}{u:Value}(hb:H b=some (.tup (k.map kV)))(ry:RelV y u) :
  KT H (putK kvs k y) (storedH xs k b u):=by
 have e:(kvs.any λ kv=>decide (kv.1=k))=(atKey xs k).isSome:=by rw[iD,(r.val k).eU,Option.isSome_map]
 unfold putK storedH;rw[e]
 by_cases q:(atKey xs k).isSome=true
 ·rw[if_pos q,if_pos q];exact r.ac4 k ry
 ·rw[if_neg q,if_neg q];exact Paired.snoc r ⟨rfl,hb,ry⟩
theorem KT.keeps{H H':Hp}{kvs:List (List Key×V)}{xs:List (List Key×Addr×Value)}(r:KT H kvs xs)(ht:∀ b ys,H b=some (.tup ys)->H' b=some (.tup ys)):KT H' kvs xs:=
 Paired.fM r λ _ _ z=>⟨z.1,ht _ _ z.2.1,z.2.2⟩
section
variable {P:Program}{w:World}{H:Hp}{h:Heap}{a:Addr}
theorem ab3{u:HO}(ok:HOk P w H h)(e:Rd H a u):cM P w H h a u:=e.ok ok
theorem vH{kvs:List (Key×V)}(ok:HOk P w H h)(e:Rd H a (.dK kvs)):kvs.length<=sizeLine/\(a==sysModules)=false/\∃ vs,KV kvs vs/\h.DictOf (aQ P w) a vs:=
 show cM P w H h a (.dK kvs) from ab3 ok e
theorem vn{kvs:List (Key×V)}(ok:HOk P w H h)(e:H a=some (.dK kvs)):kvs.length<=sizeLine/\(a==sysModules)=false/\∃ vs,KV kvs vs/\h.DictOf (aQ P w) a vs:=vH ok (.inl e)
theorem wR{ks:List Key}(ok:HOk P w H h)(e:H a=some (.tup (ks.map kV))):(tupleKind (aQ P w)).is h ks a:=by obtain⟨_,its,r,o,h1,h2,_,n,h3⟩:=(show cM P w H h a (.tup (ks.map kV)) from ok a _ e);exact⟨o,its.toArray,n,h1,h2,h3,by simpa using jy r⟩
theorem qY{kvs:List (List Key×V)}(ok:HOk P w H h)(e:Rd H a (.dT kvs)):kvs.length<=sizeLine/\(a==sysModules)=false /\
  ∃ xs,KT H kvs xs/\h.DictOfH (tupleKind (aQ P w)) a xs:=by
 obtain⟨z,y,xs,r,o,es,ep,h1,h2,h3,h4,h5⟩:=(show cM P w H h a (.dT kvs) from ab3 ok e);refine⟨z,y,xs,r,o,es,ep,h1,h2,h3,h4,λ x hx=>?_,h5⟩;have all:∀ {l:List (List Key×V)} {m:List (List Key×Addr×Value)},KT H l m->∀ x∈m,(tupleKind (aQ P w)).is h x.1 x.2.1:=by
  intro l m q
  induction q with
  | nil=>intro x hx;exact nomatch hx
  | @cons p q ps qs hq t ih =>
   intro x hx;rcases List.mem_cons.mp hx with e | hx
   ·subst e;exact wR ok (by rw[<- hq.1];exact hq.2.1)
   ·exact ih x hx
 exact all r x hx
theorem acY{kvs:List (List Key×V)}(ok:HOk P w H h)(e:H a=some (.dT kvs)):kvs.length<=sizeLine/\(a==sysModules)=false /\
  ∃ xs,KT H kvs xs/\h.DictOfH (tupleKind (aQ P w)) a xs:=qY ok (.inl e)
end
def adZ(H:Hp)(a:Addr)(y v:V)(H':Hp):Prop:=
 (∃ kvs k,H a=some (.dK kvs)/\y=kV k/\kvs.length<sizeLine/\H'=upd H a (.dK (putK kvs k v))) \/
 ∃ kvs k b,H a=some (.dT kvs)/\y=.ref b/\H b=some (.tup (k.map kV))/\kvs.length<sizeLine/\H'=upd H a (.dT (putK kvs k v))
section
variable {X:Cx}{pins:PN}{σ:St}{H:Hp}{s:Shared}{a:Addr}{y v:V}{u r:Value}{o:Option V}{A:Around}{E:VP}
theorem Inv.big(I:Inv X pins σ H s):sysModules<s.heap.objs.size:=by have h:mainGlobals<s.heap.objs.size:=(I.mod.glob.keeps I.bk).lt;exact Nat.lt_trans (by decide) h
theorem kX{h':Heap}{t':Nat}{ob:HO}(I:Inv X pins σ H s)(mu:Mut (H a))(hs:Heap.SameBut a s.heap h')(he:∃ q,h'.get? a=some q)(new:cM X.prog X.w (upd H a ob) h' a ob) :
  Inv X pins σ (upd H a ob) {s with heap:=h',toks:=t'}:=
 I.write (x:=a) (e:=a) mu (.inl rfl) (λ b q hb z=>(hs.2 b hb).trans z) he new
theorem oj{P:Program}{w:World}{H':Hp}{h':Heap}{kvs:List (Key×V)}{vs:List (Key×Value)}(z:kvs.length<=sizeLine)(hd:(a==sysModules)=false)(rel:KV kvs vs)(dd:h'.DictOf (aQ P w) a vs) :
  cM P w H' h' a (.dK kvs):=⟨z,hd,vs,rel,dd⟩
theorem qW{H':Hp}{Q:Unit->Shared->Prop}(hu:A.units+1<cLine)(I:Inv X pins σ H s)(g:adZ H a y v H')(ry:RelV y u)(rv:RelV v r)(h:∀ s',Inv X pins σ H' s'->Q () s') :
  wpAny (model X.prog X.w) A (setItem (.ref a) u r) Q E s:=by
 rcases g with ⟨kvs,k,e,ey,l,eH⟩ | ⟨kvs,k,b,e,ey,eb,l,eH⟩
 ·subst ey eH;obtain⟨z,hd,vs,rel,dd⟩:=vn I.hok e;have hz:vs.length<=sizeLine:=by rw[<- rel.length];exact z
  have hl:(putK kvs k v).length<=sizeLine:=by have:=eD kvs k v;omega
  refine wpAny_setItem_pairs (hsz:=hz) (kZ ry) dd λ h' dd' hs=>h _ ?_;have he:∃ q,h'.get? a=some q:=let ⟨q,_,_,hq,_⟩:=dd'; ⟨q,hq⟩;exact kX I (by rw[e];exact True.intro) hs he (oj hl hd (rel.put k rv) dd')
 ·subst ey eH;cases (show u=Value.ref b from ry);obtain⟨z,hd,xs,rel,dd⟩:=acY I.hok e;have hz:xs.length<=sizeLine:=by rw[<- Paired.length rel];exact z
  have hl:(putK kvs k v).length<=sizeLine:=by have:=eD kvs k v;omega
  refine wpAny_setItem_heap (hsz:=hz) (tupleKind_room_in1 hu) (wR I.hok eb) dd λ h' dd' hs=>h _ ?_;obtain⟨q,es,ep,hq,h2,h3,h4,_,h5⟩:=dd';refine kX I (by rw[e];exact True.intro) hs ⟨q,hq⟩ ⟨hl,hd,_,(rel.put k eb rv).keeps λ c ys ec=>?_,q,es,ep,hq,h2,h3,h4,h5⟩;rw[aj (pZ ec e (λ z=>nomatch z))];exact ec
end
section
variable {X:Cx}{pins:PN}{σ:St}{H:Hp}{s:Shared}{a:Addr}{kvs:List (Key×V)}{k:Key}{u:Value}{A:Around}{E:VP}
end
def acb(i:Expr):Prop:=∀ ov iv,subscripted i false ov iv=operate [ov,iv] (getItem ov iv)
theorem yN{prog:Program}{w:World}{A:Around}{E:VP}{s:Shared}{env:Env}{value slice:Expr}{pos:Pos}{T id:String}{Q:VP}
  (hl:typeLookup (.type T) "__getitem__" = pure (some (.builtin id)))(hs:acb slice)
  (h:wpAny (model prog w) A (eval value env) (λ o s₁=>wpAny (model prog w) A (eval slice env) (λ i s₂=>s₂.TypeIs o T/\wpAny (model prog w) A (getItem o i) Q E s₂) E s₁) E s) :
  wpAny (model prog w) A (eval (.Subscript value slice pos) env) Q E s:=by
 refine Subscript_ (wpAny_mono h (λ o s₁ h₁=>wpAny_mono h₁ (λ i s₂ h₂=>?_) λ _ _ x=>x) λ _ _ x=>x);obtain⟨hT,h₂⟩:=h₂;unfold subscriptTail;refine wpAny_bind ?_;rw[getitemInPython_of_ne hT.not_modules];refine wpAny_bind (wpAny_specialOf hT hl ?_);have fin:wpAny (model prog w) A (subscripted slice false o i) (λ r s₃=>wpAny (model prog w) A (letTemporaryGo value o r >>= λ _=>pure r) Q E s₃) E s₂:=by rw[hs o i];exact wpAny_operating (wpAny_mono h₂ (λ r s₃ h₃=>wpAny_bind (wpAny_letTemporaryGo (wpAny_pure h₃))) λ _ _ x=>x)
 first
  | exact wpAny_pure (wpAny_bind fin)
  | exact wpAny_bind (wpAny_pure (wpAny_bind fin))
  | exact wpAny_bind fin
def adb(td ty tv:TE):TS:=λ D σ H=>tv σ H λ v H1=>td σ H1 λ x H2=>ty σ H2 λ y H3=>∃ a H4,x=.ref a/\adZ H3 a y v H4/\D.nx σ H4
section
variable {X:Cx}{o i e value:Expr}{pos pos' tpos:Pos}{td ty tv:TE}
theorem yJ(hu:X.A.units+1<cLine)(ho:PE X o td)(hi:PE X i ty)(hv:PE X value tv)(hs:swapsWith value (some (.Subscript o i pos')) pos.line X.env=pure false) :
  PS X (.Assign [.Subscript o i pos'] value pos) (adb td ty tv):=by
 intro pins s σ H D I h;refine wpAny_Assign_Subscript (thn (hv pins s σ H _ I h) λ r s1 ⟨v,H1,I1,rv,q1⟩=>thn (ho pins s1 σ H1 _ I1 q1) λ u s2 ⟨x,H2,I2,rx,q2⟩=>thn (hi pins s2 σ H2 _ I2 q2) λ iv s3 ⟨y,H3,I3,ry,a,H4,ex,g,q3⟩=>?_) hs;subst ex;obtain rfl:u=Value.ref a:=rx;exact qW hu I3 g ry rv λ s4 I4=>⟨σ,H4,I4,q3⟩
end
theorem j4{P:Program}{w:World}{H:Hp}(h:Heap)(hb:sysModules<h.objs.size):cM P w H (h.push {cls:=.type "dict",data:=.dict #[]}) h.objs.size (.dK []):=
 ⟨Nat.zero_le _,beq_eq_false_iff_ne.mpr (Ne.symm (Nat.ne_of_lt hb)),[],.nil,Heap.DictOf.new h⟩
def abm:TE:=λ _ H Q=>∀ p,H p=none->Q (.ref p) (upd H p (.dK []))
section
variable {X:Cx}{pos:Pos}
theorem vc:PE X (.Dict [] [] pos) abm:=λ pins s σ H Q I h =>
 wpAny_Dict_empty ⟨.ref s.heap.objs.size,_,I.laid (a:=s.heap.objs.size) (o:=.dK []) (t':=s.toks) (λ _ _ q=>Heap.get?_push_of_some _ q) (Nat.le_refl _) (j4 s.heap I.big),rfl,h _ (I.hok.fresh (Nat.le_refl _))⟩
end
def o6:List (TE×TE)->St->Hp->(List (V×V)->Hp->Prop)->Prop
 | [],_,H,Q=>Q [] H
 | (tk,tv)::r,σ,H,Q=>tk σ H λ x H1=>tv σ H1 λ y H2=>o6 r σ H2 λ ps H3=>Q ((x,y)::ps) H3
abbrev VV:List (V×V)->List (Value×Value)->Prop:=Paired λ p q=>RelV p.1 q.1/\RelV p.2 q.2
def PPs(X:Cx)(pos:Pos)(keys:List (Option Expr))(values:List Expr)(trs:List (TE×TE)):Prop:=
 ∀ (pins:PN) (s:Shared) (σ:St) (H:Hp) (Q:List (V×V)->Hp->Prop),Inv X pins σ H s->o6 trs σ H Q ->
  wpAny (model X.prog X.w) X.A (evalPairs (pairTrees keys values X.env pos)) (λ vs s'=>∃ ps H',Inv X pins σ H' s'/\VV ps vs/\Q ps H') X.xe s
theorem zq{X:Cx}{pos:Pos}:PPs X pos [] [] []:=λ pins s σ H Q I h=>pairTrees_nil_walk ⟨[],H,I,.nil,h⟩
theorem vR{X:Cx}{pos:Pos}{k v:Expr}{ks:List (Option Expr)}{vs:List Expr}{tk tv:TE}{trs:List (TE×TE)}(hk:PE X k tk)(hv:PE X v tv)(hr:PPs X pos ks vs trs) :
  PPs X pos (some k::ks) (v::vs) ((tk,tv)::trs):=λ pins s σ H Q I h =>
 pairTrees_cons_walk (thn (hk pins s σ H _ I h) λ u s1 ⟨x,H1,I1,rx,q1⟩=>thn (hv pins s1 σ H1 _ I1 q1) λ w2 s2 ⟨y,H2,I2,ry,q2⟩ =>
  thn (hr pins s2 σ H2 _ I2 q2) λ ws s3 ⟨ps,H3,I3,rel,q3⟩=>⟨(x,y)::ps,H3,I3,.cons ⟨rx,ry⟩ rel,q3⟩)
def gk(kvs more:List (Key×V)):List (Key×V):=more.foldl (λ acc kv=>putK acc kv.1 kv.2) kvs
theorem KV.merge:∀ {more:List (Key×V)} {rs:List (Key×Value)} {kvs:List (Key×V)} {vs:List (Key×Value)},KV more rs->KV kvs vs->KV (gk kvs more) (merged vs rs):=by
 intro more rs kvs vs r;unfold KV at r
 induction r generalizing kvs vs with
 | nil=>intro q;exact q
 | @cons p q ps qs h t ih =>
  intro r0;have e:KV (putK kvs p.1 p.2) (stored vs q.1 q.2):=by have:=r0.put p.1 h.2;rw[<- h.1];exact this
  exact ih e
theorem gg:∀ (more kvs:List (Key×V)),(gk kvs more).length<=kvs.length+more.length
 | [],kvs=>by show kvs.length<=kvs.length+0;omega
 | p::r,kvs=>by have h1:=gg r (putK kvs p.1 p.2);have h2:=eD kvs p.1 p.2;show(gk (putK kvs p.1 p.2) r).length<=_;rw[List.length_cons];omega
theorem jV{P:Program}{w:World}:∀ {kvs:List (Key×V)} {ws:List (Value×Value)},VV (kvs.map λ kv=>(kV kv.1,kv.2)) ws->∃ rs,Carries (aQ P w) ws rs/\KV kvs rs
 | [],_,r=>by rw[List.map_nil] at r;cases r;exact⟨[],True.intro,.nil⟩
 | p::kvs,_,r=>by
  rw[List.map_cons] at r;cases r with
  | @cons a b as bs h t =>
   obtain⟨rs,c,q⟩:=jV (P:=P) (w:=w) t;obtain⟨b1,b2⟩:=b;exact⟨(p.1,b2)::rs,⟨kZ h.1,rfl,c⟩,.cons ⟨rfl,h.2⟩ q⟩
def acz(trs:List (TE×TE)):TE:=λ σ H Q=>∀ p,H p=none->o6 trs σ (upd H p (.dK [])) λ ps H2=>H2 p=some (.dK [])/\∃ kvs:List (Key×V),ps=kvs.map (λ kv=>(kV kv.1,kv.2))/\kvs.length<=15/\Q (.ref p) (upd H2 p (.dK (gk [] kvs)))
theorem ze{X:Cx}{pos:Pos}{keys:List (Option Expr)}{values:List Expr}{trs:List (TE×TE)}(h:PPs X pos keys values trs)(hall:keys.all (·.isSome)=true)(hl:keys.length=values.length)(h0:keys≠[])
  (h15:keys.length<=15):PE X (.Dict keys values pos) (acz trs):=by
 intro pins s σ H Q I q;have hn:=I.hok.fresh (Nat.le_refl s.heap.objs.size);have I1:=I.laid (a:=s.heap.objs.size) (o:=.dK []) (h':=s.heap.push {cls:=.type "dict",data:=.dict #[]}) (t':=s.toks) (λ _ _ q=>Heap.get?_push_of_some _ q) (Nat.le_refl _) (j4 s.heap I.big);refine wpAny_Dict_walk (knd:=aQ X.prog X.w) hall hl h0 h15 (thn (h pins _ σ _ _ I1 (q _ hn)) λ ws s2 hq25=>?_);obtain⟨ps,H2,I2,rel,e,kvs,ep,lk,q2⟩:=hq25;subst ep;obtain⟨rs,c,rk⟩:=jV (P:=X.prog) (w:=X.w) rel;obtain⟨z,hd,vs0,r0,dd⟩:=vn I2.hok e;cases r0;refine⟨rs,c,dd,λ h' dd' hs=>⟨.ref s.heap.objs.size,_,?_,rfl,q2⟩⟩;have hz:(gk [] kvs).length<=sizeLine:=by have h1:=gg kvs [];rw[List.length_nil] at h1;rw[sizeLine_eq];omega
 have he:∃ q,h'.get? s.heap.objs.size=some q:=let ⟨q,_,_,hq,_⟩:=dd'; ⟨q,hq⟩;exact kX I2 (by rw[e];exact True.intro) hs he (oj hz hd (rk.merge .nil) dd')
structure M2(X:Cx)(o:Expr)(m:Str)(apos:Pos)(e f:Expr)(cpos:Pos):Prop where
 base:attributeBase o m X.env (eval o X.env)=eval o X.env
 few:((backTo cpos (starEach [e,f] X.env)).all (λ x=>!x.1)&&(backToKw cpos (keywordEach [] X.env)).all (λ x=>x.1.isSome)
  && decide (([e,f]:List Expr).length+([]:List Keyword).length+(if ([]:List Keyword).isEmpty then 0 else 1)<30))=true
 line:(apos.endLine==cpos.line)=true
 trees:backTo cpos (starEach [e,f] X.env)=[(false,eval e X.env),(false,eval f X.env)]
def IsD(H:Hp)(a:Addr):Prop:=(∃ kvs,Rd H a (.dK kvs))\/∃ kvs,Rd H a (.dT kvs)
theorem abc{X:Cx}{pins:PN}{σ:St}{H:Hp}{s:Shared}{a:Addr}(I:Inv X pins σ H s)(d:IsD H a) :
  s.TypeIs (.ref a) "dict" /\ (∀ b,Value.ref a=.ref b->∃ ob,s.heap.get? b=some ob/\ob.dict=none)/\(a==sysModules)=false:=by
 rcases d with ⟨kvs,e⟩ | ⟨kvs,e⟩
 ·obtain⟨_,hd,vs,_,dd⟩:=vH I.hok e;refine⟨dd.typeIs,λ b q=>?_,hd⟩;cases q;obtain⟨ob,_,_,h1,h2,_⟩:=dd;exact⟨ob,h1,h2.2.1⟩
 ·obtain⟨_,hd,xs,_,dd⟩:=qY I.hok e;refine⟨dd.typeIs,λ b q=>?_,hd⟩;cases q;obtain⟨ob,_,_,h1,h2,_⟩:=dd;exact⟨ob,h1,h2.2.1⟩
section
variable {X:Cx}{pins:PN}{σ:St}{H:Hp}{s:Shared}{a:Addr}{y d:V}{u r:Value}{o:Option V}{A:Around}{E:VP}
end
section
variable {X:Cx}{o e f:Expr}{apos cpos:Pos}{td ty tx:TE}
end
section
variable {X:Cx}{pins:PN}{σ:St}{H:Hp}{s:Shared}{a:Addr}{kvs:List (Key×V)}{A:Around}{E:VP}
end
section
variable {X:Cx}{pins:PN}{σ:St}{H:Hp}{s:Shared}{a:Addr}{y:V}{u:Value}{A:Around}{E:VP}
end
end L2
set_option maxHeartbeats 0
namespace L2
def Fz:HO->Prop
 | .lst _=>True
 | .dK _=>True
 | _=>False
theorem aaG(e:H p=some u)(f:Fz u):Un fs ex H (upd H p (.frz o u)) h h where
 keep:=λ b ob q _ _ _=>q
 slot:=λ b ob q _ _ _=>⟨ob.slots,q⟩
 free:=λ b ob _ n _=>by rw[aj (Ne.symm (aE e n))];exact n
 there:=λ b ob q _=>⟨ob,q⟩
 tups:=λ b xs q=>by
  have:b≠p:=λ z=>by subst z;rw[e] at q;cases q;exact f
  rw[aj this];exact q
 frzs:=λ b ob v q=>by
  have:b≠p:=λ z=>by subst z;rw[e] at q;cases q;exact f
  rw[aj this];exact q
 tbls:=λ b ps q=>by
  have:b≠p:=λ z=>by subst z;rw[e] at q;cases q;exact f
  exact⟨#[],by rw[aj this,q];simp⟩
theorem cM.abg(f:Fz u)(x:cM P w H h a u):cM P w H' h a u:=by
 cases u with
 | lst xs=>exact x
 | dK kvs=>exact x
 | _=>exact f.elim
theorem cM.obj(f:Fz u)(x:cM P w H h a u):∃ o,h.get? a=some o:=by
 cases u with
 | lst xs=>obtain⟨_,_,_,_,e⟩:=x;exact⟨_,e⟩
 | dK kvs=>obtain⟨_,_,_,_,o,_,_,e,_⟩:=x;exact⟨o,e⟩
 | _=>exact f.elim
theorem Inv.freeze(I:Inv X pins σ H s)(e:H p=some u)(f:Fz u):∃ o,Inv X pins σ (upd H p (.frz o u)) s:=by
 obtain⟨o,ho⟩:=(I.hok p u e).obj f;refine⟨o,I.un (h':=s.heap) (t':=s.toks) (aaG e f) λ b v q=>?_⟩
 by_cases hb:b=p
 ·subst hb;rw[aq] at q;cases q;exact⟨ho,(I.hok b u e).abg f⟩
 ·rw[aj hb] at q;refine(I.hok b v q).qV (λ _ _ _ q=>q) (λ c r=>?_) λ c xs r=>?_
  ·have:c≠p:=λ z=>by subst z;rw[e] at r;cases r;exact f
   rw[aj this];exact r
  ·have:c≠p:=λ z=>by subst z;rw[e] at r;cases r;exact f
   rw[aj this];exact r
def adT(t:TE):TE:=λ σ H Q=>t σ H λ v H1=>∃ p u,v=.ref p/\H1 p=some u/\Fz u/\∀ o,Q v (upd H1 p (.frz o u))
theorem mD(h:PE X e t):PE X e (adT t):=by intro pins s σ H Q I hq;refine thn (h pins s σ H _ I hq) λ v s1 hq26=>?_;obtain⟨x,H1,I1,r1,p,u,e1,e2,f,q⟩:=hq26;obtain⟨o,I2⟩:=I1.freeze e2 f;exact⟨x,_,I2,r1,q o⟩
theorem Inv.yo(I:Inv X pins σ H s)(e:s.heap.get? D=some {cls:=.type "list",data:=.seq us.toArray n})(hn:H D=none)(hv:Vals ys us)(hz:ys.length<=sizeLine)
  (h0:X.s₀.heap.objs.size<=D)(hL:D≠X.env.locals)(hc:∀ x c,X.env.cells.lookup x=some c->c≠D)(hp:∀ p∈X.pn++pins,p.1≠D):Inv X pins σ (upd H D (.lst ys)) s:=by
 have ne:∀ b u,H b=some u->b≠D:=λ b u q=>aE q hn;refine I.step (h':=s.heap) (g':=s.gens) (d':=s.drawn) (t':=s.toks) (ch:=[D]) (λ b hb=>?_) (λ b o _ _ _ q _=>q) (λ b o _ _ _ q _=>⟨o.slots,q⟩) (λ b o hb q n=>?_) (λ b o _ q=>⟨o,q⟩)
  (λ b xs q=>by rw[aj (ne b _ q)];exact q) (λ b o u q=>by rw[aj (ne b _ q)];exact q) (λ b ps q=>⟨#[],by rw[aj (ne b _ q),q];simp⟩) (λ m hm=>hm) (λ b u q=>?_) I.bare
 ·have e:b=D:=by simpa using hb
  subst e;exact⟨.inr h0,hL,hc,hp⟩
 ·rw[aj (λ z=>hb (by simp[z]))];exact n
 ·by_cases hb:b=D
  ·subst hb;rw[aq] at q;cases q;exact⟨hz,us,n,hv,e⟩
  ·rw[aj hb] at q;exact(I.hok b u q).qV (λ _ _ _ q=>q) (λ c r=>by rw[aj (ne c _ r)];exact r) λ c xs r=>by rw[aj (ne c _ r)];exact r
abbrev mS(ifs:List Expr)(env:Env):Sem Bool:=forIn ifs true λ c r=>if r=true then do let ok <- isTrue c env (eval c env);pure (ForInStep.yield ok) else pure (ForInStep.yield r)
theorem hV(I:Nat->Shared->Prop)
  (turn:∀ n s,I n s->wpAny (model prog w) A (pyNext it) (λ r s₁=>match r with
   | none=>R (.ok .next) s₁
   | some v=>wpAny (model prog w) A (letOwnedTupleGo target it v) (λ _ s₁'=>wpAny (model prog w) A (assign target env v) (λ _ s₂ =>
     wpAny (model prog w) A (mS ifs env) (λ ok s₃ =>
      if ok=true then wpAny (model prog w) A (eval elt env) (λ x s₄ =>
       wpAny (model prog w) A (call (.builtin "list.append") [acc,x]) (λ _ s₅=>∃ m,m<n/\I m s₅) (λ _ _=>False) s₄) (λ _ _=>False) s₃
      else ∃ m,m<n/\I m s₃) (λ _ _=>False) s₂) (λ _ _=>False) s₁') (λ _ _=>False) s₁) (λ _ _=>False) s)
  (n:Nat)(h:I n s) :
  codeAny (model prog w) A (.compLoop (.ListComp elt [⟨target,iter,ifs,0⟩] scope pos) 0 it acc env) R s:=by
 refine codeAny_loop rfl I (λ n s hI=>?_) n h;show wpAny _ A ((compTurn (.ListComp elt [⟨target,iter,ifs,0⟩] scope pos) 0 it acc env).onRaise (λ x=>do noteFrame x env;theTreesLotGoes x)) _ _ s;refine wpAny_noted ?_;rw[compTurn_list];refine wpAny_bind (wpAny_standAt (wpAny_bind (wpAny_mono (turn n s hI) (λ r s₁ h₁=>?_) λ _ _ h'=>h'.elim)));cases r with
 | none=>exact wpAny_pure h₁
 | some v =>
  refine wpAny_bind (wpAny_mono h₁ (λ _ s₁' h₁'=>?_) λ _ _ h'=>h'.elim);refine wpAny_bind (wpAny_mono h₁' (λ _ s₂ h₂=>wpAny_bind (wpAny_mono h₂ (λ ok s₃ h₃=>?_) λ _ _ h'=>h'.elim)) λ _ _ h'=>h'.elim);cases ok with
  | false=>exact wpAny_pure ⟨rfl,h₃⟩
  | true =>
   exact wpAny_bind (wpAny_bind (wpAny_mono h₃ (λ x s₄ h₄=>wpAny_bind (wpAny_mono h₄ (λ _ s₅ h₅=>wpAny_pure (wpAny_pure ⟨rfl,h₅⟩)) λ _ _ h'=>h'.elim)) λ _ _ h'=>h'.elim))
theorem fc(h:∀ x∈scope.names,x.2=.free->∃ c,env.cells.lookup x.1=some c) :
  ∃ cl,closureFor scope env=pure cl/\(∀ n c,cl.lookup n=some c->env.cells.lookup n=some c)/\(∀ n,(n,NameKind.free)∈scope.names->∃ c,cl.lookup n=some c):=by
 have key:∀ (l:List (Str×NameKind)) (cs:List (Str×Addr)),(∀ x∈l,x.2=.free->∃ c,env.cells.lookup x.1=some c)->(∀ n c,cs.lookup n=some c->env.cells.lookup n=some c) ->
   ∃ cl:List (Str×Addr),(forIn l cs λ x r=>match x with
    | (name,kind)=>if (kind==NameKind.free)=true then do let a <- cellOf env name;pure (ForInStep.yield ((name,a)::r)) else pure (ForInStep.yield r):Sem (List (Str×Addr)))=pure cl /\
    (∀ n c,cl.lookup n=some c->env.cells.lookup n=some c)/\(∀ n c,cs.lookup n=some c->∃ c,cl.lookup n=some c)/\(∀ n,(n,NameKind.free)∈l->∃ c,cl.lookup n=some c):=by
  intro l
  induction l with
  | nil=>intro cs _ hc;exact⟨cs,rfl,hc,λ n c e=>⟨c,e⟩,λ n hn=>nomatch hn⟩
  | cons x l ih =>
   intro cs hl hc;obtain⟨name,kind⟩:=x
   by_cases hk:kind=.free
   ·subst hk;obtain⟨c,e⟩:=hl (name,.free) List.mem_cons_self rfl;obtain⟨cl,h1,h2,h3,h4⟩:=ih ((name,c)::cs) (λ y hy=>hl y (List.mem_cons_of_mem _ hy)) (λ n d q=>by
     rw[List.lookup_cons] at q;cases hb:n==name with
     | true =>
      rw[hb] at q;cases q;rw[eq_of_beq hb];exact e
     | false =>
      rw[hb] at q;exact hc n d q)
    refine⟨cl,?_,h2,λ n d q=>?_,λ n hn=>?_⟩
    ·rw[List.forIn_cons];simp only[beq_self_eq_true,if_true,cellOf,e,pure_bind];exact h1
    ·cases hb:n==name with
     | true=>exact h3 n c (by rw[List.lookup_cons,hb])
     | false=>exact h3 n d (by rw[List.lookup_cons,hb];exact q)
    ·rcases List.mem_cons.mp hn with z | z
     ·cases z;exact h3 name c (by rw[List.lookup_cons];simp)
     ·exact h4 n z
   ·obtain⟨cl,h1,h2,h3,h4⟩:=ih cs (λ y hy=>hl y (List.mem_cons_of_mem _ hy)) hc;refine⟨cl,?_,h2,h3,λ n hn=>?_⟩
    ·rw[List.forIn_cons];have:(kind==NameKind.free)=false:=by simpa using hk
     simp only[this,Bool.false_eq_true,if_false,pure_bind];exact h1
    ·rcases List.mem_cons.mp hn with z | z
     ·cases z;exact absurd rfl hk
     ·exact h4 n z
 obtain⟨cl,h1,h2,_,h4⟩:=key scope.names [] h (λ n c e=>by simp at e);refine⟨cl,?_,h2,h4⟩;unfold closureFor;simp only[bind_pure];exact h1
theorem h9{sc:Scope}{env:Env}{x:Str}:∀ {names:List (Str×NameKind)},(names.map λ(n,k)=>if (k==NameKind.free&&env.scope.kind==.function&&env.kindOf n==some .cell) then (n,NameKind.cell) else (n,k)).lookup x=some .cell \/
  (names.map λ(n,k)=>if (k==NameKind.free&&env.scope.kind==.function&&env.kindOf n==some .cell) then (n,NameKind.cell) else (n,k)).lookup x=some .free->(∀ y∈names,y.2 ≠ .cell)->(x,NameKind.free)∈names
 | [],h,_=>by simp at h
 | (n,k)::r,h,hc=>by
  have ih:=@h9 sc env x r
  by_cases hk:(k==NameKind.free&&env.scope.kind==.function&&env.kindOf n==some .cell)=true
  ·simp only[List.map_cons,if_pos hk,List.lookup_cons] at h;cases hx:x==n with
   | true =>
    have e:=eq_of_beq hx;subst e;simp only[Bool.and_eq_true] at hk;have:=eq_of_beq hk.1.1;subst this;exact List.mem_cons_self
   | false =>
    rw[hx] at h;exact List.mem_cons_of_mem _ (ih h λ y hy=>hc y (List.mem_cons_of_mem _ hy))
  ·simp only[List.map_cons,if_neg hk,List.lookup_cons] at h;cases hx:x==n with
   | true =>
    rw[hx] at h;have e:=eq_of_beq hx;subst e;rcases h with h | h
    ·cases h;exact absurd rfl (hc (x,.cell) List.mem_cons_self)
    ·cases h;exact List.mem_cons_self
   | false =>
    rw[hx] at h;exact List.mem_cons_of_mem _ (ih h λ y hy=>hc y (List.mem_cons_of_mem _ hy))
theorem cz{env:Env}{x:Str}:∀ {names:List (Str×NameKind)},names.lookup x=some .free ->
  (names.map λ(n,k)=>if (k==NameKind.free&&env.scope.kind==.function&&env.kindOf n==some .cell) then (n,NameKind.cell) else (n,k)).lookup x=some .cell \/
  (names.map λ(n,k)=>if (k==NameKind.free&&env.scope.kind==.function&&env.kindOf n==some .cell) then (n,NameKind.cell) else (n,k)).lookup x=some .free
 | [],h=>by simp at h
 | (n,k)::r,h=>by
  have ih:=@cz env x r
  by_cases hk:(k==NameKind.free&&env.scope.kind==.function&&env.kindOf n==some .cell)=true
  ·simp only[List.map_cons,if_pos hk,List.lookup_cons];cases hx:x==n with
   | true=>exact .inl rfl
   | false=>rw[List.lookup_cons,hx] at h;exact ih h
  ·simp only[List.map_cons,if_neg hk,List.lookup_cons];cases hx:x==n with
   | true=>rw[List.lookup_cons,hx] at h;exact .inr h
   | false=>rw[List.lookup_cons,hx] at h;exact ih h
def blk(X:Cx)(sc:Scope)(N':List Str)(cl:List (Str×Addr))(C:Addr)(s:Shared)(H:Hp)(ex:List Addr)(pins:PN):Cx:=
 {X with N:=N',s₀:=s,H₀:=H,env:=compEnvC sc cl C X.env,outer:=X.stack,ex:=ex,fn:=λ _=>false,pn:=X.pn++pins,xe:=λ _ _=>False}
def lcN(X:Cx)(own:List Str)(fr:List Nat):List Str:=own++fr.map λ j=>X.N.getD j Str.empty
def lcS(k:Nat)(fr:List Nat)(σ:St):St:=List.replicate k none++fr.map λ j=>(σ[j]?).getD none
def zp(N:List Str)(sc:Scope)(fr:List Nat):Bool:=fr.all λ j=>match N[j]? with
 | some x=>sc.names.lookup x==some .free
 | none=>false
structure mT(X:Cx)(sc:Scope)(own:List Str)(fr:List Nat):Prop where
 kind:sc.kind=.function
 cell:∀ y∈sc.names,y.2 ≠ .cell
 free:∀ y∈sc.names,y.2=.free->(X.env.kindOf y.1=some .cell\/X.env.kindOf y.1=some .free)
 names:∀ y∈sc.names,y.2=.local->sc.names.lookup y.1=some .local
 fr:zp X.N sc fr=true
def PTs(X:Cx)(ifs:List Expr)(t:TT):Prop:=
 ∀ (pins:PN) (s:Shared) (σ:St) (H:Hp) (Q:Bool->Hp->Prop),Inv X pins σ H s->t σ H Q->wpAny (model X.prog X.w) X.A (mS ifs X.env) (TP X pins σ Q) X.xe s
def ael:TT:=λ _ H Q=>Q true H
theorem xg:PTs X [] ael:=λ _ _ _ H _ I h=>wpAny_tests_nil ⟨H,I,h⟩
theorem xv(h:PT X c t):PTs X [c] t:=λ pins s σ H Q I q=>wpAny_tests_one (h pins s σ H Q I q)
theorem kH(h:zp N sc fr=true)(hj:j∈fr):∃ x,N[j]? =some x/\sc.names.lookup x=some .free:=by
 have q:=List.all_eq_true.mp h j hj;cases e:N[j]? with
 | none=>simp[e] at q
 | some x =>
  simp only[e] at q;exact⟨x,rfl,eq_of_beq q⟩
theorem aax(L:mT X sc own fr)(I:Inv X pins σ H s)(hf:∀ b∈fp,iA X pins H b)(hb:∀ b∈fp,b<s.heap.objs.size)(hC:s.heap.objs.size<=C)
  (c1:∀ n c,cl.lookup n=some c->X.env.cells.lookup n=some c)(c2:∀ n,(n,NameKind.free)∈sc.names->∃ c,cl.lookup n=some c):(blk X sc (lcN X own fr) cl C s H fp pins).Ok where
 mod:=I.ok.mod
 kind:=L.kind
 glob:=I.ok.glob
 blt:=I.ok.blt
 above:=hC
 inj:=λ x y c a b=>I.ok.inj x y c (c1 _ _ a) (c1 _ _ b)
 has:=λ x hx=>c2 x (h9 (sc:=sc) (env:=X.env) hx L.cell)
 cab:=λ x c z=>absurd (show false=true from z) Bool.false_ne_true
 hd:=I.ok.hd
 frames:=I.ok.frames
 stk:=.inl rfl
 exf:=λ b z=>⟨Nat.ne_of_lt (Nat.lt_of_lt_of_le (hb b z) hC),λ x c e=>(hf b z).2.2.2.2.1 x c (c1 _ _ e)⟩
 bs:=I.bs
 bsz:=Nat.le_trans I.ok.bsz I.sz
 noex:=λ b o e z=>by
  rcases(hf b z).2.2.2.1 with q | q
  ·exact I.ok.noex b o e q
  ·exact absurd (Nat.lt_of_lt_of_le (Heap.lt_size e) (Nat.le_trans I.ok.bsz q)) (Nat.lt_irrefl _)
 exfs:=λ b z q=>by
  rcases List.mem_cons.mp (I.eI b q) with e | e
  ·exact(hf b z).2.1 e
  ·exact(hf b z).2.2.1 e
 mH:=I.stack
 frf:=I.kg
theorem si(L:mT X sc own fr)(I:Inv X pins σ H s)(hf:∀ b∈fp,iA X pins H b)(hb:∀ b∈fp,b<s.heap.objs.size)(hC:s.heap.objs.size<=C)
  (c1:∀ n c,cl.lookup n=some c->X.env.cells.lookup n=some c)(c2:∀ n,(n,NameKind.free)∈sc.names->∃ c,cl.lookup n=some c)
(hn:h1.Ns C m) (k:∀ b o,s.heap.get? b=some o->h1.get? b=some o) :
  Inv (blk X sc (lcN X own fr) cl C s H fp pins) [] (lcS own.length fr σ) H {s with heap:=h1,toks:=tk}:=by
 have ok:=aax L I hf hb hC c1 c2;refine⟨ok,rfl,I.bare,Un.kept k,⟨m,hn,λ i x v e1 e2 e3=>?_⟩,λ x c e=>?_,I.hok.fresh hC,λ x c e=>I.freeC x c (c1 _ _ e),λ p hp=>?_,I.hok.kept k,?_⟩
 ·-- one of the names around
  have hi:¬ i<own.length:=λ hi=>by
   unfold lcS at e2;rw[List.getElem?_append_left (by simpa using hi),List.getElem?_replicate] at e2
   split at e2<;>cases e2
  have e1':(lcN X own fr)[i]? =some x:=e1;unfold lcN at e1';unfold lcS at e2;rw[List.getElem?_append_right (by omega),List.getElem?_map] at e1';rw[List.getElem?_append_right (by simpa using hi),List.getElem?_map,List.length_replicate] at e2;cases q:fr[i-own.length]? with
  | none=>rw[q] at e1';cases e1'
  | some j =>
   rw[q] at e1' e2;obtain⟨y,hy,hyf⟩:=kH L.fr (List.mem_of_getElem? q);have ex:y=x:=by have:=Option.some.inj e1';rw[<- this];simp[List.getD,hy]
   subst ex;have ev:σ[j]? =some (some v):=by
    have z:(σ[j]?).getD none=some v:=Option.some.inj e2;cases w:σ[j]? with
    | none=>rw[w] at z;cases z
    | some o=>rw[w] at z;exact congrArg some z
   have hm:(y,NameKind.free)∈sc.names:=PySem.mem_of_lookup hyf;have hk:=L.free _ hm rfl;have vis:Vis X.env.scope y:=by
    rcases hk with z | z
    ·exact .inr (.inl z)
    ·exact .inr (.inr z)
   obtain⟨m0,hn0,hl⟩:=I.loc;obtain⟨u,r,l⟩:=hl j y v hy ev vis;refine⟨u,r,.inr ⟨?_,?_⟩⟩
   ·exact cz (env:=X.env) hyf
   ·obtain⟨c,hc⟩:=c2 y hm;rcases l with ⟨z,_⟩ | ⟨_,c',hc',hcell⟩
    ·rcases hk with q | q
     ·exact absurd (show X.env.kindOf y=some .local from z) (by rw[q];decide)
     ·exact absurd (show X.env.kindOf y=some .local from z) (by rw[q];decide)
    ·have:c=c':=Option.some.inj ((c1 _ _ hc).symm.trans hc');subst this;obtain⟨o,ho,hd⟩:=hcell;exact⟨c,hc,o,k _ _ ho,hd⟩
 ·obtain⟨v,o,ho,hd⟩:=I.cell x c (c1 _ _ e);exact⟨v,o,k _ _ ho,hd⟩
 ·have hp':p∈X.pn++pins:=by simpa [blk] using hp
  obtain⟨a1,a2,a3,a4,a5⟩:=I.pin p hp';refine⟨k _ _ a1,a2,Nat.ne_of_lt (Nat.lt_of_lt_of_le (Heap.lt_size a1) hC),λ q=>?_,a5⟩;rcases List.mem_cons.mp (I.eI _ q) with e | e
  ·exact a3 e
  ·exact a4 e
 ·show(lcS own.length fr σ).length=(lcN X own fr).length;simp[lcS,lcN]
abbrev LcW:=Nat->Nat->List V->St->Hp->Prop
def sU(J:It)(g:TG)(tt:TT)(te:TE)(W:LcW)(Fin:List V->Hp->Prop):Prop:=∀ i m ys τ H,W i m ys τ H ->
 (J.stop i H/\Fin ys H)\/(J.go i H/\ys.length<sizeLine/\∀ x H',J.yld i H x H'->g x τ H' λ τ2 H2=>tt τ2 H2 λ b H3 =>
  if b=true then te τ2 H3 λ y H4=>∃ m',m'<m/\W (i+1) m' (ys++[y]) τ2 H4 else ∃ m',m'<m/\W (i+1) m' ys τ2 H3)
section
variable {X:Cx}{pins:PN}{σ:St}{H:Hp}{s:Shared}{sc:Scope}{own:List Str}{fr:List Nat}{cl:List (Str×Addr)}{fp:List Addr}{it:Addr}{J:It}{tn:Nat->Heap->Prop}{g:TG}{tt:TT}{te:TE}{W:LcW}{Fin:List V->Hp->Prop}
 {elt tg iter:Expr}{ifs:List Expr}{pos:Pos}{E:VP}
theorem sf{RR:Value->Addr->Result->Shared->Prop}(hc:X.calm=true)(L:mT X sc own fr)(hcl1:∀ n c,cl.lookup n=some c->X.env.cells.lookup n=some c)(hcl2:∀ n,(n,NameKind.free)∈sc.names->∃ c,cl.lookup n=some c)
  (hg:∀ C s H ex pl,PG (blk X sc (lcN X own fr) cl C s H ex pl) tg g)(ht:∀ C s H ex pl,PTs (blk X sc (lcN X own fr) cl C s H ex pl) ifs tt)(he:∀ C s H ex pl,PE (blk X sc (lcN X own fr) cl C s H ex pl) elt te)
  (I:Inv X pins σ H s)(T:Turn X.prog X.w X.K tg J fp it tn)(st:tn 0 s.heap)(hf:∀ b∈fp,iA X pins H b)(w0:∃ m,W 0 m [] (lcS own.length fr σ) H)(turn:sU J g tt te W Fin)
  (hRR:∀ (D C:Addr) (s':Shared) (H':Hp) (ys:List V) (us:List Value) (n:Nat) (m:Str->Option Value),Inv X pins σ H' s'->s'.heap.get? D=some {cls:=.type "list",data:=.seq us.toArray n}->Vals ys us->ys.length<=sizeLine->H' D=none->H' C=none ->
   s.heap.objs.size<=D->s.heap.objs.size<=C->D≠C->s'.heap.Ns C m->Fin ys H'->RR (.ref D) C (.ok .next) s') :
  wpAny (model X.prog X.w) X.A (newList []) (λ acc s₃=>wpAny (model X.prog X.w) X.A (newFunctionEnv sc X.env.globals cl [] X.env.qual none .none (some X.env)) (λ cenv s₄ =>
   codeAny (model X.prog X.w) X.A (.compStart (.ListComp elt [⟨tg,iter,ifs,0⟩] sc pos) 0 (.ref it) acc {cenv with scope:=relabel sc X.env}) (RR acc cenv.locals) s₄) E s₃) E s:=by
 refine wpAny_newObj_type (wpAny_newFunctionEnv L.cell (by intro y hy;simp at hy) (λ h₁ hns₁ hsb₁=>?_) L.kind);dsimp only at hns₁ hsb₁ ⊢;generalize hH2:s.heap.push {cls:=.type "list",dict:=none,data:=.seq ([]:List Value).toArray}=H2 at hns₁ hsb₁ ⊢;have hCs:H2.objs.size=s.heap.objs.size+1:=by rw[<- hH2,Heap.size_push]
 have hD0:s.heap.objs.size≠H2.objs.size:=by rw[hCs];exact Nat.ne_of_lt (Nat.lt_succ_self _)
 have hCle:s.heap.objs.size<=H2.objs.size:=by rw[hCs];exact Nat.le_succ _
 have below:∀ b,b<s.heap.objs.size->b≠H2.objs.size/\b≠s.heap.objs.size:=λ b hb=>⟨by rw[hCs];exact Nat.ne_of_lt (Nat.lt_succ_of_lt hb),Nat.ne_of_lt hb⟩;have old:∀ b o,s.heap.get? b=some o->h₁.get? b=some o:=λ b o e=>hsb₁.extBut b o (below b (Heap.lt_size e)).1 (Heap.get?_push_of_some _ (hH2 ▸ Heap.get?_push_of_some _ e));have hacc:h₁.get? s.heap.objs.size=some {cls:=.type "list",data:=.seq ([]:List Value).toArray 0}:=hsb₁.extBut _ _ hD0 (Heap.get?_push_of_some _ (hH2 ▸ Heap.get?_push_size _ rfl));have hfb:∀ b∈fp,b<s.heap.objs.size:=λ b hb=>by obtain⟨o,e,_⟩:=T.obj 0 _ st b hb;exact Heap.lt_size e
 have I1:Inv (blk X sc (lcN X own fr) cl H2.objs.size s H fp pins) [] (lcS own.length fr σ) H {s with heap:=h₁,toks:=s.toks+([]:List (Str×Value)).length}:=si L I hf hfb hCle hcl1 hcl2 hns₁ old;have st1:tn 0 h₁:=T.keep 0 _ _ st λ b _ o e=>old b o e;generalize hY:blk X sc (lcN X own fr) cl H2.objs.size s H fp pins=Y at I1;have hYp:Y.prog=X.prog:=by rw[<- hY];rfl
 have hYw:Y.w=X.w:=by rw[<- hY];rfl
 have hYK:Y.K=X.K:=by rw[<- hY];rfl
 have hYA:Y.A=X.A:=by rw[<- hY];rfl
 have hYc:Y.calm=true:=by rw[<- hY];exact hc
 have hYe:Y.env=compEnvC sc cl H2.objs.size X.env:=by rw[<- hY];rfl
 have hYx:Y.xe=λ _ _=>False:=by rw[<- hY];rfl
 have hYpn:Y.pn=X.pn++pins:=by rw[<- hY];rfl
 have hYs:Y.s₀=s:=by rw[<- hY];rfl
 have hYH:Y.H₀=H:=by rw[<- hY];rfl
 have hYex:Y.ex=fp:=by rw[<- hY];rfl
 have hYfs:Y.fs=frs X.stack:=by rw[<- hY];rfl
 have gY:=hg H2.objs.size s H fp pins;have tY:=ht H2.objs.size s H fp pins;have eY:=he H2.objs.size s H fp pins;rw[hY] at gY tY eY;have D_pin:∀ p∈Y.pn++([]:PN),p.1≠s.heap.objs.size:=λ p hp=>by rw[hYpn,List.append_nil] at hp;exact(below _ (Heap.lt_size (I.pin p hp).1)).2
 have D_cell:∀ x c,Y.env.cells.lookup x=some c->c≠s.heap.objs.size:=λ x c e=>by rw[hYe] at e;obtain⟨v,z⟩:=I.cell x c (hcl1 _ _ e);exact(below _ z.lt).2
 have D_loc:s.heap.objs.size≠Y.env.locals:=by rw[hYe];exact hD0
 have D_fs:s.heap.objs.size ∉ Y.fs:=by
  rw[hYfs];intro z;rcases List.mem_cons.mp (I.eI _ z) with e | e
  ·exact absurd I.lt (by rw[<- e];exact Nat.lt_irrefl _)
  ·exact I.acI (Nat.le_refl _) e
 have fpY:∀ {H':Hp} (pl:PN),(∀ b∈fp,H' b=none)->(∀ p∈pl,p.1=s.heap.objs.size)->∀ b∈fp,iA Y pl H' b:=λ {H'} pl hn hp b hb=>by
  obtain⟨_,f1,f2,f3,f4,f5⟩:=hf b hb;refine⟨hn b hb,by rw[hYe];exact(below b (hfb b hb)).1,?_,.inl (by rw[hYex];exact hb),λ x c e=>?_,λ p q=>?_⟩
  ·rw[hYfs];intro z;rcases List.mem_cons.mp (I.eI _ z) with e | e
   ·exact f1 e
   ·exact f2 e
  ·rw[hYe] at e;exact f4 x c (hcl1 _ _ e)
  ·rcases List.mem_append.mp q with z | z
   ·rw[hYpn] at z;exact f5 p z
   ·rw[hp p z];exact Ne.symm (below b (hfb b hb)).2
 have loop:∀ s₃:Shared,s₃={s with heap:=h₁,toks:=s.toks+([]:List (Str×Value)).length} ->
   codeAny (model X.prog X.w) X.A (.compLoop (.ListComp elt [⟨tg,iter,ifs,0⟩] sc pos) 0 (.ref it) (.ref s.heap.objs.size) (compEnvC sc cl H2.objs.size X.env)) (RR (.ref s.heap.objs.size) H2.objs.size) s₃:=by
  rintro s₃ rfl;obtain⟨m0,w0⟩:=w0;refine hV (λ n s'=>∃ i ys τ H' us k,Inv Y [] τ H' s'/\tn i s'.heap/\(∀ b∈fp,H' b=none)/\H' s.heap.objs.size=none/\s'.heap.get? s.heap.objs.size=some {cls:=.type "list",data:=.seq us.toArray k}/\Vals ys us/\ys.length<=sizeLine/\W i n ys τ H') ?_ m0
   ⟨0,[],_,H,[],0,I1,st1,λ b hb=>(hf b hb).1,I.hok.fresh (Nat.le_refl _),hacc,.nil,Nat.zero_le _,w0⟩
  rintro n s' ⟨i,ys,τ,H',us,k,I',st',hn',hD',ha',hv',hz',w'⟩;have Ip:Inv Y [(s.heap.objs.size,{cls:=.type "list",data:=.seq us.toArray k})] τ H' s':=I'.cV λ p hp=>by
   have e:p=(s.heap.objs.size,{cls:=.type "list",data:=.seq us.toArray k}):=by simpa using hp
   subst e;exact⟨ha',hD',D_loc,D_fs,λ v z=>nomatch (show Data.seq _ _=Data.cell v from z)⟩
  have onlyD:∀ p∈[((s.heap.objs.size,{cls:=.type "list",data:=.seq us.toArray k}):Addr×Obj)],p.1=s.heap.objs.size:=λ p hp=>by
   have e:p=(s.heap.objs.size,{cls:=.type "list",data:=.seq us.toArray k}):=by simpa using hp
   subst e;rfl
  rcases turn i n ys τ H' w' with ⟨stop,fin⟩ | ⟨go,hlen,step⟩
  ·have q:=T.done Y hYp hYw hYK hYc i _ s' τ H' (λ _ _=>False) Ip (fpY _ hn' onlyD) st' stop;rw[hYA] at q;refine thn q λ r s4 hq27=>?_;obtain⟨hr,I4⟩:=hq27;subst hr;have un:Un (frs X.stack) fp H H' s.heap s4.heap:=by have z:=I4.base;rw[hYfs,hYex,hYH,hYs] at z;exact z
   have os4:s4.os=s.os:=by have z:=I4.os;rw[hYs] at z;exact z
   have hok4:HOk X.prog X.w H' s4.heap:=by have z:=I4.hok;rw[hYp,hYw] at z;exact z
   have hch:∀ b∈fp,(b∈X.ex\/X.s₀.heap.objs.size<=b)/\b≠X.env.locals/\(∀ x c,X.env.cells.lookup x=some c->c≠b)/\∀ p∈X.pn++pins,p.1≠b:=λ b hb=>by obtain⟨_,f1,f2,f3,f4,f5⟩:=hf b hb;exact⟨f3,f1,f4,f5⟩
   have IX:Inv X pins σ H' s4:=I.yf os4 un hok4 I4.bare hch;obtain⟨mC,hmC,_⟩:=I4.loc;have hCf:=I4.free;rw[hYe] at hmC hCf;have pD:=I4.pin (s.heap.objs.size,{cls:=.type "list",data:=.seq us.toArray k}) (List.mem_append_right _ (List.mem_singleton.mpr rfl));exact hRR _ _ s4 H' ys us k mC IX pD.1 hv' hz' pD.2.1 hCf (Nat.le_refl _) hCle hD0 hmC fin
  ·have q:=T.item Y hYp hYw hYK hYc i _ s' τ H' (λ _ _=>False) Ip (fpY _ hn' onlyD) st' go;rw[hYA] at q;refine thn q λ r s4 hq28=>?_;obtain⟨u,hr,h4⟩:=hq28;subst hr;refine thn h4 λ _ s5 hq29=>?_;obtain⟨x,H5,I5,r5,y5,st5,fr5⟩:=hq29;have I5':=I5.pinned (fpY _ fr5 onlyD) (T.obj _ _ st5);have g5:=gY _ s5 τ H5 x u _ I5' r5 (step x H5 y5);rw[hYp,hYw,hYA,hYe,hYx] at g5;refine thn g5 λ _ s6 hq30=>?_;obtain⟨σ6,H6,I6,q6⟩:=hq30;have t6:=tY _ s6 σ6 H6 _ I6 q6;rw[hYp,hYw,hYA,hYe,hYx] at t6;refine thn t6 λ ok s7 hq31=>?_;obtain⟨H7,I7,q7⟩:=hq31;have keepD:∀ {σ8:St} {H8:Hp} {s8:Shared},Inv Y ([(s.heap.objs.size,{cls:=.type "list",data:=.seq us.toArray k})]++gD fp s5.heap) σ8 H8 s8->s8.heap.get? s.heap.objs.size=some {cls:=.type "list",data:=.seq us.toArray k}/\H8 s.heap.objs.size=none:=
    λ {σ8 H8 s8} I8=>by have pD:=I8.pin (s.heap.objs.size,{cls:=.type "list",data:=.seq us.toArray k}) (List.mem_append_right _ (List.mem_append_left _ (List.mem_singleton.mpr rfl)));exact⟨pD.1,pD.2.1⟩
   have keepI:∀ {σ8:St} {H8:Hp} {s8:Shared},Inv Y ([(s.heap.objs.size,{cls:=.type "list",data:=.seq us.toArray k})]++gD fp s5.heap) σ8 H8 s8->tn (i+1) s8.heap/\∀ b∈fp,H8 b=none:=
    λ {σ8 H8 s8} I8=>by refine⟨T.keep _ _ _ st5 λ b hb o e=>(I8.pin (b,o) (List.mem_append_right _ (List.mem_append_right _ (cB hb e)))).1,λ b hb=>?_⟩;obtain⟨o,e,d⟩:=T.obj _ _ st5 b hb;exact(I8.pin (b,o) (List.mem_append_right _ (List.mem_append_right _ (cB hb e)))).2.1
   cases ok with
   | false =>
    rw[if_neg Bool.false_ne_true] at q7 ⊢;obtain⟨m',hm',w7⟩:=q7;obtain⟨a7,b7⟩:=keepD I7;obtain⟨c7,d7⟩:=keepI I7;exact⟨m',hm',i+1,ys,σ6,H7,us,k,I7.cV (λ p hp=>(nomatch hp)),c7,d7,b7,a7,hv',hz',w7⟩
   | true =>
    rw[if_pos rfl] at q7 ⊢;have e7:=eY _ s7 σ6 H7 _ I7 q7;rw[hYp,hYw,hYA,hYe,hYx] at e7;refine thn e7 λ v s8 hq32=>?_;obtain⟨y,H8,I8,r8,m',hm',w8⟩:=hq32;obtain⟨a8,b8⟩:=keepD I8;obtain⟨c8,d8⟩:=keepI I8;have hl:=hv'.length;refine call_meets F.slot_list_append ⟨_,a8,rfl⟩ F.entry_list_append (F.args_list_append_2 _ _) (PySem.list_append s.heap.objs.size us.toArray k v (by rw[List.size_toArray];omega)) ⟨a8,?_⟩;have qu:=PySem.IsL.update a8 (λ xs=>xs.push v);have I9:=(I8.cV (pins':=[]) λ p hp=>nomatch hp).turned (it:=s.heap.objs.size) (t':=s8.toks) (h':=s8.heap.update s.heap.objs.size (Obj.mapSeq λ xs=>xs.push v)) (λ b o hb e=>(Heap.get?_update_other s8.heap _ (Ne.symm hb)).trans e) b8 D_loc (.inr (by rw[hYs];exact Nat.le_refl _)) D_cell D_pin;have ep:us.toArray.push v=(us++[v]).toArray:=by simp
    rw[ep] at qu;refine⟨m',hm',i+1,ys++[y],σ6,H8,us++[v],(if (us++[v]).toArray.size==us.toArray.size then k else k+1),I9,T.keep _ _ _ c8 λ b hb o e=>(Heap.get?_update_other s8.heap _ (Ne.symm (below b (hfb b hb)).2)).trans e,d8,b8,?_,hv'.append (.cons r8 .nil),?_,w8⟩
    ·exact qu
    ·rw[List.length_append,List.length_singleton];omega
 exact codeAny_compStart_list (loop _ rfl) (T.self _ 0 _ _ _ st1 (loop _ rfl))
def tLC(wi:TI)(g:TG)(tt:TT)(te:TE)(k:Nat)(fr:List Nat):TE:=λ σ H Q=>wi σ H λ J H1=>∃ W:LcW,(∃ m,W 0 m [] (lcS k fr σ) H1)/\sU J g tt te W λ ys H2=>∀ p,H2 p=none->Q (.ref p) (upd H2 p (.lst ys))
theorem g7(L:mT X sc own fr)(ok:X.Ok):∃ cl,closureFor sc X.env=pure cl/\(∀ n c,cl.lookup n=some c->X.env.cells.lookup n=some c)/\(∀ n,(n,NameKind.free)∈sc.names->∃ c,cl.lookup n=some c):=
 fc λ x hx hf=>ok.has x.1 (L.free x hx hf)
theorem acA(hc:X.calm=true)(L:mT X sc own fr)(hi:PI X tg iter wi)
  (hg:∀ cl C s H ex pl,PG (blk X sc (lcN X own fr) cl C s H ex pl) tg g)(ht:∀ cl C s H ex pl,PTs (blk X sc (lcN X own fr) cl C s H ex pl) ifs tt)(he:∀ cl C s H ex pl,PE (blk X sc (lcN X own fr) cl C s H ex pl) elt te)
  (hs:∀ x,foldedSetIterable iter X.env x=pure x:=by intro _;rfl):PE X (.ListComp elt [⟨tg,iter,ifs,0⟩] sc pos) (tLC wi g tt te own.length fr):=by
 intro pins s σ H Q I h;obtain⟨cl,hcl,c1,c2⟩:=g7 L I.ok;rw[eval_ListComp];refine wpAny_comprehension_free (use:=none) (g:=⟨tg,iter,ifs,0⟩) (gs:=[]) rfl hs hcl L.kind L.names ?_;refine thn (hi pins s σ H _ I h) λ v s1 h1=>thn h1 λ itv s2 h2=>?_;obtain⟨it,fp,tn,J,H2,e,I2,T,st2,f2,W,w0,turn⟩:=h2;subst e;refine sf (cl:=cl) hc L c1 c2 (hg cl) (ht cl) (he cl) I2 T st2 f2 w0 turn λ D C s' H' ys us n m I' a' hv hz hD hC dD dC hDC hns fin=>?_;refine⟨m,hns,λ h' sb=>?_⟩;have far:∀ b,s2.heap.objs.size<=b->(X.s₀.heap.objs.size<=b)/\b≠X.env.locals/\(∀ x c,X.env.cells.lookup x=some c->c≠b)/\∀ p∈X.pn++pins,p.1≠b:=λ b hb=>by obtain⟨_,f1,_,f3,f4,f5⟩:=I2.qo (H':=λ _=>none) hb rfl;refine⟨Nat.le_trans I2.sz hb,f1,f4,f5⟩
 obtain⟨z1,z2,z3,z4⟩:=far C dC;obtain⟨y1,y2,y3,y4⟩:=far D dD;have I3:Inv X pins σ H' {s' with heap:=h'}:=I'.turned (t':=s'.toks) (λ b o hb e=>sb.extBut b o hb e) hC z2 (.inr z1) z3 z4;exact⟨.ref D,_,I3.yo (sb.extBut _ _ hDC a') hD hv hz y1 y2 y3 y4,rfl,fin D hD⟩
theorem vk(hN:X.N.Nodup)(hi':X.N[i]? =some x)(hx:Loc X.env.scope x)(hc:X.calm=true)(L:mT X sc own fr)(hi:PI X tg iter wi)
  (hg:∀ cl C s H ex pl,PG (blk X sc (lcN X own fr) cl C s H ex pl) tg g)(ht:∀ cl C s H ex pl,PTs (blk X sc (lcN X own fr) cl C s H ex pl) ifs tt)(he:∀ cl C s H ex pl,PE (blk X sc (lcN X own fr) cl C s H ex pl) elt te)
  (hsw:swapsWith (.ListComp elt [⟨tg,iter,ifs,0⟩] sc pos) (some (.Name x pos')) spos.line X.env=pure true:=by rfl)
  (hs:∀ x,foldedSetIterable iter X.env x=pure x:=by intro _;rfl)(hf:X.fn x=true\/X.env.scope.names.lookup x=some .local:=by first | exact .inl rfl | exact .inr rfl | assumption) :
  PS X (.Assign [.Name x pos'] (.ListComp elt [⟨tg,iter,ifs,0⟩] sc pos) spos) (acm (tLC wi g tt te own.length fr) (yA i)):=by
 intro pins s σ H D' I h;obtain⟨cl,hcl,c1,c2⟩:=g7 L I.ok;rw[exec_Assign_Name_used _ _ _ _ hsw];refine wpAny_bind (wpAny_standAt (wpAny_bind ?_));show wpAny _ _ (evalThenUse (.ListComp elt [⟨tg,iter,ifs,0⟩] sc pos) X.env (assign (.Name x pos') X.env)) _ _ _;unfold evalThenUse;refine wpAny_bind ?_;refine wpAny_comprehension_free (use:=some (assign (.Name x pos') X.env)) (g:=⟨tg,iter,ifs,0⟩) (gs:=[]) rfl hs hcl L.kind L.names ?_;refine thn (hi pins s σ H _ I h) λ v s1 h1=>thn h1 λ itv s2 h2=>?_;obtain⟨it,fp,tn,J,H2,e,I2,T,st2,f2,W,w0,turn⟩:=h2;subst e;refine sf (cl:=cl) hc L c1 c2 (hg cl) (ht cl) (he cl) I2 T st2 f2 w0 turn λ D C s' H' ys us n m I' a' hv hz hD hC dD dC hDC hns fin=>?_;have far:∀ b,s2.heap.objs.size<=b->(X.s₀.heap.objs.size<=b)/\b≠X.env.locals/\(∀ x c,X.env.cells.lookup x=some c->c≠b)/\(b ∉ X.fs)/\∀ p∈X.pn++pins,p.1≠b:=λ b hb=>by obtain⟨_,f1,f2,f3,f4,f5⟩:=I2.qo (H':=λ _=>none) hb rfl;refine⟨Nat.le_trans I2.sz hb,f1,f4,f2,f5⟩
 obtain⟨z1,z2,z3,z0,z4⟩:=far C dC;obtain⟨y1,y2,y3,_,y4⟩:=far D dD;have I3:=I'.yo a' hD hv hz y1 y2 y3 y4;obtain⟨oC,hoC,nsC⟩:∃ o,s'.heap.get? C=some o/\∃ es ep,o.data=.dict es ep:=by obtain⟨o,es,ep,e1,e2,_⟩:=hns;exact⟨o,e1,es,ep,e2⟩
 have hCt:(upd H' D (.lst ys)) C=none:=by rw[aj (Ne.symm hDC)];exact hC
 have I4:Inv X (pins++[(C,oC)]) σ (upd H' D (.lst ys)) s':=I3.cV λ p hp=>by
  rcases List.mem_append.mp hp with z | z
  ·exact I3.pin p (List.mem_append_right _ z)
  ·have e:p=(C,oC):=by simpa using z
   subst e;obtain⟨es,ep,hd⟩:=nsC;exact⟨hoC,hCt,z2,z0,λ v z=>by have z':oC.data=.cell v:=z;rw[hd] at z';cases z'⟩
 refine thn (tL (pos:=pos') hN hi' hx hf _ s' σ _ (.ref D) (.ref D) _ I4 rfl (fin D hD)) λ _ s5 hq33=>?_;obtain⟨σ5,H5,I5,q5⟩:=hq33;have pC:=I5.pin (C,oC) (List.mem_append_right _ (List.mem_append_right _ (List.mem_singleton.mpr rfl)));obtain⟨o,es,ep,e1,e2,e3⟩:=hns;rw[hoC] at e1;cases e1;refine⟨m,⟨oC,es,ep,pC.1,e2,e3⟩,λ h' sb=>?_⟩;have I6:Inv X pins σ5 H5 {s5 with heap:=h'}:=(I5.iE).turned (t':=s5.toks) (λ b o hb e=>sb.extBut b o hb e) pC.2.1 z2 (.inr z1) z3 z4;exact wpAny_pure (wpAny_pure ⟨σ5,H5,I6,q5⟩)
end
end L2
namespace D
open L2
abbrev St:=L2.St
structure Kp(H H':Hp):Prop where
 tup:∀ b xs,H b=some (.tup xs)->H' b=some (.tup xs)
 frz:∀ b o u,H b=some (.frz o u)->H' b=some (.frz o u)
theorem Kp.refl(H:Hp):Kp H H:=⟨λ _ _ e=>e,λ _ _ _ e=>e⟩
theorem Kp.trans(a:Kp H H1)(b:Kp H1 H2):Kp H H2:=⟨λ c xs e=>b.tup c xs (a.tup c xs e),λ c o u e=>b.frz c o u (a.frz c o u e)⟩
theorem Kp.new(h:H p=none):Kp H (upd H p o):=⟨λ b xs e=>by rw[aj (aE e h)];exact e,λ b ob u e=>by rw[aj (aE e h)];exact e⟩
theorem Kp.set(h:H p=some u)(ht:∀ xs,u ≠ .tup xs)(hf:∀ ob v,u ≠ .frz ob v):Kp H (upd H p o):=
 ⟨λ b xs e=>by rw[aj (pZ e h λ z=>ht _ z.symm)];exact e,λ b ob v e=>by rw[aj (pZ e h λ z=>hf _ _ z.symm)];exact e⟩
def SqF(K:FG)(H:Hp)(a:Addr)(xs:List V):Prop:=
 (∃ o,H a=some (.frz o (.lst xs)))\/∃ (o:Obj) (its:Array Value) (n:Nat),K.lookup a=some o/\o.cls=.type "list" /\ o.dict=none/\o.data=.seq its n/\its.size<=sizeLine/\Vals xs its.toList
theorem SqF.sq{K:FG}{H:Hp}{a:Addr}{xs:List V}(h:SqF K H a xs):SqL K H a xs:=by
 rcases h with h | h
 ·exact .inl (.inr h)
 ·exact .inr h
theorem SqF.keep{K:FG}{H H':Hp}{a:Addr}{xs:List V}(k:Kp H H')(h:SqF K H a xs):SqF K H' a xs:=by
 rcases h with ⟨o,h⟩ | h
 ·exact .inl ⟨o,k.frz _ _ _ h⟩
 ·exact .inr h
theorem SqT.keep{K:FG}{H H':Hp}{a:Addr}{xs:List V}(k:Kp H H')(h:SqT K H a xs):SqT K H' a xs:=by
 rcases h with (h | ⟨o,h⟩) | h
 ·exact .inl (.inl (k.tup _ _ h))
 ·exact .inl (.inr ⟨o,k.frz _ _ _ h⟩)
 ·exact .inr h
def oq:Key->PyData
 | .inl i=>.int i
 | .inr x=>.str x
mutual
def ax(K:FG)(H:Hp):PyData->V->Prop
 | .none,v=>v=.non
 | .bool b,v=>v=.bl b
 | .int i,v=>v=.int i
 | .str x,v=>v=.str x
 | .list ds,v=>∃ a vs,v=.ref a/\SqF K H a vs/\aS K H ds vs
 | .tuple ds,v=>∃ a vs,v=.ref a/\SqT K H a vs/\aS K H ds vs
 | .dict kvs,v=>∃ a o l,v=.ref a/\H a=some (.frz o (.dK l))/\gn K H kvs l
def aS(K:FG)(H:Hp):List PyData->List V->Prop
 | [],vs=>vs=[]
 | d::ds,vs=>∃ v r,vs=v::r/\ax K H d v/\aS K H ds r
def gn(K:FG)(H:Hp):List (PyData×PyData)->List (Key×V)->Prop
 | [],l=>l=[]
 | (k,d)::ds,l=>∃ key v r,l=(key,v)::r/\k=oq key/\ax K H d v/\gn K H ds r
end
mutual
theorem ax.keep{K:FG}{H H':Hp}(k:Kp H H'):∀ {d:PyData} {v:V},ax K H d v->ax K H' d v
 | .none,v,h=>by simp only[ax] at h ⊢;exact h
 | .bool b,v,h=>by simp only[ax] at h ⊢;exact h
 | .int i,v,h=>by simp only[ax] at h ⊢;exact h
 | .str x,v,h=>by simp only[ax] at h ⊢;exact h
 | .list ds,v,h=>by simp only[ax] at h ⊢;obtain⟨a,vs,e,s,r⟩:=h;exact⟨a,vs,e,s.keep k,aS.keep k r⟩
 | .tuple ds,v,h=>by simp only[ax] at h ⊢;obtain⟨a,vs,e,s,r⟩:=h;exact⟨a,vs,e,SqT.keep k s,aS.keep k r⟩
 | .dict kvs,v,h=>by simp only[ax] at h ⊢;obtain⟨a,o,l,e,s,r⟩:=h;exact⟨a,o,l,e,k.frz _ _ _ s,gn.keep k r⟩
theorem aS.keep{K:FG}{H H':Hp}(k:Kp H H'):∀ {ds:List PyData} {vs:List V},aS K H ds vs->aS K H' ds vs
 | [],vs,h=>by simp only[aS] at h ⊢;exact h
 | d::ds,vs,h=>by simp only[aS] at h ⊢;obtain⟨v,r,e,h1,h2⟩:=h;exact⟨v,r,e,ax.keep k h1,aS.keep k h2⟩
theorem gn.keep{K:FG}{H H':Hp}(k:Kp H H'):∀ {ds:List (PyData×PyData)} {l:List (Key×V)},gn K H ds l->gn K H' ds l
 | [],l,h=>by simp only[gn] at h ⊢;exact h
 | (key,d)::ds,l,h=>by simp only[gn] at h ⊢;obtain⟨k',v,r,e,ek,h1,h2⟩:=h;exact⟨k',v,r,e,ek,ax.keep k h1,gn.keep k h2⟩
end
theorem aS.length{K:FG}{H:Hp}:∀ {ds:List PyData} {vs:List V},aS K H ds vs->vs.length=ds.length
 | [],vs,h=>by simp only[aS] at h;rw[h];rfl
 | d::ds,vs,h=>by simp only[aS] at h;obtain⟨v,r,e,_,h2⟩:=h;rw[e,List.length_cons,List.length_cons,aS.length h2]
theorem aS.get{K:FG}{H:Hp}:∀ {ds:List PyData} {vs:List V} {i:Nat} {d:PyData},aS K H ds vs->ds[i]? =some d->∃ v,vs[i]? =some v/\ax K H d v
 | [],_,_,_,_,e=>by simp at e
 | d::ds,vs,0,d',h,e=>by simp only[aS] at h;obtain⟨v,r,ev,h1,_⟩:=h;simp at e;subst e;exact⟨v,by rw[ev];rfl,h1⟩
 | d::ds,vs,i+1,d',h,e=>by simp only[aS] at h;obtain⟨v,r,ev,_,h2⟩:=h;obtain⟨v',e1,e2⟩:=aS.get (i:=i) h2 (by simpa using e);exact⟨v',by rw[ev];simpa using e1,e2⟩
theorem aS.get'{K:FG}{H:Hp}{ds:List PyData}{vs:List V}{i:Nat}{v:V}(h:aS K H ds vs)(e:vs[i]? =some v):∃ d,ds[i]? =some d/\ax K H d v:=by
 have hi:i<ds.length:=by have:=(List.getElem?_eq_some_iff.mp e).1;rw[h.length] at this;exact this
 obtain⟨v',e1,r⟩:=h.get (i:=i) (d:=ds[i]) (by simp[hi]);rw[e] at e1;cases e1;exact⟨ds[i],by simp[hi],r⟩
theorem aS.ints{K:FG}{H:Hp}:∀ (ns:List Int),aS K H (ns.map PyData.int) (ns.map V.int)
 | []=>by simp[aS]
 | n::ns=>by simp only[List.map_cons,aS];exact⟨_,_,rfl,by simp[ax],aS.ints ns⟩
theorem aS.append{K:FG}{H:Hp}:∀ {ds es:List PyData} {vs us:List V},aS K H ds vs->aS K H es us->aS K H (ds++es) (vs++us)
 | [],es,vs,us,h,q=>by simp only[aS] at h;subst h;exact q
 | d::ds,es,vs,us,h,q=>by simp only[aS] at h;obtain⟨v,r,e,h1,h2⟩:=h;subst e;simp only[List.cons_append,aS];exact⟨v,r++us,rfl,h1,aS.append h2 q⟩
theorem aS.drop{K:FG}{H:Hp}:∀ {ds:List PyData} {vs:List V} (n:Nat),aS K H ds vs->aS K H (ds.drop n) (vs.drop n)
 | ds,vs,0,h=>by simpa using h
 | [],vs,n+1,h=>by simp only[aS] at h;subst h;simp[aS]
 | d::ds,vs,n+1,h=>by
  simp only[aS] at h;obtain⟨v,r,e,_,h2⟩:=h;subst e
  simpa using aS.drop n h2
theorem aS.take{K:FG}{H:Hp}:∀ {ds:List PyData} {vs:List V} (n:Nat),aS K H ds vs->aS K H (ds.take n) (vs.take n)
 | ds,vs,0,h=>by simp[aS]
 | [],vs,n+1,h=>by simp only[aS] at h;subst h;simp[aS]
 | d::ds,vs,n+1,h=>by simp only[aS] at h;obtain⟨v,r,e,h1,h2⟩:=h;subst e;simp only[List.take_succ_cons,aS];exact⟨v,_,rfl,h1,aS.take n h2⟩
inductive W where
 | d (x:PyData)
 | m (a:Addr)
 | t (n:String)
inductive MO where
 | lst (ws:List W)
 | dic (kvs:List (Key×W))
 | dct (kvs:List (List Key×W))
 | fdic (kvs:List (Key×W))
 | ins (C:Addr) (fs:List (Str×W))
 | tup (ws:List W)
 | flst (ws:List W)
 | exc (C:Addr) (fs:List (Str×W))
 | code (q:Str) (pos:Pos)
abbrev MH:=Addr->Option MO
def ba(M:MH)(a:Addr)(o:MO):MH:=λ b=>if b=a then some o else M b
theorem ag:ba M a o a=some o:=if_pos rfl
theorem aw(h:b≠a):ba M a o b=M b:=if_neg h
theorem bE:ba (ba M a o) a u=ba M a u:=by funext b;unfold ba;split<;>rfl
abbrev DS:=List (Option W)
def aC(K:FG)(H:Hp):W->V->Prop
 | .d x,v=>ax K H x v
 | .m a,v=>v=.ref a
 | .t n,v=>v=.ty n
theorem aC.keep{K:FG}{H H':Hp}(k:Kp H H'):∀ {w:W} {v:V},aC K H w v->aC K H' w v
 | .d _,_,h=>ax.keep k h
 | .m _,_,h=>h
 | .t _,_,h=>h
def bz(K:FG)(H:Hp):List W->List V->Prop:=Paired (aC K H)
theorem bz.keep{K:FG}{H H':Hp}(k:Kp H H'){ws:List W}{vs:List V}(h:bz K H ws vs):bz K H' ws vs:=Paired.fM h λ _ _ r=>r.keep k
theorem bz.length{K:FG}{H:Hp}{ws:List W}{vs:List V}(h:bz K H ws vs):ws.length=vs.length:=Paired.length h
theorem bz.get{K:FG}{H:Hp}:∀ {ws:List W} {vs:List V} {i:Nat} {w:W},bz K H ws vs->ws[i]? =some w->∃ v,vs[i]? =some v/\aC K H w v
 | _,_,_,_,.nil,e=>by simp at e
 | _,_,0,_,.cons r _,e=>by simp at e;subst e;exact⟨_,rfl,r⟩
 | _,_,i+1,_,.cons _ t,e=>by obtain⟨u,h1,h2⟩:=bz.get (i:=i) t (by simpa using e);exact⟨u,by simpa using h1,h2⟩
theorem bz.set{K:FG}{H:Hp}{w:W}{v:V}(r:aC K H w v):∀ {ws:List W} {vs:List V} (i:Nat),bz K H ws vs->bz K H (ws.set i w) (vs.set i v)
 | _,_,_,.nil=>.nil
 | _,_,0,.cons _ t=>.cons r t
 | _,_,i+1,.cons q t=>.cons q (bz.set r i t)
theorem bz.append{K:FG}{H:Hp}:∀ {ws ws':List W} {vs vs':List V},bz K H ws vs->bz K H ws' vs'->bz K H (ws++ws') (vs++vs')
 | _,_,_,_,.nil,s=>s
 | _,_,_,_,.cons r t,s=>.cons r (bz.append t s)
theorem bz.data{K:FG}{H:Hp}:∀ {ds:List PyData} {vs:List V},bz K H (ds.map W.d) vs->aS K H ds vs
 | [],_,h=>by cases h;simp[aS]
 | d::ds,_,h=>by
  cases h with
  | cons r t=>simp only[aS];exact⟨_,_,rfl,r,bz.data t⟩
theorem aS.ws{K:FG}{H:Hp}:∀ {ds:List PyData} {vs:List V},aS K H ds vs->bz K H (ds.map W.d) vs
 | [],vs,h=>by simp only[aS] at h;subst h;exact .nil
 | d::ds,vs,h=>by simp only[aS] at h;obtain⟨v,r,e,h1,h2⟩:=h;subst e;exact .cons h1 (aS.ws h2)
def xB(K:FG)(H:Hp)(a:Addr):MO->Prop
 | .lst ws=>∃ vs,H a=some (.lst vs)/\bz K H ws vs
 | .dic kvs=>∃ l,H a=some (.dK l)/\Paired (λ(p:Key×W) (q:Key×V)=>p.1=q.1/\aC K H p.2 q.2) kvs l
 | .fdic kvs=>∃ o l,H a=some (.frz o (.frz o (.dK l)))/\Paired (λ(p:Key×W) (q:Key×V)=>p.1=q.1/\aC K H p.2 q.2) kvs l
 | .dct kvs=>∃ l,H a=some (.dT l)/\Paired (λ(p:List Key×W) (q:List Key×V)=>p.1=q.1/\aC K H p.2 q.2) kvs l
 | .ins C fs=>∃ dx l,H a=some (.ins C dx l)/\Paired (λ(p:Str×W) (q:Str×V)=>p.1=q.1/\aC K H p.2 q.2) fs l
 | .tup ws=>∃ vs,H a=some (.tup vs)/\bz K H ws vs
 | .flst ws=>∃ o vs,H a=some (.frz o (.frz o (.lst vs)))/\bz K H ws vs
 | .exc C fs=>∃ φ dct,H a=some (.ext φ)/\(∀ h,φ h->∃ vs,h.get? a=some {cls:=.ref C,dict:=dct,data:=.fields vs}/\(fs=[]->vs[2]? =some .none)) /\
   ((dct=none/\fs=[])\/∃ dx o l,dct=some dx/\H dx=some (.frz o (.xd l))/\Paired (λ(p:Str×W) (q:Str×V)=>p.1=q.1/\aC K H p.2 q.2) fs l)
 | .code q pos=>∃ ps,H a=some (.tbl ps)/\TriplesOk ps.toList/\(codeAmong pos ps.toList=none\/∃ c o vs t,codeAmong pos ps.toList=some (.ref c)/\H c=some (.frz o (.own 0))/\o.data=.fields vs/\vs[1]? =some (.str q t))
def cO(K:FG)(H:Hp)(M:MH):Prop:=∀ a o,M a=some o->xB K H a o
theorem xB.is{K:FG}{H:Hp}{a:Addr}{o:MO}(h:xB K H a o):∃ u,H a=some u:=by
 cases o with
 | lst ws=>obtain⟨vs,e,_⟩:=h;exact⟨_,e⟩
 | dic kvs=>obtain⟨l,e,_⟩:=h;exact⟨_,e⟩
 | dct kvs=>obtain⟨l,e,_⟩:=h;exact⟨_,e⟩
 | fdic kvs=>obtain⟨o,l,e,_⟩:=h;exact⟨_,e⟩
 | ins C fs=>obtain⟨dx,l,e,_⟩:=h;exact⟨_,e⟩
 | tup ws=>obtain⟨vs,e,_⟩:=h;exact⟨_,e⟩
 | flst ws=>obtain⟨o,vs,e,_⟩:=h;exact⟨_,e⟩
 | exc C fs=>obtain⟨φ,dct,e,_⟩:=h;exact⟨_,e⟩
 | code q pos=>obtain⟨ps,e,_⟩:=h;exact⟨_,e⟩
theorem cO.free{K:FG}{H:Hp}{M:MH}(h:cO K H M){p:Addr}(e:H p=none):M p=none:=by
 cases q:M p with
 | none=>rfl
 | some o =>
  obtain⟨u,z⟩:=(h p o q).is;rw[e] at z;cases z
theorem xB.keep{K:FG}{H H':Hp}{a:Addr}{o:MO}(k:Kp H H')(s:∀ u,H a=some u->H' a=some u)(h:xB K H a o):xB K H' a o:=by
 cases o with
 | lst ws=>obtain⟨vs,e,r⟩:=h;exact⟨vs,s _ e,r.keep k⟩
 | dic kvs=>obtain⟨l,e,r⟩:=h;exact⟨l,s _ e,Paired.fM r λ p q z=>⟨z.1,z.2.keep k⟩⟩
 | dct kvs=>obtain⟨l,e,r⟩:=h;exact⟨l,s _ e,Paired.fM r λ p q z=>⟨z.1,z.2.keep k⟩⟩
 | fdic kvs=>obtain⟨o,l,e,r⟩:=h;exact⟨o,l,s _ e,Paired.fM r λ p q z=>⟨z.1,z.2.keep k⟩⟩
 | ins C fs=>obtain⟨dx,l,e,r⟩:=h;exact⟨dx,l,s _ e,Paired.fM r λ p q z=>⟨z.1,z.2.keep k⟩⟩
 | tup ws=>obtain⟨vs,e,r⟩:=h;exact⟨vs,s _ e,r.keep k⟩
 | flst ws=>obtain⟨o,vs,e,r⟩:=h;exact⟨o,vs,s _ e,r.keep k⟩
 | exc C fs =>
  obtain⟨φ,dct,e,p,r⟩:=h;refine⟨φ,dct,s _ e,p,?_⟩;rcases r with r | ⟨dx,o,l,e1,e2,r⟩
  ·exact .inl r
  ·exact .inr ⟨dx,o,l,e1,k.frz _ _ _ e2,Paired.fM r λ p q z=>⟨z.1,z.2.keep k⟩⟩
 | code q pos =>
  obtain⟨ps,e,ht,hc⟩:=h;refine⟨ps,s _ e,ht,?_⟩;rcases hc with hc | ⟨c,o,vs,t,e1,e2,e3⟩
  ·exact .inl hc
  ·exact .inr ⟨c,o,vs,t,e1,k.frz _ _ _ e2,e3⟩
theorem cO.new{K:FG}{H:Hp}{M:MH}{p:Addr}{o:HO}(h:cO K H M)(e:H p=none):cO K (upd H p o) M:=λ a mo q =>
 (h a mo q).keep (Kp.new e) λ u z=>by rw[aj (aE z e)];exact z
theorem cO.put{K:FG}{H:Hp}{M:MH}{p:Addr}{o:HO}{mo:MO}(h:cO K H M)(k:Kp H (upd H p o))(r:xB K (upd H p o) p mo):cO K (upd H p o) (ba M p mo):=λ a mo' q=>by
 by_cases e:a=p
 ·subst e;rw[ag] at q;cases q;exact r
 ·rw[aw e] at q;exact(h a mo' q).keep k λ u z=>by rw[aj e];exact z
structure Abs(K:FG)(H:Hp)(σ:St)(τ:DS)(M:MH):Prop where
 len:σ.length=τ.length
 val:∀ (i:Nat) w,τ[i]? =some (some w)->∃ v,σ[i]? =some (some v)/\aC K H w v
 mem:cO K H M
theorem Abs.go{K:FG}{H H':Hp}{σ:St}{τ:DS}{M M':MH}(h:Abs K H σ τ M)(k:Kp H H')(m:cO K H' M'):Abs K H' σ τ M':=
 ⟨h.len,λ i w e=>let ⟨v,q,r⟩:=h.val i w e; ⟨v,q,r.keep k⟩,m⟩
theorem Abs.set{K:FG}{H:Hp}{σ:St}{τ:DS}{M:MH}{w:W}{v:V}(h:Abs K H σ τ M)(i:Nat)(r:aC K H w v):Abs K H (σ.set i (some v)) (τ.set i (some w)) M:=by
 refine⟨by rw[List.length_set,List.length_set];exact h.len,λ j w' e=>?_,h.mem⟩
 by_cases hj:i=j
 ·subst hj;have hl:i<τ.length:=by
   have:=(List.getElem?_eq_some_iff.mp e).1
   rwa[List.length_set] at this
  rw[List.getElem?_set_self hl] at e;cases e;exact⟨v,List.getElem?_set_self (by rw[h.len];exact hl),r⟩
 ·rw[List.getElem?_set_ne hj] at e;obtain⟨v',q,r'⟩:=h.val j w' e;exact⟨v',by rw[List.getElem?_set_ne hj];exact q,r'⟩
abbrev QD:=W->MH->Prop
abbrev TD:=DS->MH->QD->Prop
abbrev TTd:=DS->MH->(Bool->MH->Prop)->Prop
abbrev TAd:=DS->MH->(List W->MH->Prop)->Prop
structure Ed where
 nx:DS->MH->Prop
 rt:QD
 bk:DS->MH->Prop:=λ _ _=>False
 ct:DS->MH->Prop:=λ _ _=>False
abbrev TSd:=Ed->DS->MH->Prop
def up(K:FG)(t:TD):TE:=λ σ H Q=>∃ τ M Qd,Abs K H σ τ M/\t τ M Qd/\∀ v H' w M',Kp H H'->aC K H' w v->cO K H' M'->Qd w M'->Q v H'
def upT(K:FG)(t:TTd):TT:=λ σ H Q=>∃ τ M Qd,Abs K H σ τ M/\t τ M Qd/\∀ b H' M',Kp H H'->cO K H' M'->Qd b M'->Q b H'
def upA(K:FG)(t:TAd):TA:=λ σ H Q=>∃ τ M Qd,Abs K H σ τ M/\t τ M Qd/\∀ vs H' ws M',Kp H H'->bz K H' ws vs->cO K H' M'->Qd ws M'->Q vs H'
def upS(K:FG)(t:TSd):TS:=λ D σ H=>∃ τ M Dd,Abs K H σ τ M/\t Dd τ M /\
 (∀ σ' H' τ' M',Kp H H'->Abs K H' σ' τ' M'->Dd.nx τ' M'->D.nx σ' H')/\(∀ v H' w M',Kp H H'->aC K H' w v->cO K H' M'->Dd.rt w M'->D.rt v H') /\
 (∀ σ' H' τ' M',Kp H H'->Abs K H' σ' τ' M'->Dd.bk τ' M'->D.bk σ' H')/\(∀ σ' H' τ' M',Kp H H'->Abs K H' σ' τ' M'->Dd.ct τ' M'->D.ct σ' H')
abbrev PD(X:Cx)(e:Expr)(t:TD):Prop:=PE X e (up X.K t)
abbrev PTd(X:Cx)(e:Expr)(t:TTd):Prop:=PT X e (upT X.K t)
abbrev PAd(X:Cx)(es:List Expr)(t:TAd):Prop:=PA X es (upA X.K t)
abbrev PSd(X:Cx)(st:Stmt)(t:TSd):Prop:=PS X st (upS X.K t)
abbrev mK(X:Cx)(st:List Stmt)(t:TSd):Prop:=PSs X st (upS X.K t)
theorem iq(h:PE X e t)(k:∀ σ H Q,t' σ H Q->t σ H Q):PE X e t':=λ pins s σ H Q I q=>h pins s σ H Q I (k σ H Q q)
theorem zO(h:PT X e t)(k:∀ σ H Q,t' σ H Q->t σ H Q):PT X e t':=λ pins s σ H Q I q=>h pins s σ H Q I (k σ H Q q)
theorem adI(h:PA X es t)(k:∀ σ H Q,t' σ H Q->t σ H Q):PA X es t':=λ pos pins s σ H Q I q=>h pos pins s σ H Q I (k σ H Q q)
theorem nY{st:Stmt}{t t':TS}(h:PS X st t)(k:∀ D σ H,t' D σ H->t D σ H):PS X st t':=λ pins s σ H D I q=>h pins s σ H D I (k D σ H q)
theorem abt{st:List Stmt}{t t':TS}(h:PSs X st t)(k:∀ D σ H,t' D σ H->t D σ H):PSs X st t':=λ pins s σ H D I q=>h pins s σ H D I (k D σ H q)
end D
namespace D
open L2
section
variable {X:Cx}{pos:Pos}{a b c e:Expr}{ta tb tc te:TD}{K:FG}
abbrev Kont(K:FG)(H:Hp)(Qd:QD)(Q:VK):Prop:=∀ v H' w M',Kp H H'->aC K H' w v->cO K H' M'->Qd w M'->Q v H'
theorem kgo(k:Kont K H Qd Q)(kp:Kp H H1):Kont K H1 Qd Q:=λ v H' w M' k2 r m q=>k v H' w M' (kp.trans k2) r m q
inductive adQ(i:Nat) (τ:DS) (M:MH) (Q:QD):Prop
 | mk (w:W) (z:τ[i]? =some (some w)) (q:Q w M):adQ i τ M Q
def af(i:Nat)(τ:DS)(M:MH)(Q:QD):Prop:=adQ i τ M Q
theorem aaY(h:PE X e (adN i)):PD X e (af i):=iq h λ σ H Q hq34=>by obtain⟨τ,M,Qd,A,⟨w,e,q⟩,k⟩:=hq34;obtain⟨v,e',r⟩:=A.val i w e;exact⟨v,e',k v H w M (Kp.refl H) r A.mem q⟩
def dC(w:W)(_:DS)(M:MH)(Q:QD):Prop:=Q w M
theorem aci(h:PE X e (tC v))(r:∀ H,aC X.K H w v):PD X e (dC w):=iq h λ σ H Q ⟨τ,M,Qd,A,q,k⟩=>k v H w M (Kp.refl H) (r H) A.mem q
def OpD(K:FG)(r:R2)(rd:W->W->MH->QD->Prop):Prop:=∀ x y H w w' M Qd Q,aC K H w x->aC K H w' y->cO K H M->rd w w' M Qd->Kont K H Qd Q->r x y H Q
def dOp(rd:W->W->MH->QD->Prop)(ta tb:TD)(τ:DS)(M:MH)(Q:QD):Prop:=ta τ M λ w M1=>tb τ M1 λ w' M2=>rd w w' M2 Q
theorem pf(hd:OpD K r rd)(h:up K (dOp rd ta tb) σ H Q):tOp r (up K ta) (up K tb) σ H Q:=by obtain⟨τ,M,Qd,A,h,k⟩:=h;refine⟨τ,M,_,A,h,λ x H1 w M1 kp r1 m1 q1=>⟨τ,M1,_,A.go kp m1,q1,λ y H2 w' M2 kp2 r2 m2 q2=>?_⟩⟩;exact hd x y H2 w w' M2 Qd Q (r1.keep kp2) r2 m2 q2 (kgo k (kp.trans kp2))
theorem acC(ho:OpR X (binaryOp op) r)(hd:OpD X.K r rd)(ha:PD X a ta)(hb:PD X b tb):PD X (.BinOp a op b pos) (dOp rd ta tb):=iq (aat ho ha hb) λ σ H Q h=>pf hd h
theorem aa1(ho:OpR X (compareOp op) r)(hd:OpD X.K r rd)(ha:PD X a ta)(hb:PD X b tb)(hm:behindInMarks op b=false:=by first | exact gy _ (by decide) (by decide) | rfl) :
  PD X (.Compare a [op] [b] pos) (dOp rd ta tb):=iq (yh ho ha hb hm) λ σ H Q h=>pf hd h
theorem acs(hr:IxR X r)(hd:OpD X.K r rd)(ha:PD X a ta)(hb:PD X b tb)(hs:nM b:=by intro _ _;rfl):PD X (.Subscript a b pos) (dOp rd ta tb):=iq (adk hr ha hb hs) λ σ H Q h=>pf hd h
def aG(t:TD)(τ:DS)(M:MH)(Q:Bool->MH->Prop):Prop:=t τ M λ w M1=>∃ k,w=.d (.bool k)/\Q k M1
theorem iU(hi:∀ σ H Q,up K ta σ H Q->t' σ H Q)(h:upT K (aG ta) σ H Q):ab8 t' σ H Q:=by obtain⟨τ,M,Qd,A,h,k⟩:=h;refine hi σ H _ ⟨τ,M,_,A,h,λ v H' w M' kp r m hq35=>?_⟩;obtain⟨b,e,q⟩:=hq35;subst e;simp only[aC,ax] at r;exact⟨b,r,k b H' M' kp m q⟩
theorem yd(ho:OpR X (compareOp op) r)(hd:OpD X.K r rd)(ha:PD X a ta)(hb:PD X b tb)(hm:behindInMarks op b=false:=by first | exact gy _ (by decide) (by decide) | rfl) :
  PTd X (.Compare a [op] [b] pos) (aG (dOp rd ta tb)):=zO (xu ho ha hb hm) λ σ H Q h=>iU (λ _ _ _ q=>pf hd q) h
theorem zH(h:PD X e te)(he:∀ whole,isTrue e X.env whole=(do let v <- whole;standAt e.pos;holding [v] (truthy v)):=by intro _;rfl):PTd X e (aG te):=zO (abh h he) λ σ H Q q=>iU (λ _ _ _ z=>z) q
def UnD(K:FG)(r:V->Hp->VK->Prop)(rd:W->MH->QD->Prop):Prop:=∀ x H w M Qd Q,aC K H w x->cO K H M->rd w M Qd->Kont K H Qd Q->r x H Q
def dUn(rd:W->MH->QD->Prop)(ta:TD)(τ:DS)(M:MH)(Q:QD):Prop:=ta τ M λ w M1=>rd w M1 Q
theorem ado(ho:UnR X (unaryOp op) r)(hd:UnD X.K r rd)(ha:PD X a ta):PD X (.UnaryOp op a pos) (dUn rd ta):=iq (ac9 ho ha) λ σ H Q h=>by obtain⟨τ,M,Qd,A,h,k⟩:=h;exact⟨τ,M,_,A,h,λ x H1 w M1 kp r1 m1 q1=>hd x H1 w M1 Qd Q r1 m1 q1 (kgo k kp)⟩
variable {tA tB:TTd}{rest:List Expr}
def qx(t u:TTd)(τ:DS)(M:MH)(Q:Bool->MH->Prop):Prop:=t τ M λ k M1=>if k=true then u τ M1 Q else Q false M1
def dOr(t u:TTd)(τ:DS)(M:MH)(Q:Bool->MH->Prop):Prop:=t τ M λ k M1=>if k=true then Q true M1 else u τ M1 Q
def zm(t:TTd)(τ:DS)(M:MH)(Q:Bool->MH->Prop):Prop:=t τ M λ k M1=>Q (!k) M1
abbrev PWd(X:Cx)(e:Expr)(t:TTd):Prop:=PW X e (upT X.K t)
theorem pw_w(h:PW X e t)(k:∀ σ H Q,t' σ H Q->t σ H Q):PW X e t':=λ w pins s σ H Q I q=>h w pins s σ H Q I (k σ H Q q)
theorem vE(ha:PTd X a tA):PWd X (.BoolOp .And [a] pos) tA:=pw_and1 ha
theorem yp(ha:PTd X a tA):PWd X (.BoolOp .Or [a] pos) tA:=pw_or1 ha
theorem zy(ha:PTd X a tA)(hb:PWd X (.BoolOp .And (b::rest) pos) tB):PWd X (.BoolOp .And (a::b::rest) pos) (qx tA tB):=pw_w (pw_and ha hb) λ σ H Q h=>by
 obtain⟨τ,M,Qd,A,h,k⟩:=h;refine⟨τ,M,_,A,h,λ b H1 M1 kp m1 q1=>?_⟩;cases b with
 | true=>rw[if_pos rfl] at q1 ⊢;exact⟨τ,M1,Qd,A.go kp m1,q1,λ b H2 M2 kp2 m2 q2=>k b H2 M2 (kp.trans kp2) m2 q2⟩
 | false=>rw[if_neg Bool.false_ne_true] at q1 ⊢;exact k _ H1 M1 kp m1 q1
theorem ab2(ha:PTd X a tA)(hb:PWd X (.BoolOp .Or (b::rest) pos) tB):PWd X (.BoolOp .Or (a::b::rest) pos) (dOr tA tB):=pw_w (pw_or ha hb) λ σ H Q h=>by
 obtain⟨τ,M,Qd,A,h,k⟩:=h;refine⟨τ,M,_,A,h,λ b H1 M1 kp m1 q1=>?_⟩;cases b with
 | false=>rw[if_neg Bool.false_ne_true] at q1 ⊢;exact⟨τ,M1,Qd,A.go kp m1,q1,λ b H2 M2 kp2 m2 q2=>k b H2 M2 (kp.trans kp2) m2 q2⟩
 | true=>rw[if_pos rfl] at q1 ⊢;exact k _ H1 M1 kp m1 q1
theorem acT(h:PWd X e tA):PTd X e tA:=h.pt
theorem yF(ha:PTd X a tA):PTd X (.UnaryOp .Not a pos) (zm tA):=zO (abv ha) λ σ H Q h=>by obtain⟨τ,M,Qd,A,h,k⟩:=h;exact⟨τ,M,_,A,h,λ b H1 M1 kp m1 q1=>k (!b) H1 M1 kp m1 q1⟩
def yI(ta tb:TD)(τ:DS)(M:MH)(Q:QD):Prop:=ta τ M λ x M1=>∃ k,x=.d (.bool k)/\if k=true then tb τ M1 Q else Q (.d (.bool false)) M1
theorem aar{op}(h:PD X a ta):PD X (.BoolOp op [a] pos) ta:=zW h
theorem aak(ha:PD X a ta)(hb:PD X (.BoolOp .And (b::rest) pos) tb):PD X (.BoolOp .And (a::b::rest) pos) (yI ta tb):=iq (abO ha hb) λ σ H Q h=>by
 obtain⟨τ,M,Qd,A,h,k⟩:=h;refine⟨τ,M,_,A,h,λ x H1 w M1 kp r1 m1 hq36=>?_⟩;obtain⟨b,e,q1⟩:=hq36;subst e;simp only[aC,ax] at r1;refine⟨b,r1,?_⟩;cases b with
 | true=>rw[if_pos rfl] at q1 ⊢;exact⟨τ,M1,Qd,A.go kp m1,q1,kgo k kp⟩
 | false=>rw[if_neg Bool.false_ne_true] at q1 ⊢;exact k _ H1 _ M1 kp (by simp[aC,ax]) m1 q1
def acS(t:TTd)(ta tb:TD)(τ:DS)(M:MH)(Q:QD):Prop:=t τ M λ k M1=>if k=true then ta τ M1 Q else tb τ M1 Q
theorem uS(hc:PTd X c tA)(ha:PD X a ta)(hb:PD X b tb):PD X (.IfExp c a b pos) (acS tA ta tb):=iq (vf hc ha hb) λ σ H Q h=>by
 obtain⟨τ,M,Qd,A,h,k⟩:=h;refine⟨τ,M,_,A,h,λ b H1 M1 kp m1 q1=>?_⟩;cases b with
 | true=>rw[if_pos rfl] at q1 ⊢;exact⟨τ,M1,Qd,A.go kp m1,q1,kgo k kp⟩
 | false=>rw[if_neg Bool.false_ne_true] at q1 ⊢;exact⟨τ,M1,Qd,A.go kp m1,q1,kgo k kp⟩
variable {es:List Expr}{t:TAd}
def aF(_:DS)(M:MH)(Q:List W->MH->Prop):Prop:=Q [] M
def ae(ta:TD)(tr:TAd)(τ:DS)(M:MH)(Q:List W->MH->Prop):Prop:=ta τ M λ w M1=>tr τ M1 λ ws M2=>Q (w::ws) M2
theorem qL:PAd X [] aF:=adI wO λ σ H Q ⟨τ,M,Qd,A,h,k⟩=>k [] H [] M (Kp.refl H) .nil A.mem h
theorem vy(ha:PD X e te)(hr:PAd X es t)(hs:starEach (e::es) X.env=(false,eval e X.env)::starEach es X.env:=by rfl):PAd X (e::es) (ae te t):=adI (rg ha hr hs) λ σ H Q h=>by obtain⟨τ,M,Qd,A,h,k⟩:=h;exact⟨τ,M,_,A,h,λ x H1 w M1 kp r1 m1 q1=>⟨τ,M1,_,A.go kp m1,q1,λ xs H2 ws M2 kp2 r2 m2 q2=>k _ H2 _ M2 (kp.trans kp2) (.cons (r1.keep kp2) r2) m2 q2⟩⟩
def j7:List W->Option (List PyData)
 | []=>some []
 | .d x::r=>(j7 r).map (x::·)
 | _::_=>none
theorem j6:∀ {ws:List W} {ds:List PyData},j7 ws=some ds->ws=ds.map W.d
 | [],ds,h=>by simp only[j7] at h;cases h;rfl
 | .d x::r,ds,h=>by
  simp only[j7] at h;cases q:j7 r with
  | none=>rw[q] at h;cases h
  | some l=>rw[q] at h;cases h;rw[j6 q];rfl
 | .m _::_,ds,h=>by simp[j7] at h
 | .t _::_,ds,h=>by simp[j7] at h
def mZ(t:TAd)(τ:DS)(M:MH)(Q:QD):Prop:=t τ M λ ws M1=>∃ ds,j7 ws=some ds/\ds.length<=sizeLine/\Q (.d (.list ds)) M1
theorem xi(hp:H p=none)(r:aS K H ds vs):ax K (upd H p (.frz o (.lst vs))) (.list ds) (.ref p):=by simp only[ax];exact⟨p,vs,rfl,.inl ⟨o,aq⟩,r.keep (Kp.new hp)⟩
theorem ke(hp:H p=none)(r:aS K H ds vs)(m:cO K H M)(q:Qd (.d (.list ds)) M)(k:Kont K H Qd Q) :
  ∃ p' u,V.ref p=.ref p'/\(upd H p (.lst vs)) p'=some u/\Fz u/\∀ o,Q (.ref p) (upd (upd H p (.lst vs)) p' (.frz o u)):=by
 refine⟨p,_,rfl,aq,trivial,λ o=>?_⟩;rw[yg];exact k _ _ (.d (.list ds)) M (Kp.new hp) (xi hp r) (m.new hp) q
theorem aca(h:PAd X es t):PD X (.List es pos) (mZ t):=iq (mD (wQ h)) λ σ H Q h=>by obtain⟨τ,M,Qd,A,h,k⟩:=h;refine⟨τ,M,_,A,h,λ vs H1 ws M1 kp r1 m1 hq37=>?_⟩;obtain⟨ds,e,hz,q1⟩:=hq37;have e':=j6 e;subst e';have rA:=r1.data;exact⟨by rw[rA.length];exact hz,λ p hp=>ke hp rA m1 q1 (kgo k kp)⟩
def mj(t:TAd)(τ:DS)(M:MH)(Q:QD):Prop:=t τ M λ ws M1=>ws.length<=sizeLine/\∀ p,M1 p=none->Q (.m p) (ba M1 p (.lst ws))
theorem zk(h:PAd X es t):PD X (.List es pos) (mj t):=iq (wQ h) λ σ H Q h=>by obtain⟨τ,M,Qd,A,h,k⟩:=h;refine⟨τ,M,_,A,h,λ vs H1 ws M1 kp r1 m1 ⟨hz,q1⟩=>⟨by rw[<- r1.length];exact hz,λ p hp=>?_⟩⟩;exact k _ _ (.m p) (ba M1 p (.lst ws)) (kp.trans (Kp.new hp)) rfl (m1.put (mo:=.lst ws) (Kp.new hp) ⟨vs,aq,r1.keep (Kp.new hp)⟩) (q1 p (m1.free hp))
def iV(t:TAd)(τ:DS)(M:MH)(Q:QD):Prop:=t τ M λ ws M1=>∃ ds,j7 ws=some ds/\ds.length<=sizeLine/\Q (.d (.tuple ds)) M1
theorem ab1{x1}(h:PAd X es t):PD X (.Tuple es x1 pos) (iV t):=iq (aa7 h) λ σ H Q h=>by obtain⟨τ,M,Qd,A,h,k⟩:=h;refine⟨τ,M,_,A,h,λ vs H1 ws M1 kp r1 m1 hq38=>?_⟩;obtain⟨ds,e,hz,q1⟩:=hq38;have e':=j6 e;subst e';have rA:=r1.data;refine⟨by rw[rA.length];exact hz,λ p hp=>k _ _ (.d (.tuple ds)) M1 (kp.trans (Kp.new hp)) ?_ (m1.new hp) q1⟩;simp only[aC,ax];exact⟨p,vs,rfl,.inl (.inl aq),rA.keep (Kp.new hp)⟩
variable {x:Str}{p:Pos}{id T:String}{r:List V->Hp->VK->Prop}{rd:List W->MH->QD->Prop}
def eQ(K:FG)(r:List V->Hp->VK->Prop)(rd:List W->MH->QD->Prop):Prop:=∀ vs H ws M Qd Q,bz K H ws vs->cO K H M->rd ws M Qd->Kont K H Qd Q->r vs H Q
def dCB(rd:List W->MH->QD->Prop)(t:TAd)(τ:DS)(M:MH)(Q:QD):Prop:=t τ M λ ws M1=>rd ws M1 Q
theorem wq(hd:eQ K r rd)(h:up K (dCB rd t) σ H Q):tCB r (upA K t) σ H Q:=by obtain⟨τ,M,Qd,A,h,k⟩:=h;exact⟨τ,M,_,A,h,λ vs H1 ws M1 kp r1 m1 q1=>hd vs H1 ws M1 Qd Q r1 m1 q1 (kgo k kp)⟩
theorem uJ(hc:eC X (.builtin id) r)(hd:eQ X.K r rd)(hg:Gl X x)(hm:X.mg x=none)(hv:bootBuiltins x=some (.builtin id))(ha:PAd X (e::es) t)(hn:x ≠ "__name__":= by decide)(hdb:ND x:=by decide)
  (he:starEach (e::es) X.env=(false,eval e X.env)::starEach es X.env:=by rfl)(hpl:(backTo pos (starEach es X.env)).any (·.1)=false:=by rfl):PD X (.Call (.Name x p) (e::es) [] pos) (dCB rd t):=
 iq (uF hc hg hm hv ha hn hdb he hpl) λ σ H Q h=>wq hd h
theorem sJ(hc:eC X (.type T) r)(hd:eQ X.K r rd)(hg:Gl X x)(hm:X.mg x=none)(hv:bootBuiltins x=some (.type T))(ha:PAd X (e::es) t)(hn:x ≠ "__name__":= by decide)(hdb:ND x:=by decide)
  (he:starEach (e::es) X.env=(false,eval e X.env)::starEach es X.env:=by rfl)(hpl:(backTo pos (starEach es X.env)).any (·.1)=false:=by rfl):PD X (.Call (.Name x p) (e::es) [] pos) (dCB rd t):=
 iq (rO hc hg hm hv ha hn hdb he hpl) λ σ H Q h=>wq hd h
end
section
variable {X:Cx}{pos:Pos}{st:Stmt}{sts:List Stmt}{t u:TSd}{e:Expr}{te:TD}{K:FG}
def cN(D:Ed)(τ:DS)(M:MH):Prop:=D.nx τ M
def bo(t u:TSd)(D:Ed)(τ:DS)(M:MH):Prop:=t {D with nx:=u D} τ M
theorem rh(h1:PSd X st t)(h2:mK X sts u):mK X (st::sts) (bo t u):=abt (uV h1 h2) λ D σ H ⟨τ,M,Dd,A,h,k1,k2,k3,k4⟩ =>
 ⟨τ,M,{Dd with nx:=u Dd},A,h,λ σ' H' τ' M' kp A' q=>⟨τ',M',Dd,A',q,λ σ2 H2 τ2 M2 kp2=>k1 σ2 H2 τ2 M2 (kp.trans kp2),λ v H2 w M2 kp2=>k2 v H2 w M2 (kp.trans kp2),λ σ2 H2 τ2 M2 kp2=>k3 σ2 H2 τ2 M2 (kp.trans kp2),λ σ2 H2 τ2 M2 kp2=>k4 σ2 H2 τ2 M2 (kp.trans kp2)⟩,k2,k3,k4⟩
theorem vG(h1:PSd X st t):mK X [st] t:=y0 h1
def nk(te:TD)(D:Ed)(τ:DS)(M:MH):Prop:=te τ M λ _ M1=>D.nx τ M1
theorem uu(he:PD X e te)(hs:swapsWith e none pos.line X.env=pure false:=by rfl):PSd X (.Expr e pos) (nk te):=nY (yK he hs) λ D σ H ⟨τ,M,Dd,A,h,k1,_⟩ =>
 ⟨τ,M,_,A,h,λ v H1 w M1 kp r m q=>k1 σ H1 τ M1 kp (A.go kp m) q⟩
def fJ(te:TD)(D:Ed)(τ:DS)(M:MH):Prop:=te τ M D.rt
theorem yH(he:PD X e te):PSd X (.Return (some e) pos) (fJ te):=nY (ab6 he) λ D σ H ⟨τ,M,Dd,A,h,k1,k2,_⟩=>⟨τ,M,_,A,h,λ v H1 w M1 kp r m q=>k2 v H1 w M1 kp r m q⟩
def dIf(c:TTd)(t u:TSd)(D:Ed)(τ:DS)(M:MH):Prop:=c τ M λ b M1=>if b=true then t D τ M1 else u D τ M1
theorem aaS(hc:PTd X c tc)(ha:mK X a t)(hb:mK X b u):PSd X (.If c a b pos) (dIf tc t u):=nY (ac3 hc ha hb) λ D σ H hq39=>by
 obtain⟨τ,M,Dd,A,h,k1,k2,k3,k4⟩:=hq39;refine⟨τ,M,_,A,h,λ b H1 M1 kp m q=>?_⟩;have go:∀ {t':TSd},t' Dd τ M1->upS X.K t' D σ H1:=λ {t'} q=>⟨τ,M1,Dd,A.go kp m,q,λ σ2 H2 τ2 M2 kp2=>k1 σ2 H2 τ2 M2 (kp.trans kp2),λ v H2 w M2 kp2=>k2 v H2 w M2 (kp.trans kp2),λ σ2 H2 τ2 M2 kp2=>k3 σ2 H2 τ2 M2 (kp.trans kp2),λ σ2 H2 τ2 M2 kp2=>k4 σ2 H2 τ2 M2 (kp.trans kp2)⟩;cases b with
 | true=>rw[if_pos rfl] at q;show(if true=true then upS X.K t D σ H1 else upS X.K u D σ H1);rw[if_pos rfl];exact go q
 | false=>rw[if_neg Bool.false_ne_true] at q;show(if false=true then upS X.K t D σ H1 else upS X.K u D σ H1);rw[if_neg Bool.false_ne_true];exact go q
abbrev TGd:=W->DS->MH->(DS->MH->Prop)->Prop
def upG(K:FG)(g:TGd):TG:=λ v σ H Q=>∃ w τ M Qd,aC K H w v/\Abs K H σ τ M/\g w τ M Qd/\∀ σ' H' τ' M',Kp H H'->Abs K H' σ' τ' M'->Qd τ' M'->Q σ' H'
abbrev PGd(X:Cx)(e:Expr)(g:TGd):Prop:=PG X e (upG X.K g)
theorem ac6(h:PG X e g)(k:∀ v σ H Q,g' v σ H Q->g v σ H Q):PG X e g':=λ pins s σ H v u Q I r q=>h pins s σ H v u Q I r (k v σ H Q q)
def gN(i:Nat)(w:W)(τ:DS)(M:MH)(Q:DS->MH->Prop):Prop:=Q (τ.set i (some w)) M
def bP(te:TD)(g:TGd)(D:Ed)(τ:DS)(M:MH):Prop:=te τ M λ w M1=>g w τ M1 D.nx
theorem xV(h:upS K (bP te g) D σ H):acm (up K te) (upG K g) D σ H:=by obtain⟨τ,M,Dd,A,h,k1,_⟩:=h;exact⟨τ,M,_,A,h,λ v H1 w M1 kp r m q=>⟨w,τ,M1,_,r,A.go kp m,q,λ σ2 H2 τ2 M2 kp2 A2 q2=>k1 σ2 H2 τ2 M2 (kp.trans kp2) A2 q2⟩⟩
theorem yt(he:PD X e te)(hg:PGd X tg g)(hs:swapsWithSole [tg] e pos.line X.env=pure false:=by rfl)(hw:swappedStores [tg] e X.env=pure none:=by rfl)
  (h1:(assignEach [tg] X.env).map (·.2)=[assign tg X.env]:=by rfl):PSd X (.Assign [tg] e pos) (bP te g):=nY (aaT he hg hs hw h1) λ D σ H h=>xV h
theorem yW(hN:X.N.Nodup)(hi:X.N[i]? =some x)(hx:Loc X.env.scope x)(he:PD X e te)(hs:swapsWith e (some (.Name x pos')) pos.line X.env=pure false:=by rfl)(hf:X.fn x=true\/X.env.scope.names.lookup x=some .local:=by first | exact .inl rfl | exact .inr rfl | assumption) :
  PSd X (.Assign [.Name x pos'] e pos) (bP te (gN i)):=nY (ab4 hN hi hx he hs hf) λ D σ H ⟨τ,M,Dd,A,h,k1,_⟩ =>
 ⟨τ,M,_,A,h,λ v H1 w M1 kp r m q=>k1 _ H1 _ M1 kp ((A.go kp m).set i r) q⟩
end
abbrev SpD:=List W->MH->QD->Prop
def iu(K:FG)(sp:SpD):Sp:=λ vs H Q _=>∃ ws M Qd,bz K H ws vs/\cO K H M/\sp ws M Qd/\Kont K H Qd Q
def bI(sp:SpD)(t:TAd)(τ:DS)(M:MH)(Q:QD):Prop:=t τ M λ ws M1=>sp ws M1 Q
theorem zo(F:gu X.prog X.w X.K X.mg X.base CX0 k f fd ps (iu X.K sp))(hr:er k X.A)(hg:Gl X x)(hm:X.mg x=some (.ref f))(hk:W.keepIn X.K (.ref f)=true)(hb:Binds X.K fd ps [])
  (ha:PAd X (e::es) t)(hdb:ND x:=by decide)(he:starEach (e::es) X.env=(false,eval e X.env)::starEach es X.env:=by rfl)(hpl:(backTo pos (starEach es X.env)).any (·.1)=false:=by rfl) :
  PD X (.Call (.Name x p) (e::es) [] pos) (bI sp t):=iq (yX (E:=E0) (dvs:=[]) F hr hg hm hk hb .nil acK ha hdb he hpl) λ σ H Q h=>by
 obtain⟨τ,M,Qd,A,h,k⟩:=h;exact⟨τ,M,_,A,h,λ vs H1 ws M1 kp r1 m1 q1=>⟨ws,M1,Qd,by rw[List.append_nil];exact r1,m1,q1,kgo k kp⟩⟩
def cf(N:List Str)(ws:List W):DS:=ws.map some++List.replicate (N.length-ws.length) none
section
variable {P:Program}{w:World}{K:FG}{mg:Str->Option Value}{base:Heap}
theorem l4(r:bz K H ws vs)(m:cO K H M):Abs K H (start N vs) (cf N ws) M:=by
 have hl:=r.length;refine⟨?_,λ i w e=>?_,m⟩
 ·simp[L2.start,cf,hl]
 ·unfold cf at e
  by_cases hi:i<ws.length
  ·rw[List.getElem?_append_left (by simpa using hi),List.getElem?_map] at e;cases q:ws[i]? with
   | none=>rw[q] at e;cases e
   | some w' =>
    rw[q] at e;cases e;obtain⟨v,e1,r1⟩:=r.get q;refine⟨v,?_,r1⟩;unfold L2.start;rw[List.getElem?_append_left (by rw[List.length_map,<- hl];exact hi),List.getElem?_map,e1];rfl
  ·rw[List.getElem?_append_right (by simpa using hi),List.getElem?_replicate] at e
   split at e<;>cases e
theorem dG{x qual:Str}{st:Stmt}{N ps:List Str}{k:Nat}{sp:SpD}{t:TSd}(F:Fun K x qual st f fd)(S:bA N ps (au st))(len:∀ ws M Q,sp ws M Q->ws.length=ps.length)
  (hbody:∀ (cdv:Value) (A:Around) (outer:List Env) (s:Shared) (H:Hp) (E:XK),er k (A.deeper (envOfC qual (au st) s.heap.objs.size f cdv)) ->
   mK (wD CX0 P w K mg base N qual (au st) f cdv A outer s H E).nox (bN st) t)
  (read:∀ ws M Q,sp ws M Q->t {nx:=λ _ M'=>Q (.d .none) M',rt:=Q} (cf N ws) M):gu P w K mg base CX0 (k+1) f fd ps (iu K sp):=by
 refine F.ok S (λ vs H Q E h=>?_) (λ cdv A outer s H vs Q E hr h=>?_)
 ·obtain⟨ws,M,Qd,r,_,q,_⟩:=h;rw[<- r.length];exact len _ _ _ q
 ·obtain⟨ws,M,Qd,r,m,q,kk⟩:=h;refine⟨_,hbody cdv A outer s H E hr,cf N ws,M,_,l4 r m,read ws M Qd q,λ σ' H' τ' M' kp A' q'=>?_,λ v H' w' M' kp r' m' q'=>?_,λ σ' H' τ' M' kp A' q'=>q'.elim,λ σ' H' τ' M' kp A' q'=>q'.elim⟩
  ·exact kk _ H' _ M' kp (by simp[aC,ax]) A'.mem q'
  ·exact kk v H' w' M' kp r' m' q'
end
end D
namespace L2
structure gR(k:Nat)(A:Around):Prop where
 gd:A.guards=some []
 dp:A.depth+3 * k+5<recursionLimit
 un:A.units+16 * k+200<cLine
theorem gR.units(r:gR k A):A.units+64<cLine:=by have:=r.un;omega
theorem er.h(r:er k A):gR k A:=⟨r.gd,r.dp,r.un⟩
end L2
namespace D
open L2
mutual
theorem cX(I:Inv X pins σ H s):∀ (d:PyData) {x:V} {u:Value},ax X.K H d x->RelV x u->d.hasDict=false->∃ as,Reads s.heap u d as
 | .none,x,u,h,r,_=>by simp only[ax] at h;subst h;cases (show u=Value.none from r);exact⟨_,.none⟩
 | .bool b,x,u,h,r,_=>by simp only[ax] at h;subst h;cases (show u=Value.bool b from r);exact⟨_,.bool b⟩
 | .int i,x,u,h,r,_=>by simp only[ax] at h;subst h;obtain⟨t,e⟩:=(show ∃ t,u=Value.int i t from r);subst e;exact⟨_,.int i t⟩
 | .str z,x,u,h,r,_=>by simp only[ax] at h;subst h;obtain⟨t,e⟩:=(show ∃ t,u=Value.str z t from r);subst e;exact⟨_,.str z t⟩
 | .list ds,x,u,h,r,hd=>by simp only[ax] at h;obtain⟨a,vs,e,hs,ra⟩:=h;subst e;cases (show u=Value.ref a from r);obtain⟨its,rv,⟨o,n,e1,e2,e3,e4⟩,hz⟩:=I.list hs.sq;obtain⟨as,q⟩:=jq I ds ra rv (by simpa [PyData.hasDict] using hd);exact⟨_,.list e1 e2 e4 (by simpa using q)⟩
 | .tuple ds,x,u,h,r,hd=>by simp only[ax] at h;obtain⟨a,vs,e,hs,ra⟩:=h;subst e;cases (show u=Value.ref a from r);obtain⟨its,rv,⟨o,e1,e2,n,e4⟩,hz⟩:=I.tuple hs;obtain⟨as,q⟩:=jq I ds ra rv (by simpa [PyData.hasDict] using hd);exact⟨_,.tuple e1 e2 e4 (by simpa using q)⟩
 | .dict kvs,x,u,h,r,hd=>by simp[PyData.hasDict] at hd
theorem jq(I:Inv X pins σ H s):∀ (ds:List PyData) {xs:List V} {us:List Value},aS X.K H ds xs->Vals xs us->PyData.hasDictAll ds=false->∃ as,ReadsAll s.heap us ds as
 | [],xs,us,h,r,_=>by simp only[aS] at h;subst h;cases r;exact⟨_,.nil⟩
 | d::ds,xs,us,h,r,hd=>by
  simp only[aS] at h;obtain⟨v,vr,e,h1,h2⟩:=h;subst e;simp only[PyData.hasDictAll,Bool.or_eq_false_iff] at hd;cases r with
  | cons r1 r2 =>
   obtain⟨as,q1⟩:=cX I d h1 r1 hd.1;obtain⟨bs,q2⟩:=jq I ds h2 r2 hd.2;exact⟨_,.cons q1 q2⟩
end
def ya:PyData->Bool
 | .none | .bool _ | .int _ | .str _=>true
 | _=>false
theorem pF:∀ {d:PyData} {x:V} {u:Value} {h:Heap} {K:FG} {H:Hp},ya d=true->ax K H d x->RelV x u->Reads h u d []
 | .none,x,u,h,K,H,_,e,r=>by simp only[ax] at e;subst e;cases (show u=Value.none from r);exact .none
 | .bool b,x,u,h,K,H,_,e,r=>by simp only[ax] at e;subst e;cases (show u=Value.bool b from r);exact .bool b
 | .int i,x,u,h,K,H,_,e,r=>by simp only[ax] at e;subst e;obtain⟨t,z⟩:=(show ∃ t,u=Value.int i t from r);subst z;exact .int i t
 | .str i,x,u,h,K,H,_,e,r=>by simp only[ax] at e;subst e;obtain⟨t,z⟩:=(show ∃ t,u=Value.str i t from r);subst z;exact .str i t
 | .list _,_,_,_,_,_,f,_,_=>nomatch f
 | .tuple _,_,_,_,_,_,f,_,_=>nomatch f
 | .dict _,_,_,_,_,_,f,_,_=>nomatch f
theorem jv{P:Program}{w:World}{h:Heap}{K:FG}{H:Hp}:∀ {kvs:List (PyData×PyData)} {l:List (Key×V)} {vs:List (Key×Value)} {es:List DictEntry},(kvs.all λ p=>ya p.2)=true->gn K H kvs l->KV l vs->Pairs (aQ P w) es vs ->
  ReadsAll h (es.map (·.key)) (kvs.map (·.1)) []/\ReadsAll h (es.map (·.val)) (kvs.map (·.2)) []
 | [],l,vs,es,_,r,kv,p=>by simp only[gn] at r;subst r;cases kv;cases p;exact⟨.nil,.nil⟩
 | (k,d)::kvs,l,vs,es,f,r,kv,p=>by
  simp only[gn] at r;obtain⟨key,v,lr,e,ek,r1,r2⟩:=r;subst e;rw[List.all_cons,Bool.and_eq_true] at f;cases kv with
  | cons q1 q2 =>
   rename_i kv0 vs0
   obtain⟨k0,u0⟩:=kv0;obtain⟨q1,q3⟩:=q1;cases p with
   | cons p1 p2 p3 =>
    rename_i en es0
    obtain⟨i1,i2⟩:=jv f.2 r2 q2 p3;have rk:Reads h en.key k []:=by
     have hk:mF k0 en.key=true:=p1;have hk0:key=k0:=q1;subst hk0;rw[ek];rcases aW hk with ⟨i,t,z1,z2⟩ | ⟨i,t,z1,z2⟩
     ·subst z1;rw[z2];exact .int i t
     ·subst z1;rw[z2];exact .str i t
    have rv:Reads h en.val d []:=by rw[p2];exact pF f.1 r1 q3
    exact⟨.cons rk i1,.cons rv i2⟩
def eS(d:PyData):Bool:=d.showable&&decide (d.shown.length<=sizeLine)&&decide (d.depth<=60)&&(!d.hasDict || match d with
 | .dict kvs=>kvs.all λ p=>ya p.2
 | _=>false)
theorem pX(I:Inv X pins σ H s){d:PyData}{x:V}{u:Value}(h:ax X.K H d x)(r:RelV x u)(ok:eS d=true):∃ as,Reads s.heap u d as/\(d.hasDict=true->sysModules ∉ as):=by
 simp only[eS,Bool.and_eq_true,Bool.or_eq_true] at ok;cases hd:d.hasDict with
 | false =>
  obtain⟨as,q⟩:=cX I d h r hd;exact⟨as,q,λ z=>absurd z (by simp)⟩
 | true =>
  have f:=ok.2.resolve_left (by simp[hd]);cases d with
  | dict kvs =>
   simp only[ax] at h;obtain⟨a,o,l,e,ha,rk⟩:=h;subst e;cases (show u=Value.ref a from r);obtain⟨z,hs,vs,kv,o',es,ep,e1,e2,e3,e4,e5,e6⟩:=vH I.hok (.inr ⟨o,ha⟩);obtain⟨q1,q2⟩:=jv (h:=s.heap) f rk kv e5;refine⟨_,.dict e1 e2.1 e3 q1 q2,λ _ hm=>?_⟩;simp only[List.append_nil] at hm;have hm':sysModules=a:=by simpa using hm
   rw[<- hm'] at hs;simp at hs
  | _=>exact absurd f (by simp)
def lM(d:PyData):Bool:=SeqAt.shaped d&&!d.hasDict
def eO:PyData->PyData->Bool
 | .str _,.str _=>true
 | d,d'=>lM d&&lM d'
theorem eE(h:eO d d'=true):(∃ x y,d=.str x/\d'=.str y)\/(lM d=true/\lM d'=true):=by
 cases d with
 | str x =>
  cases d' with
  | str y=>exact .inl ⟨x,y,rfl,rfl⟩
  | _=>exact .inr (by simpa [eO] using h)
 | _=>exact .inr (by simpa [eO] using h)
theorem rT(x y:Str):decide (V.str x=V.str y)=PyData.eqv (.str x) (.str y):=by
 rw[PyData.eqv]
 by_cases e:x=y
 ·subst e;simp
 ·rw[decide_eq_false (λ z=>e (V.str.inj z))];exact(beq_eq_false_iff_ne.mpr e).symm
theorem wL(hr:gR k X.A):OpR X (compareOp .Eq) (λ x y H Q=>∃ d d',ax X.K H d x/\ax X.K H d' y/\eO d d'=true/\Q (.bl (PyData.eqv d d')) H):=by
 intro pins s σ H x y v u Q I rx ry h;obtain⟨d,d',h1,h2,o,q⟩:=h;rcases eE o with ⟨a,b,e1,e2⟩ | ⟨o1,o2⟩
 ·subst e1;subst e2;simp only[ax] at h1 h2;subst h1;subst h2;exact adv pins s σ H _ _ v u Q I rx ry ⟨rfl,by rw[rT];exact q⟩
 simp only[lM,Bool.and_eq_true,Bool.not_eq_true'] at o1 o2;obtain⟨as,r1⟩:=cX I d h1 rx o1.2;obtain⟨bs,r2⟩:=cX I d' h2 ry o2.2;exact eq_dataH r1 r2 o1.1 o2.1 hr.units ⟨.bl _,H,I,rfl,q⟩
theorem abQ(hr:gR k X.A):OpR X (compareOp .NotEq) (λ x y H Q=>∃ d d',ax X.K H d x/\ax X.K H d' y/\eO d d'=true/\Q (.bl (!PyData.eqv d d')) H):=by
 intro pins s σ H x y v u Q I rx ry h;obtain⟨d,d',h1,h2,o,q⟩:=h;rcases eE o with ⟨a,b,e1,e2⟩ | ⟨o1,o2⟩
 ·subst e1;subst e2;simp only[ax] at h1 h2;subst h1;subst h2;exact adg pins s σ H _ _ v u Q I rx ry ⟨rfl,by rw[rT];exact q⟩
 simp only[lM,Bool.and_eq_true,Bool.not_eq_true'] at o1 o2;obtain⟨as,r1⟩:=cX I d h1 rx o1.2;obtain⟨bs,r2⟩:=cX I d' h2 ry o2.2;exact ne_dataH r1 r2 o1.1 o2.1 hr.units ⟨.bl _,H,I,rfl,q⟩
end D
namespace D
open L2
section
variable {X:Cx}{K:FG}
theorem OpR.or(h:OpR X f r)(h':OpR X f r'):OpR X f (λ x y H Q=>r x y H Q\/r' x y H Q):=by
 intro pins s σ H x y v u Q I rx ry q;rcases q with q | q
 ·exact h pins s σ H x y v u Q I rx ry q
 ·exact h' pins s σ H x y v u Q I rx ry q
theorem OpD.or(h:OpD K r rd)(h':OpD K r' rd'):OpD K (λ x y H Q=>r x y H Q\/r' x y H Q) (λ w w' M Q=>rd w w' M Q\/rd' w w' M Q):=by
 intro x y H w w' M Qd Q r1 r2 m q k;rcases q with q | q
 ·exact .inl (h x y H w w' M Qd Q r1 r2 m q k)
 ·exact .inr (h' x y H w w' M Qd Q r1 r2 m q k)
def zQ(g:Int->Int->PyData)(w:W)(w':W)(M:MH)(Q:QD):Prop:=∃ i j,w=.d (.int i)/\w'=.d (.int j)/\Q (.d (g i j)) M
def rdI(C:Int->Int->Prop)(g:Int->Int->PyData)(w:W)(w':W)(M:MH)(Q:QD):Prop:=∃ i j,w=.d (.int i)/\w'=.d (.int j)/\C i j/\Q (.d (g i j)) M
theorem lV(hg:∀ i j H,ax K H (gd i j) (g i j)):OpD K (rI0 g) (zQ gd):=by intro x y H w w' M Qd Q r1 r2 m ⟨i,j,e1,e2,q⟩ k;subst e1;subst e2;simp only[aC,ax] at r1 r2;exact⟨i,j,r1,r2,k _ H (.d (gd i j)) M (Kp.refl H) (hg i j H) m q⟩
theorem yz(hg:∀ i j H,ax K H (gd i j) (g i j)):OpD K (rI C g) (rdI C gd):=by intro x y H w w' M Qd Q r1 r2 m ⟨i,j,e1,e2,c,q⟩ k;subst e1;subst e2;simp only[aC,ax] at r1 r2;exact⟨i,j,r1,r2,c,k _ H (.d (gd i j)) M (Kp.refl H) (hg i j H) m q⟩
def aae(w w':W)(M:MH)(Q:QD):Prop:=zQ (λ i j=>.int (i-j)) w w' M Q
def fF(w w':W)(M:MH)(Q:QD):Prop:=rdI abW (λ i j=>.int (i * j)) w w' M Q
def dX(w w':W)(M:MH)(Q:QD):Prop:=rdI (λ _ j=>0<j) (λ i j=>.int (i % j)) w w' M Q
def qt(w w':W)(M:MH)(Q:QD):Prop:=rdI acR (λ i j=>.int (i / j)) w w' M Q
def dj(w:W)(w':W)(M:MH)(Q:QD):Prop:=zQ (λ i j=>.int (i+j)) w w' M Q\/∃ x y,w=.d (.str x)/\w'=.d (.str y)/\x.length+y.length<=sizeLine/\Q (.d (.str (x++y))) M
theorem xK:OpD K (rI0 λ i j=>.int (i-j)) aae:=lV λ _ _ _=>by simp[ax]
theorem fX:OpD K (rI abW λ i j=>.int (i * j)) fF:=yz λ _ _ _=>by simp[ax]
theorem dU:OpD K (rI (λ _ j=>0<j) λ i j=>.int (i % j)) dX:=yz λ _ _ _=>by simp[ax]
theorem mV:OpD K (rI acR λ i j=>.int (i / j)) qt:=yz λ _ _ _=>by simp[ax]
def zr:R2:=λ x y H Q=>∃ i j,x=.str i/\y=.str j/\i.length+j.length<=sizeLine/\Q (.str (i++j)) H
theorem vV:OpD K zr (λ w w' M Q=>∃ x y,w=.d (.str x)/\w'=.d (.str y)/\x.length+y.length<=sizeLine/\Q (.d (.str (x++y))) M):=by intro x y H w w' M Qd Q r1 r2 m ⟨i,j,e1,e2,c,q⟩ k;subst e1;subst e2;simp only[aC,ax] at r1 r2;exact⟨i,j,r1,r2,c,k _ H (.d (.str (i++j))) M (Kp.refl H) (by simp[aC,ax]) m q⟩
theorem bU:OpR X (binaryOp .Add) (λ x y H Q=>rI0 (λ i j=>.int (i+j)) x y H Q\/zr x y H Q):=OpR.or zY pP
theorem bp:OpD K (λ x y H Q=>rI0 (λ i j=>.int (i+j)) x y H Q\/zr x y H Q) dj:=OpD.or (lV λ _ _ _=>by simp[ax]) vV
def zR(w w':W)(M:MH)(Q:QD):Prop:=zQ (λ i j=>.bool (decide (i<j))) w w' M Q
def aaa(w w':W)(M:MH)(Q:QD):Prop:=zQ (λ i j=>.bool (decide (j<i))) w w' M Q
def acZ(w w':W)(M:MH)(Q:QD):Prop:=zQ (λ i j=>.bool (decide (j<=i))) w w' M Q
theorem lH:OpD K (rI0 λ i j=>.bl (decide (i<j))) zR:=lV λ _ _ _=>by simp[ax]
theorem wu:OpD K (rI0 λ i j=>.bl (decide (j<i))) aaa:=lV λ _ _ _=>by simp[ax]
theorem aah:OpD K (rI0 λ i j=>.bl (decide (j<=i))) acZ:=lV λ _ _ _=>by simp[ax]
def adA(w:W)(w':W)(M:MH)(Q:QD):Prop:=∃ d d',w=.d d/\w'=.d d'/\eO d d'=true/\Q (.d (.bool (PyData.eqv d d'))) M
theorem aaJ:OpD K (λ x y H Q=>∃ d d',ax K H d x/\ax K H d' y/\eO d d'=true/\Q (.bl (PyData.eqv d d')) H) adA:=by intro x y H w w' M Qd Q r1 r2 m ⟨d,d',e1,e2,o1,q⟩ k;subst e1;subst e2;exact⟨d,d',r1,r2,o1,k _ H (.d (.bool _)) M (Kp.refl H) (by simp[aC,ax]) m q⟩
def vT(w:W)(M:MH)(Q:QD):Prop:=∃ i,w=.d (.int i)/\Q (.d (.int (-i))) M
theorem nP:UnD K (rU λ i=>.int (-i)) vT:=by intro x H w M Qd Q r m ⟨i,e,q⟩ k;subst e;simp only[aC,ax] at r;exact⟨i,r,k _ H (.d (.int (-i))) M (Kp.refl H) (by simp[aC,ax]) m q⟩
def zM:W->Bool
 | .d (.str z)=>decide (z.length<=sizeLine)
 | _=>true
def ixW(M:MH):W->Int->Option W
 | .d (.list ds),i=>(atI ds i).map W.d
 | .d (.tuple ds),i=>(atI ds i).map W.d
 | .d (.str z),i=>(atI z.cps.toList i).map λ c=>W.d (.str ⟨#[c]⟩)
 | .m a,i=>match M a with
  | some (.lst ws)=>atI ws i
  | some (.tup ws)=>atI ws i
  | _=>none
 | _,_=>none
inductive RIx(w:W) (w':W) (M:MH) (Q:QD):Prop
 | mk (i:Int) (x:W) (z0:w'=.d (.int i)) (z1:ixW M w i=some x) (z2:zM w=true) (q:Q x M):RIx w w' M Q
def dB(w:W)(w':W)(M:MH)(Q:QD):Prop:=RIx w w' M Q
theorem oB(r:aS K H ds vs)(e:atI ds i=some d):∃ v,atI vs i=some v/\ax K H d v:=by
 unfold atI at e ⊢;rw[r.length];cases q:ixN ds.length i with
 | none=>rw[q] at e;cases e
 | some j =>
  rw[q] at e;exact r.get e
theorem mf(r:bz K H ds vs)(e:atI ds i=some d):∃ v,atI vs i=some v/\aC K H d v:=by
 unfold atI at e ⊢;rw[<- r.length];cases q:ixN ds.length i with
 | none=>rw[q] at e;cases e
 | some j =>
  rw[q] at e;exact r.get e
theorem bb:OpD K (rIx K) dB:=by
 intro x y H w w' M Qd Q r1 r2 m ⟨i,z,e2,ei,hf,q⟩ k;subst e2;simp only[aC,ax] at r2;cases w with
 | t n=>simp[ixW] at ei
 | m a =>
  simp only[aC] at r1;simp only[ixW] at ei;cases hm:M a with
  | none=>rw[hm] at ei;cases ei
  | some mo =>
   rw[hm] at ei;cases mo with
   | lst ws =>
    obtain⟨vs,e1,rw1⟩:=m a _ hm;obtain⟨v,e3,rv⟩:=mf rw1 ei;exact .inl ⟨a,vs,i,v,r1,r2,SqL.of e1,e3,k v H z M (Kp.refl H) rv m q⟩
   | dic _=>cases ei
   | dct _=>cases ei
   | fdic _=>cases ei
   | ins _ _=>cases ei
   | tup ws =>
    obtain⟨vs,e1,rw1⟩:=m a _ hm;obtain⟨v,e3,rv⟩:=mf rw1 ei;exact .inr (.inl ⟨a,vs,i,v,r1,r2,.inl (.inl e1),e3,k v H z M (Kp.refl H) rv m q⟩)
   | flst _=>cases ei
   | exc _ _=>cases ei
   | code _ _=>cases ei
 | d d =>
  cases d with
  | list ds =>
   simp only[aC,ax] at r1;obtain⟨a,vs,e1,hs,ra⟩:=r1;simp only[ixW] at ei;cases h:atI ds i with
   | none=>rw[h] at ei;cases ei
   | some d =>
    rw[h] at ei;cases ei;obtain⟨v,e3,rv⟩:=oB ra h;exact .inl ⟨a,vs,i,v,e1,r2,hs.sq,e3,k v H (.d d) M (Kp.refl H) rv m q⟩
  | tuple ds =>
   simp only[aC,ax] at r1;obtain⟨a,vs,e1,hs,ra⟩:=r1;simp only[ixW] at ei;cases h:atI ds i with
   | none=>rw[h] at ei;cases ei
   | some d =>
    rw[h] at ei;cases ei;obtain⟨v,e3,rv⟩:=oB ra h;exact .inr (.inl ⟨a,vs,i,v,e1,r2,hs,e3,k v H (.d d) M (Kp.refl H) rv m q⟩)
  | str s =>
   simp only[aC,ax] at r1;simp only[ixW] at ei;cases h:atI s.cps.toList i with
   | none=>rw[h] at ei;cases ei
   | some c =>
    rw[h] at ei;cases ei;exact .inr (.inr ⟨s,i,c,r1,r2,of_decide_eq_true hf,h,k _ H (.d (.str ⟨#[c]⟩)) M (Kp.refl H) (by simp[aC,ax]) m q⟩)
  | _=>simp[ixW] at ei
theorem ye(h:PE X e t):PE X e (λ σ H Q=>t σ H λ v H1=>Q v H1\/∃ p u,v=.ref p/\H1 p=some u/\Fz u/\∀ o,Q v (upd H1 p (.frz o u))):=by
 intro pins s σ H Q I hq;refine thn (h pins s σ H _ I hq) λ v s1 hq40=>?_;obtain⟨x,H1,I1,r1,q⟩:=hq40;rcases q with q | ⟨p,u,e1,e2,f,q⟩
 ·exact⟨x,_,I1,r1,q⟩
 ·obtain⟨o,I2⟩:=I1.freeze e2 f;exact⟨x,_,I2,r1,q o⟩
def adS:V->Option Int->Option Int->Hp->VK->Prop:=λ x lo hi H Q=>∃ z,x=.str z/\z.length<=sizeLine/\Q (.str (Txt.slice z lo hi)) H
theorem zZ:SlR X adS:=by
 intro pins s σ H x v vl vu lo hi sl Q I rx hs pl pu h;obtain⟨z,rfl,hz,q⟩:=h;obtain⟨t,rfl⟩:=rx;have fin:∀ t' k,EP X pins σ Q (.str (Txt.slice z lo hi) t') {s with toks:=k}:=λ t' k=>⟨.str _,H,I.tok _,⟨_,rfl⟩,q⟩;refine⟨"str",_,F.slot_str_getitem.lookup,typeIs_str _ _ _,?_⟩;cases pl with
 | none =>
  cases pu with
  | none=>exact wpAny_getItem_str_slice (l:=none) (u:=none) (st:=none) hs rfl (post_val_or_str ⟨Nat.le_trans (Txt.slice_le z _ _) hz,fin⟩)
  | int j uj=>exact wpAny_getItem_str_slice (l:=none) (u:=some (j,uj)) (st:=none) hs rfl (post_val_or_str ⟨Nat.le_trans (Txt.slice_le z _ _) hz,fin⟩)
 | int i ui =>
  cases pu with
  | none=>exact wpAny_getItem_str_slice (l:=some (i,ui)) (u:=none) (st:=none) hs rfl (post_val_or_str ⟨Nat.le_trans (Txt.slice_le z _ _) hz,fin⟩)
  | int j uj=>exact wpAny_getItem_str_slice (l:=some (i,ui)) (u:=some (j,uj)) (st:=none) hs rfl (post_val_or_str ⟨Nat.le_trans (Txt.slice_le z _ _) hz,fin⟩)
abbrev TOd:=DS->MH->(Option Int->MH->Prop)->Prop
def upO(K:FG)(t:TOd):TO:=λ σ H Q=>∃ τ M Qd,Abs K H σ τ M/\t τ M Qd/\∀ b H' M',Kp H H'->cO K H' M'->Qd b M'->Q b H'
abbrev POd(X:Cx)(e:Option Expr)(t:TOd):Prop:=PO X e (upO X.K t)
theorem adC(h:PO X e t)(k:∀ σ H Q,t' σ H Q->t σ H Q):PO X e t':=λ pins s σ H Q I q=>h pins s σ H Q I (k σ H Q q)
def e9(_:DS)(M:MH)(Q:Option Int->MH->Prop):Prop:=Q none M
def km(t:TD)(τ:DS)(M:MH)(Q:Option Int->MH->Prop):Prop:=t τ M λ w M1=>∃ i,w=.d (.int i)/\Q (some i) M1
theorem vC(h:PD X e te):POd X (some e) (km te):=adC (yi h) λ σ H Q ⟨τ,M,Qd,A,q,k⟩=>⟨τ,M,_,A,q,λ v H1 w M1 kp r m hq41=>by obtain⟨i,e,q1⟩:=hq41;subst e;simp only[aC,ax] at r;exact⟨i,r,k _ H1 M1 kp m q1⟩⟩
def cutD(xs:List α)(lo hi:Option Int):List α:=(xs.drop (HT.sIx xs.length 0 lo)).take (HT.sIx xs.length xs.length hi-HT.sIx xs.length 0 lo)
def wZ(n:Nat)(lo hi:Option Int):Bool:=decide (HT.sIx n 0 lo=0/\HT.sIx n n hi=n)
def slW:W->Option Int->Option Int->Option W
 | .d (.list ds),lo,hi=>some (.d (.list (cutD ds lo hi)))
 | .d (.tuple ds),lo,hi=>if wZ ds.length lo hi then none else some (.d (.tuple (cutD ds lo hi)))
 | .d (.str z),lo,hi=>some (.d (.str (Txt.slice z lo hi)))
 | _,_,_=>none
def dSl(te:TD)(tl th:TOd)(τ:DS)(M:MH)(Q:QD):Prop:=te τ M λ w M1=>tl τ M1 λ lo M2=>th τ M2 λ hi M3=>∃ z,slW w lo hi=some z/\zM w=true/\Q z M3
theorem abn:SlR X (λ x lo hi H Q=>adL X.K x lo hi H Q\/adU X.K x lo hi H Q\/adS x lo hi H Q):=xM.or (zX.or zZ)
theorem aS.cut(r:aS K H ds vs)(lo hi:Option Int):aS K H (cutD ds lo hi) (wJ vs lo hi):=by
 unfold cutD wJ;rw[r.length];exact(r.drop _).take _
theorem vm{te:TD}{lo hi:Option Expr}{tl th:TOd}{pos p2:Pos}(he:PD X e te)(hl:POd X lo tl)(hu:POd X hi th):PD X (.Subscript e (.Slice lo hi none p2) pos) (dSl te tl th):=
 iq (ye (uC abn he hl hu)) λ σ H Q h=>by
  obtain⟨τ,M,Qd,A,h,k⟩:=h;refine⟨τ,M,_,A,h,λ v H1 w M1 kp1 r1 m1 q1=>⟨τ,M1,_,A.go kp1 m1,q1,λ lo H2 M2 kp2 m2 q2=>⟨τ,M2,_,A.go (kp1.trans kp2) m2,q2,λ hi H3 M3 kp3 m3 q3=>?_⟩⟩⟩;obtain⟨z,ez,hf,q⟩:=q3;have kp:=(kp1.trans kp2).trans kp3;have r:=r1.keep (kp2.trans kp3);cases w with
  | t n=>simp[slW] at ez
  | m a=>simp[slW] at ez
  | d d =>
   cases d with
   | list ds =>
    simp only[slW] at ez;cases ez;simp only[aC,ax] at r;obtain⟨a,vs,e1,hs,ra⟩:=r;exact .inl ⟨a,vs,e1,hs.sq,λ p hp=>.inr (ke hp (aS.cut ra lo hi) m3 q (kgo k kp))⟩
   | tuple ds =>
    simp only[slW] at ez
    split at ez
    ·cases ez
    ·rename_i hw
     cases ez;simp only[aC,ax] at r;obtain⟨a,vs,e1,hs,ra⟩:=r;refine .inr (.inl ⟨a,vs,e1,hs,?_,λ p hp=>.inl ?_⟩)
     ·rw[ra.length]
      simpa [wZ] using hw
     ·refine k _ _ (.d (.tuple _)) M3 (kp.trans (Kp.new hp)) ?_ (m3.new hp) q;simp only[aC,ax];exact⟨p,_,rfl,.inl (.inl aq),(aS.cut ra lo hi).keep (Kp.new hp)⟩
   | str s =>
    simp only[slW] at ez;cases ez;simp only[aC,ax] at r;exact .inr (.inr ⟨s,r,of_decide_eq_true hf,.inl (k _ H3 (.d (.str _)) M3 kp (by simp[aC,ax]) m3 q)⟩)
   | _=>simp[slW] at ez
def uX(to ti:TD)(v:W)(τ:DS)(M:MH)(Q:DS->MH->Prop):Prop:=to τ M λ w M1=>ti τ M1 λ w' M2=>∃ a ws i j,w=.m a/\w'=.d (.int i)/\M2 a=some (.lst ws)/\ixN ws.length i=some j/\Q τ (ba M2 a (.lst (ws.set j v)))
theorem qK(m:cO K H M)(e:H a=some (.lst vs))(rw1:bz K H ws vs)(rv:aC K H w v) :
  Kp H (upd H a (.lst (vs.set j v)))/\cO K (upd H a (.lst (vs.set j v))) (ba M a (.lst (ws.set j w))):=by
 have kp:Kp H (upd H a (.lst (vs.set j v))):=Kp.set e (λ xs z=>nomatch z) λ _ _ z=>nomatch z;exact⟨kp,m.put kp ⟨_,aq,(bz.set rv j rw1).keep kp⟩⟩
theorem zg(ho:PD X o to)(hi:PD X i ti)
  (ha:∀ v,assign (.Subscript o i pos) X.env v=(do
   let ov <- holding [v] (eval o X.env)
   let iv <- holding [v,ov] (eval i X.env)
   standAt pos
   holding [v,ov,iv] (setItem ov iv v)
   release [v,ov,iv] []):=by intro _;rfl):PGd X (.Subscript o i pos) (uX to ti):=ac6 (abS ho hi set_list ha) λ v σ H Q h=>by
 obtain⟨w,τ,M,Qd,rv,A,h,k⟩:=h;refine⟨τ,M,_,A,h,λ x H1 wo M1 kp1 r1 m1 q1=>⟨τ,M1,_,A.go kp1 m1,q1,λ y H2 wi M2 kp2 r2 m2 q2=>?_⟩⟩;obtain⟨a,ws,i,j,e1,e2,hm,hj,q⟩:=q2;subst e1;subst e2;simp only[aC,ax] at r1 r2;obtain⟨vs,e3,rw1⟩:=m2 a _ hm;have kp:=kp1.trans kp2;obtain⟨kp3,m3⟩:=qK (j:=j) m2 e3 rw1 (rv.keep kp);exact⟨a,vs,i,j,r1,r2,e3,by rw[<- rw1.length];exact hj,k σ _ τ _ (kp.trans kp3) (A.go (kp.trans kp3) m3) q⟩
theorem uU:adR X (adf X.K):=by
 intro pins s σ H o i ov iv Q I ro ri h;obtain⟨p,xs,k,z,rfl,rfl,hq,he,q⟩:=h;cases ro;obtain⟨t,rfl⟩:=ri;obtain⟨its,r,pl,hz⟩:=I.list hq;obtain⟨j,h1,h2,h3,h4,h5⟩:=kP he;obtain⟨w,ew,rw'⟩:=r.get h2;have hl:=r.length;have hn:=jx;have fin:EP X pins σ Q w s:=⟨z,H,I,rw',q⟩
 by_cases h0:0<=k
 ·have hj:k.toNat=j:=by rw[seqIndex_of h0 h5] at h1;exact Option.some.inj h1
  exact wpAny_getItem_list pl.isList h0 (by omega) (by rw[hj];simpa using ew) fin
 ·have hj:(k+(its.toArray.size:Int)).toNat=j:=by rw[seqIndex_neg (by omega) h4] at h1;rw[List.size_toArray,<- hl];exact Option.some.inj h1
  exact wpAny_getItem_list_neg pl.isList (by omega) (by rw[List.size_toArray]<;>omega) (by omega) (by rw[hj];simpa using ew) fin
def vQ(to ti te:TD)(f:Int->Int->Int)(D:Ed)(τ:DS)(M:MH):Prop:=to τ M λ w M1=>ti τ M1 λ w' M2=>∃ a ws i j n,w=.m a/\w'=.d (.int i)/\M2 a=some (.lst ws)/\ixN ws.length i=some j/\ws[j]? =some (.d (.int n)) /\
 te τ M2 λ y M3=>∃ n',y=.d (.int n')/\M3=M2/\D.nx τ (ba M3 a (.lst (ws.set j (.d (.int (f n n'))))))
theorem vD(ho:PD X o to)(hi:PD X i ti)(he:PD X e te)(hp:PIp X op (ipI f))
  (ha:∀ ov iv new,augStore i ov iv new=(do holding [new,ov,iv] (setItem ov iv new);release [new,ov,iv] [];pure .next):=by intros;rfl):PSd X (.AugAssign (.Subscript o i tpos) op e pos) (vQ to ti te f):=
 nY (yM ho hi uU he hp set_list ha) λ D σ H h=>by
  obtain⟨τ,M,Dd,A,h,k1,_⟩:=h;refine⟨τ,M,_,A,h,λ x H1 wo M1 kp1 r1 m1 q1=>⟨τ,M1,_,A.go kp1 m1,q1,λ y H2 wi M2 kp2 r2 m2 q2=>?_⟩⟩;obtain⟨a,ws,i,j,n,e1,e2,hm,hj,hn,q⟩:=q2;subst e1;subst e2;simp only[aC,ax] at r1 r2;obtain⟨vs,e3,rw1⟩:=m2 a _ hm;obtain⟨v,e4,rv⟩:=rw1.get hn;simp only[aC,ax] at rv;have hj':ixN vs.length i=some j:=by rw[<- rw1.length];exact hj
  refine⟨a,vs,i,v,r1,r2,SqL.of e3,by unfold atI;rw[hj'];exact e4,?_⟩;refine⟨τ,M2,_,A.go (kp1.trans kp2) m2,q,λ z H3 wz M3 kp3 r3 m3 q3=>?_⟩;obtain⟨n',e5,e6,qn⟩:=q3;subst e5;subst e6;simp only[aC,ax] at r3;refine⟨n,n',rv,r3,?_⟩;obtain⟨vs',e3',rw2⟩:=m3 a _ hm;have kp:=(kp1.trans kp2).trans kp3;obtain⟨kp4,m4⟩:=qK (j:=j) (v:=.int (f n n')) (w:=.d (.int (f n n'))) m3 e3' rw2 (by simp[aC,ax]);exact⟨a,vs',i,j,r1,r2,e3',by rw[<- rw2.length];exact hj,k1 σ _ τ _ (kp.trans kp4) (A.go (kp.trans kp4) m4) qn⟩
end
section
variable {X:Cx}{K:FG}{tg:Expr}
def Its(z:Str):It:=⟨λ i _=>i<z.cps.size,λ i H x H'=>H'=H/\∃ c,z.cps[i]? =some c/\x=.str ⟨#[c]⟩,λ i _=>z.cps.size<=i⟩
theorem oN(it:Addr)(T:String)(z:Str)(t:Tok)
  (hT:["enumerate", "zip", "dict_itemiterator", "dict_reverseitemiterator", "odict_iterator", "itertools.zip_longest", "itertools.pairwise"].contains T=false)
  (W:∀ A:Around,A.handled=none->Walks P w A it [it] [it] z.cps.size (SignAt z) (λ i h=>h.IsStrIter it T z t i))(hself:∀ (A:Around) (i:Nat) (s:Shared) (Q:VP) (E:VP),s.heap.IsStrIter it T z t i->Q (.ref it) s->wpAny (model P w) A (pyIter (.ref it)) Q E s)
  (hend:∀ (A:Around) (i:Nat) (s:Shared) (Q:Option Value->Shared->Prop) (E:VP),A.handled=none->s.heap.IsStrIter it T z t i->z.cps[i]? =none->(∀ h',Heap.ExtBut it s.heap h'->Q none {s with heap:=h'})->wpAny (model P w) A (pyNext (.ref it)) Q E s) :
  Turn P w K tg (Its z) [it] it (λ i h=>h.IsStrIter it T z t i) where
 mem:=by simp
 obj:=λ i h st b hb=>by
  have e:b=it:=by simpa using hb
  subst e;obtain⟨o,e,c,d⟩:=st;exact⟨o,e,λ v q=>by rw[d] at q;cases q⟩
 keep:=λ i h h' st k=>by obtain⟨o,e,r⟩:=st;exact⟨o,k it (by simp) o e,r⟩
 item:=by intro X hP hw hK hc i pins s σ H E I hf st hg;subst hP hw hK;obtain⟨f0,f1,f2,f3,f4,f5⟩:=hf it (by simp);refine(W X.A (I.ok.hd hc)).item i s _ _ hg st λ v h' tk hv st' kk=>?_;obtain⟨c,u,hc',rfl⟩:=hv;have I1:Inv X pins σ H {s with heap:=h',toks:=tk}:=I.turned (λ b o hb e=>kk b o (by simpa using hb) e) f0 f1 f3 f4 f5;obtain⟨o,e,cl,d⟩:=id st';exact⟨_,rfl,p9 (s:={s with heap:=h',toks:=tk}) e cl d hT ⟨.str ⟨#[c]⟩,H,I1,⟨u,rfl⟩,⟨rfl,c,hc',rfl⟩,st',λ b hb=>(hf b hb).1⟩⟩
 done:=by intro X hP hw hK hc i pins s σ H E I hf st hg;subst hP hw hK;obtain⟨f0,f1,f2,f3,f4,f5⟩:=hf it (by simp);have hn:z.cps.size<=i:=hg;exact hend X.A i s _ E (I.ok.hd hc) st (by simp[hn]) λ h' eb=>⟨rfl,I.turned (t':=s.toks) (λ b o hb e=>eb b o hb e) f0 f1 f3 f4 f5⟩
 self:=hself
section
variable {pins:PN}{σ:St}{H:Hp}{s:Shared}{R:It->Hp->Prop}{E:VP}
theorem abC(I:Inv X pins σ H s)(q:R (Its z) H):wpAny (model X.prog X.w) X.A (pyIter (.str z t)) (PIE X pins σ tg R) E s:=by
 cases ha:z.cps.all (·<128)
 ·refine wpAny_pyIter_wide ha ?_;refine⟨s.heap.objs.size,[s.heap.objs.size],_,_,H,rfl,I.kept (t':=s.toks) λ b o e=>Heap.get?_push_of_some _ e,
   oN _ "str_iterator" z t (by decide) (λ A hA=>Walks.strWide hA _ z t) (λ A i s Q E st h=>wpAny_pyIter_striter_wide st h) (λ A i s Q E hh st hx hQ=>wpAny_pyNext_wide_end hh st hx hQ),⟨_,Heap.get?_push_size _ rfl,rfl,rfl⟩,λ b hb=>?_,q⟩
  have e:b=s.heap.objs.size:=by simpa using hb
  subst e;exact I.qo (Nat.le_refl _) (I.hok.fresh (Nat.le_refl _))
 ·refine wpAny_pyIter_ascii ha ?_;refine⟨s.heap.objs.size,[s.heap.objs.size],_,_,H,rfl,I.kept (t':=s.toks) λ b o e=>Heap.get?_push_of_some _ e,
   oN _ "str_ascii_iterator" z t (by decide) (λ A hA=>Walks.strAscii hA _ z t) (λ A i s Q E st h=>wpAny_pyIter_striter_ascii st h) (λ A i s Q E hh st hx hQ=>wpAny_pyNext_ascii_end hh st hx hQ),⟨_,Heap.get?_push_size _ rfl,rfl,rfl⟩,λ b hb=>?_,q⟩
  have e:b=s.heap.objs.size:=by simpa using hb
  subst e;exact I.qo (Nat.le_refl _) (I.hok.fresh (Nat.le_refl _))
theorem yv(I:Inv X pins σ H s)(hq:SqL X.K H a xs)(q:R (Itl X.K a) H):wpAny (model X.prog X.w) X.A (pyIter (.ref a)) (PIE X pins σ tg R) E s:=by
 obtain⟨its,rv,p,hz⟩:=I.list hq;refine wpAny_pyIter_list p.isList ?_;refine⟨s.heap.objs.size,[s.heap.objs.size],_,_,H,rfl,I.kept (t':=s.toks) λ b o e=>Heap.get?_push_of_some _ e,qF a _,⟨_,Heap.get?_push_size _ rfl,rfl,rfl⟩,λ b hb=>?_,q⟩;have e:b=s.heap.objs.size:=by simpa using hb
 subst e;exact I.qo (Nat.le_refl _) (I.hok.fresh (Nat.le_refl _))
theorem abD(I:Inv X pins σ H s)(hq:SqT X.K H a xs)(q:R (Itt X.K a) H):wpAny (model X.prog X.w) X.A (pyIter (.ref a)) (PIE X pins σ tg R) E s:=by
 obtain⟨its,rv,p,hz⟩:=I.tuple hq;refine wpAny_pyIter_tuple (show s.heap.IsTuple a its.toArray from p) ?_;refine⟨s.heap.objs.size,[s.heap.objs.size],_,_,H,rfl,I.kept (t':=s.toks) λ b o e=>Heap.get?_push_of_some _ e,qp a _,⟨_,Heap.get?_push_size _ rfl,rfl,rfl⟩,λ b hb=>?_,q⟩;have e:b=s.heap.objs.size:=by simpa using hb
 subst e;exact I.qo (Nat.le_refl _) (I.hok.fresh (Nat.le_refl _))
end
def ad6(K:FG)(tl:TE):TI:=λ σ H R=>tl σ H λ x H1=>(∃ a xs,x=.ref a/\SqL K H1 a xs/\R (Itl K a) H1)\/(∃ a xs,x=.ref a/\SqT K H1 a xs/\R (Itt K a) H1)\/∃ z,x=.str z/\R (Its z) H1
theorem abE(hl:PE X l tl):PI X tg l (ad6 X.K tl):=by
 intro pins s σ H R I h;refine thn (hl pins s σ H _ I h) λ v s1 hq42=>?_;obtain⟨x,H1,I1,r1,q1⟩:=hq42;rcases q1 with ⟨a,xs,e,hq,q⟩ | ⟨a,xs,e,hq,q⟩ | ⟨z,e,q⟩
 ·subst e;cases r1;exact yv I1 hq q
 ·subst e;cases r1;exact abD I1 hq q
 ·subst e;obtain⟨t,rfl⟩:=r1;exact abC I1 q
def ItD(K:FG)(J:It)(H0:Hp)(ws:List W):Prop:=∀ H,Kp H0 H->∀ i:Nat,(i<ws.length->J.go i H)/\(ws.length<=i->J.stop i H) /\
 ∀ x H',i<ws.length->J.yld i H x H'->Kp H H'/\(∀ M,cO K H M->cO K H' M)/\∃ w,ws[i]? =some w/\aC K H' w x
abbrev TId:=DS->MH->(List W->MH->Prop)->Prop
def upI(K:FG)(t:TId):TI:=λ σ H R=>∃ τ M Rd,Abs K H σ τ M/\t τ M Rd/\∀ J H' ws M',Kp H H'->cO K H' M'->ItD K J H' ws->Rd ws M'->R J H'
abbrev PId(X:Cx)(tg iter:Expr)(t:TId):Prop:=PI X tg iter (upI X.K t)
theorem abz(h:PI X tg iter t)(k:∀ σ H R,t' σ H R->t σ H R):PI X tg iter t':=λ pins s σ H R I q=>h pins s σ H R I (k σ H R q)
def iW:W->Option (List W)
 | .d (.list ds)=>some (ds.map W.d)
 | .d (.tuple ds)=>some (ds.map W.d)
 | .d (.str z)=>some (z.cps.toList.map λ c=>W.d (.str ⟨#[c]⟩))
 | _=>none
def bG(te:TD)(τ:DS)(M:MH)(R:List W->MH->Prop):Prop:=te τ M λ w M1=>∃ ws,iW w=some ws/\R ws M1
theorem yy(hs:SqT K H a vs)(ra:aS K H ds vs):ItD K (Itt K a) H (ds.map W.d):=λ H1 kp i=>by
 have hl:=ra.length;refine⟨λ hi=>?_,λ hi=>⟨vs,SqT.keep kp hs,by rw[List.length_map] at hi;omega⟩,λ x H' hi y=>?_⟩
 ·rw[List.length_map] at hi;exact⟨vs,vs[i]'(by omega),SqT.keep kp hs,by simp⟩
 ·obtain⟨e,y⟩:=y;subst e;have ev:=y vs (SqT.keep kp hs);obtain⟨d,e1,rd⟩:=(ra.keep kp).get' ev;exact⟨Kp.refl _,λ M m=>m,.d d,by simp[e1],rd⟩
theorem zf(z:Str):ItD K (Its z) H (z.cps.toList.map λ c=>W.d (.str ⟨#[c]⟩)):=λ H1 kp i=>by refine⟨λ hi=>(show i<z.cps.size by simpa using hi),λ hi=>(show z.cps.size<=i by simpa using hi),λ x H' hi y=>?_⟩;obtain⟨e,c,hc,ex⟩:=y;subst e;subst ex;exact⟨Kp.refl _,λ M m=>m,.d (.str ⟨#[c]⟩),by simp[hc],by simp[aC,ax]⟩
theorem zG(lo:Int)(n:Nat):ItD K (Itr lo n) H ((List.range n).map λ i:Nat=>W.d (.int (lo+(i:Int)))):=λ H1 kp i=>by refine⟨λ hi=>(show i<n by simpa using hi),λ hi=>(show n<=i by simpa using hi),λ x H' hi y=>?_⟩;obtain⟨e,ex⟩:=y;subst e;subst ex;simp at hi;exact⟨Kp.refl _,λ M m=>m,.d (.int (lo+i)),by simp[hi],by simp[aC,ax]⟩
theorem sL(h:PD X l te):PId X tg l (bG te):=abz (abE h) λ σ H R hq43=>by
 obtain⟨τ,M,Rd,A,h,k⟩:=hq43;refine⟨τ,M,_,A,h,λ v H1 w M1 kp r m hq44=>?_⟩;obtain⟨ws,e,q⟩:=hq44;cases w with
 | t n=>simp[iW] at e
 | m a=>simp[iW] at e
 | d d =>
  cases d with
  | list ds =>
   simp only[iW] at e;cases e;simp only[aC,ax] at r;obtain⟨a,vs,e1,hs,ra⟩:=r;refine .inl ⟨a,vs,e1,hs.sq,k _ H1 _ M1 kp m ?_ q⟩;intro H2 kp2 i;have hl:=ra.length;have hs2:=(hs.keep kp2).sq;refine⟨λ hi=>?_,λ hi=>⟨vs,hs2,by rw[List.length_map] at hi;omega⟩,λ x H' hi y=>?_⟩
   ·rw[List.length_map] at hi;exact⟨vs,vs[i]'(by omega),hs2,by simp⟩
   ·obtain⟨e,y⟩:=y;subst e;have ev:=y vs hs2;obtain⟨d,e1,rd⟩:=(ra.keep kp2).get' ev;exact⟨Kp.refl _,λ M m=>m,.d d,by simp[e1],rd⟩
  | tuple ds =>
   simp only[iW] at e;cases e;simp only[aC,ax] at r;obtain⟨a,vs,e1,hs,ra⟩:=r;exact .inr (.inl ⟨a,vs,e1,hs,k _ H1 _ M1 kp m (yy hs ra) q⟩)
  | str z =>
   simp only[iW] at e;cases e;simp only[aC,ax] at r;exact .inr (.inr ⟨z,r,k _ H1 _ M1 kp m (zf z) q⟩)
  | _=>simp[iW] at e
def hJ(lo:Int)(n:Nat):List W:=(List.range n).map λ i:Nat=>W.d (.int (lo+(i:Int)))
def ip(ta:TAd)(τ:DS)(M:MH)(R:List W->MH->Prop):Prop:=ta τ M λ ws M1=>∃ j:Int,ws=[.d (.int j)]/\-(2 ^ 62)<=j/\j<2 ^ 62/\R (hJ 0 j.toNat) M1
theorem eG(r:bz K H [w] vs):∃ v,vs=[v]/\aC K H w v:=by
 cases r with
 | cons r1 r2=>cases r2;exact⟨_,rfl,r1⟩
theorem qM(r:bz K H [w,w'] vs):∃ v v',vs=[v,v']/\aC K H w v/\aC K H w' v':=by
 cases r with
 | cons r1 r2 =>
  cases r2 with
  | cons r3 r4=>cases r4;exact⟨_,_,rfl,r1,r3⟩
theorem pY(hg:Gl X "range")(hm:X.mg "range" = none)(ha:PAd X [a] ta)(hs:starEach [a] X.env=[(false,eval a X.env)]:=by rfl):PId X tg (.Call (.Name "range" p) [a] [] pos) (ip ta):=
 abz (rj hg hm ha hs) λ σ H R ⟨τ,M,Rd,A,h,k⟩=>⟨τ,M,_,A,h,λ vs H1 ws M1 kp r m hq45=>by obtain⟨j,e,h1,h2,q⟩:=hq45;subst e;obtain⟨v,e1,r1⟩:=eG r;simp only[aC,ax] at r1;subst r1;exact⟨j,e1,h1,h2,k _ H1 _ M1 kp m (zG 0 j.toNat) q⟩⟩
def ik(di:TId)(g:TGd)(tb:TSd)(D:Ed)(τ:DS)(M:MH):Prop:=di τ M λ ws M1=>∃ P:Nat->DS->MH->Prop,P 0 τ M1 /\
 (∀ i w τ M,ws[i]? =some w->P i τ M->g w τ M λ τ2 M2=>tb {D with nx:=P (i+1),ct:=P (i+1),bk:=D.nx} τ2 M2)/\∀ τ M,P ws.length τ M->D.nx τ M
theorem zw(hp:PassesOwn (model X.prog X.w) X.A X.env X.xe)(hc:X.calm=true)(hi:PId X tg iter di)(hg:PGd X tg g)(hb:mK X body tb)
  (hs:∀ x,foldedSetIterable iter X.env x=pure x:=by intro _;rfl):PSd X (.For tg iter body [] pos) (ik di g tb):=nY (aaK hp hc hi hg hb hs) λ D σ H hq46=>by
 obtain⟨τ,M,Dd,A,h,k1,k2,k3,k4⟩:=hq46;refine⟨τ,M,_,A,h,λ J H1 ws M1 kp m1 it hq47=>?_⟩;obtain⟨P,p0,pt,pe⟩:=hq47;refine⟨λ i n σ H'=>n=ws.length-i/\i<=ws.length/\Kp H1 H'/\∃ τ M,Abs X.K H' σ τ M/\P i τ M,⟨ws.length,by simp,Nat.zero_le _,Kp.refl _,τ,M1,A.go kp m1,p0⟩,?_⟩;rintro i n σ2 H2 ⟨rfl,hi,kp2,τ2,M2,A2,p2⟩;obtain⟨go,stop,yld⟩:=it H2 kp2 i
 by_cases hlt:i<ws.length
 ·refine .inr ⟨go hlt,λ σ3 H3=>Kp H2 H3/\∃ τ M,Abs X.K H3 σ3 τ M/\P (i+1) τ M,λ σ3 H3 ⟨kp3,τ3,M3,A3,p3⟩=>⟨ws.length-(i+1),by omega,rfl,hlt,kp2.trans kp3,τ3,M3,A3,p3⟩,λ x H3 y=>?_⟩;obtain⟨kp3,mk,w,ew,rw⟩:=yld x H3 hlt y;refine⟨w,τ2,M2,_,rw,A2.go kp3 (mk _ A2.mem),pt i w τ2 M2 ew p2,λ σ4 H4 τ4 M4 kp4 A4 q4=>?_⟩;have kq:=kp3.trans kp4;have kr:=(kp.trans kp2).trans kq;exact⟨τ4,M4,_,A4,q4,λ σ5 H5 τ5 M5 kp5 A5 q5=>⟨kq.trans kp5,τ5,M5,A5,q5⟩,λ v H5 w M5 kp5=>k2 v H5 w M5 (kr.trans kp5),λ σ5 H5 τ5 M5 kp5=>k1 σ5 H5 τ5 M5 (kr.trans kp5),λ σ5 H5 τ5 M5 kp5 A5 q5=>⟨kq.trans kp5,τ5,M5,A5,q5⟩⟩
 ·have hl:i=ws.length:=by omega
  subst hl;exact .inl ⟨stop (Nat.le_refl _),k1 σ2 H2 τ2 M2 (kp.trans kp2) A2 (pe τ2 M2 p2)⟩
def zE(k:Nat)(fr:List Nat)(τ:DS):DS:=List.replicate k none++fr.map λ j=>(τ[j]?).getD none
theorem sD(A:Abs K H σ τ M)(k:Nat)(fr:List Nat):Abs K H (lcS k fr σ) (zE k fr τ) M:=by
 refine⟨by simp[lcS,zE],λ i w e=>?_,A.mem⟩;unfold zE at e
 by_cases hi:i<k
 ·rw[List.getElem?_append_left (by simpa using hi),List.getElem?_replicate] at e
  split at e<;>cases e
 ·rw[List.getElem?_append_right (by simpa using hi),List.getElem?_map,List.length_replicate] at e;cases q:fr[i-k]? with
  | none=>rw[q] at e;cases e
  | some j =>
   rw[q] at e;have e':(τ[j]?).getD none=some w:=Option.some.inj e;have e2:τ[j]? =some (some w):=by
    cases z:τ[j]? with
    | none=>rw[z] at e';cases e'
    | some o=>rw[z] at e';exact congrArg some e'
   obtain⟨v,q1,r⟩:=A.val j w e2;refine⟨v,?_,r⟩;unfold lcS;rw[List.getElem?_append_right (by simpa using hi),List.getElem?_map,List.length_replicate,q];simp[q1]
def dLC(di:TId)(g:TGd)(tt:TTd)(te:TD)(k:Nat)(fr:List Nat)(τ:DS)(M:MH)(Q:QD):Prop:=di τ M λ ws M1=>∃ P:Nat->List PyData->DS->MH->Prop,P 0 [] (zE k fr τ) M1 /\
 (∀ i w acc τ M,ws[i]? =some w->P i acc τ M->acc.length<sizeLine/\g w τ M λ τ2 M2=>tt τ2 M2 λ b M3=>if b=true then te τ2 M3 λ y M4=>∃ d,y=.d d/\P (i+1) (acc++[d]) τ2 M4 else P (i+1) acc τ2 M3) /\
 ∀ acc τ M,P ws.length acc τ M->Q (.d (.list acc)) M
theorem rX(h:up K (dLC di g tt te k fr) σ H Q) :
  adT (tLC (upI K di) (upG K g) (upT K tt) (up K te) k fr) σ H Q:=by
 obtain⟨τ,M,Qd,A,h,kk⟩:=h;refine⟨τ,M,_,A,h,λ J H1 ws M1 kp m1 it hq48=>?_⟩;obtain⟨P,p0,pt,pe⟩:=hq48;refine⟨λ i n ys σ' H'=>n=ws.length-i/\i<=ws.length/\Kp H1 H'/\∃ acc τ M,aS K H' acc ys/\Abs K H' σ' τ M/\P i acc τ M,⟨ws.length,by simp,Nat.zero_le _,Kp.refl _,[],_,M1,by simp[aS],sD (A.go kp m1) k fr,p0⟩,?_⟩;rintro i n ys σ2 H2 ⟨rfl,hi,kp2,acc,τ2,M2,ra,A2,p2⟩;obtain⟨go,stop,yld⟩:=it H2 kp2 i
 by_cases hlt:i<ws.length
 ·have hlen:=ra.length;refine .inr ⟨go hlt,?_,λ x H3 y=>?_⟩
  ·obtain⟨w,hw⟩:∃ w,ws[i]? =some w:=⟨ws[i],by simp[hlt]⟩;have:=(pt i w acc τ2 M2 hw p2).1;omega
  obtain⟨kp3,mk,w,ew,rw⟩:=yld x H3 hlt y;refine⟨w,τ2,M2,_,rw,A2.go kp3 (mk _ A2.mem),(pt i w acc τ2 M2 ew p2).2,λ σ4 H4 τ4 M4 kp4 A4 q4=>⟨τ4,M4,_,A4,q4,λ b H5 M5 kp5 m5 q5=>?_⟩⟩;have kq:=(kp3.trans kp4).trans kp5;cases b with
  | false =>
   rw[if_neg Bool.false_ne_true] at q5;show(if false=true then _ else _);rw[if_neg Bool.false_ne_true];exact⟨ws.length-(i+1),by omega,rfl,hlt,kp2.trans kq,acc,τ4,M5,ra.keep kq,A4.go kp5 m5,q5⟩
  | true =>
   rw[if_pos rfl] at q5;show(if true=true then _ else _);rw[if_pos rfl];refine⟨τ4,M5,_,A4.go kp5 m5,q5,λ v H6 wv M6 kp6 r6 m6 hq49=>?_⟩;obtain⟨d,e6,q6⟩:=hq49;subst e6;refine⟨ws.length-(i+1),by omega,rfl,hlt,kp2.trans (kq.trans kp6),acc++[d],τ4,M6,aS.append (ra.keep (kq.trans kp6)) ?_,A4.go (kp5.trans kp6) m6,q6⟩;simp only[aS];exact⟨v,[],rfl,r6,rfl⟩
 ·have hl:i=ws.length:=by omega
  subst hl;exact .inl ⟨stop (Nat.le_refl _),λ p hp=>ke hp ra A2.mem (pe acc τ2 M2 p2) (kgo kk (kp.trans kp2))⟩
section
variable {sc:Scope}{own:List Str}{fr:List Nat}{elt iter:Expr}{ifs:List Expr}{pos:Pos}{di:TId}{g:TGd}{tt:TTd}{te:TD}
abbrev rL(X:Cx)(ifs:List Expr)(t:TTd):Prop:=PTs X ifs (upT X.K t)
def u5(_:DS)(M:MH)(Q:Bool->MH->Prop):Prop:=Q true M
theorem vh(h:PTd X c t):rL X [c] t:=xv h
theorem ac5(hc:X.calm=true)(L:mT X sc own fr)(hi:PId X tg iter di)
  (hg:∀ cl C s H ex pl,PGd (blk X sc (lcN X own fr) cl C s H ex pl) tg g)(ht:∀ cl C s H ex pl,rL (blk X sc (lcN X own fr) cl C s H ex pl) ifs tt)(he:∀ cl C s H ex pl,PD (blk X sc (lcN X own fr) cl C s H ex pl) elt te)
  (hs:∀ x,foldedSetIterable iter X.env x=pure x:=by intro _;rfl):PD X (.ListComp elt [⟨tg,iter,ifs,0⟩] sc pos) (dLC di g tt te own.length fr):=
 iq (mD (acA hc L hi hg ht he hs)) λ σ H Q h=>rX h
theorem aaR{st:Stmt}{t:TS}(h:PS X st t):PS X st (λ D σ H=>t {D with nx:=λ σ' H'=>∃ p u,H' p=some u/\Fz u/\∀ o,D.nx σ' (upd H' p (.frz o u))} σ H):=by
 intro pins s σ H D I hq;refine thn (h pins s σ H _ I hq) λ f s1 q=>?_;cases f with
 | next =>
  obtain⟨σ',H',I',p,u,e,fz,q⟩:=q;obtain⟨o,I2⟩:=I'.freeze e fz;exact⟨σ',_,I2,q o⟩
 | brk=>exact q
 | cont=>exact q
 | ret v=>exact q
theorem qI{i:Nat}{pos' spos:Pos}(hN:X.N.Nodup)(hi':X.N[i]? =some x)(hx:Loc X.env.scope x)(hc:X.calm=true)(L:mT X sc own fr)(hi:PId X tg iter di)
  (hg:∀ cl C s H ex pl,PGd (blk X sc (lcN X own fr) cl C s H ex pl) tg g)(ht:∀ cl C s H ex pl,rL (blk X sc (lcN X own fr) cl C s H ex pl) ifs tt)(he:∀ cl C s H ex pl,PD (blk X sc (lcN X own fr) cl C s H ex pl) elt te)
  (hsw:swapsWith (.ListComp elt [⟨tg,iter,ifs,0⟩] sc pos) (some (.Name x pos')) spos.line X.env=pure true:=by rfl)
  (hs:∀ x,foldedSetIterable iter X.env x=pure x:=by intro _;rfl)(hf:X.fn x=true\/X.env.scope.names.lookup x=some .local:=by first | exact .inl rfl | exact .inr rfl | assumption) :
  PSd X (.Assign [.Name x pos'] (.ListComp elt [⟨tg,iter,ifs,0⟩] sc pos) spos) (bP (dLC di g tt te own.length fr) (gN i)):=nY (aaR (vk hN hi' hx hc L hi hg ht he hsw hs hf)) λ D σ H hq50=>by
 obtain⟨τ,M,Dd,A,h,k1,_⟩:=hq50;have z:up X.K (dLC di g tt te own.length fr) σ H (λ v H'=>D.nx (σ.set i (some v)) H'):=⟨τ,M,_,A,h,λ v H1 w M1 kp r m q=>k1 _ H1 _ M1 kp ((A.go kp m).set i r) q⟩;obtain⟨τ',M',R',A',h',k'⟩:=rX z;refine⟨τ',M',R',A',h',λ J H1 ws M1 kp m1 it q=>?_⟩;obtain⟨W,w0,st⟩:=k' J H1 ws M1 kp m1 it q;refine⟨W,w0,λ i m ys τ H w=>?_⟩;rcases st i m ys τ H w with ⟨s1,s2⟩ | r
 ·refine .inl ⟨s1,λ p hp=>?_⟩;obtain⟨p',u,e1,e2,f,q⟩:=s2 p hp;cases e1;exact⟨p,u,e2,f,q⟩
 ·exact .inr r
end
end
section
variable {X:Cx}{K:FG}
def aby(ws:List W)(M:MH)(Q:QD):Prop:=∃ i:Int,ws=[.d (.int i)]/\Q (.d (.int (if i<0 then -i else i))) M
theorem aag:eQ K (λ xs H Q=>∃ i,xs=[.int i]/\Q (.int (if i<0 then -i else i)) H) aby:=by intro vs H ws M Qd Q r m ⟨i,e,q⟩ k;subst e;obtain⟨v,e1,r1⟩:=eG r;simp only[aC,ax] at r1;subst r1;exact⟨i,e1,k _ H (.d (.int _)) M (Kp.refl H) (by simp[aC,ax]) m q⟩
def wm(M:MH):W->Option Nat
 | .d (.list ds)=>some ds.length
 | .d (.tuple ds)=>some ds.length
 | .d (.str z)=>some z.length
 | .m a=>match M a with
  | some (.lst ws)=>some ws.length
  | _=>none
 | _=>none
def gC(ws:List W)(M:MH)(Q:QD):Prop:=∃ w n,ws=[w]/\wm M w=some n/\zM w=true/\Q (.d (.int (n:Nat))) M
theorem eg:eQ K (λ xs H Q=>∃ x n,xs=[x]/\adX K x H n/\Q (.int n) H) gC:=by
 intro vs H ws M Qd Q r m ⟨w,n,e,hn,hf,q⟩ k;subst e;obtain⟨v,e1,r1⟩:=eG r;refine⟨v,n,e1,?_,k _ H (.d (.int _)) M (Kp.refl H) (by simp[aC,ax]) m q⟩;cases w with
 | t _=>simp[wm] at hn
 | m a =>
  simp only[aC] at r1;subst r1;simp only[wm] at hn;cases hm:M a with
  | none=>rw[hm] at hn;cases hn
  | some mo =>
   rw[hm] at hn;cases mo with
   | lst l=>cases hn;obtain⟨us,e2,rw1⟩:=m a _ hm;exact .inl ⟨us,SqL.of e2,rw1.length⟩
   | dic _=>cases hn
   | dct _=>cases hn
   | fdic _=>cases hn
   | ins _ _=>cases hn
   | tup _=>cases hn
   | flst _=>cases hn
   | exc _ _=>cases hn
   | code _ _=>cases hn
 | d d =>
  cases d with
  | list ds=>simp only[wm] at hn;cases hn;simp only[aC,ax] at r1;obtain⟨a,us,e2,hs,ra⟩:=r1;subst e2;exact .inl ⟨us,hs.sq,ra.length.symm⟩
  | tuple ds=>simp only[wm] at hn;cases hn;simp only[aC,ax] at r1;obtain⟨a,us,e2,hs,ra⟩:=r1;subst e2;exact .inr ⟨us,hs,ra.length.symm⟩
  | str z=>simp only[wm] at hn;cases hn;simp only[aC,ax] at r1;subst r1;exact⟨of_decide_eq_true hf,rfl⟩
  | _=>simp[wm] at hn
def sP:List (TD×TD)->DS->MH->(List (W×W)->MH->Prop)->Prop
 | [],_,M,Q=>Q [] M
 | (tk,tv)::r,τ,M,Q=>tk τ M λ x M1=>tv τ M1 λ y M2=>sP r τ M2 λ ps M3=>Q ((x,y)::ps) M3
theorem lG:∀ {trs:List (TD×TD)} {σ:St} {H:Hp} {τ:DS} {M:MH} {Qd:List (W×W)->MH->Prop} {Q:List (V×V)->Hp->Prop},Abs K H σ τ M->sP trs τ M Qd ->
  (∀ ps H' ws M',Kp H H'->Paired (λ(p:W×W) (q:V×V)=>aC K H' p.1 q.1/\aC K H' p.2 q.2) ws ps->cO K H' M'->Qd ws M'->Q ps H')->o6 (trs.map λ p=>(up K p.1,up K p.2)) σ H Q
 | [],σ,H,τ,M,Qd,Q,A,h,k=>k [] H [] M (Kp.refl H) .nil A.mem h
 | (tk,tv)::r,σ,H,τ,M,Qd,Q,A,h,k=>by show(up K tk) σ H _;refine⟨τ,M,_,A,h,λ x H1 w M1 kp1 r1 m1 q1=>⟨τ,M1,_,A.go kp1 m1,q1,λ y H2 w' M2 kp2 r2 m2 q2=>?_⟩⟩;refine lG (A.go (kp1.trans kp2) m2) q2 λ ps H3 ws M3 kp3 r3 m3 q3=>?_;exact k _ H3 _ M3 ((kp1.trans kp2).trans kp3) (.cons ⟨r1.keep (kp2.trans kp3),r2.keep kp3⟩ r3) m3 q3
theorem jY:∀ {more kvs:List (Key×V)},((kvs++more).map (·.1)).Nodup->gk kvs more=kvs++more
 | [],kvs,_=>by simp[gk]
 | p::r,kvs,h=>by
  have hn:mJ kvs p.1=none:=by
   cases e:mJ kvs p.1 with
   | none=>rfl
   | some v =>
    have q:(kvs.any λ kv=>decide (kv.1=p.1))=true:=by rw[iD,e];rfl
    obtain⟨z,hz,ez⟩:=List.any_eq_true.mp q;rw[List.map_append,List.nodup_append] at h;exact absurd (of_decide_eq_true ez) (h.2.2 _ (List.mem_map_of_mem hz) _ (by simp))
  show gk (putK kvs p.1 p.2) r=_;rw[ux _ hn,jY (by simpa using h)];simp
theorem ni(r:ax K H (oq key) v):v=kV key:=by
 cases key<;>(simp only[oq,ax] at r;exact r)
end
structure Fn(K:FG)(mg:Str->Option Value)(x:Str)(st:Stmt)(ps:List Str)(f:Addr)(fd:FuncData):Prop where
 fn:Fun K x x st f fd
 mg:mg x=some (.ref f)
 bd:Binds K fd ps []
section
variable {K:FG}{mg:Str->Option Value}{h:Heap}
theorem yb{st:Stmt}{ps:List Str}{oc:Value}{od an:Option Addr}{osl:Array (Option Value)}{kV doc pm cdv ct:Value}(X:K.In h)(G:h.Ns mainGlobals mg)(a:W.nsIn K mainGlobals x=some (some (.ref f)))
  (l:K.lookup f=some ⟨oc,od,.func (W.fnOf x x (cv st) (bN st) (au st) .none kV doc pm an cdv ct),osl⟩)(c:W.codeIn K cdv x=true)(k:W.keepIn K (.ref f)=true)
  (b:∀ (kV doc pm:Value) (an:Option Addr) (cdv ct:Value) (us:List Value),us.length=ps.length->bindArgs (W.fnOf x x (cv st) (bN st) (au st) .none kV doc pm an cdv ct) ⟨us,[]⟩=pure (ps.zip us)) :
  Fn K mg x st ps f (W.fnOf x x (cv st) (bN st) (au st) .none kV doc pm an cdv ct):=
 have F:=aaU (st:=st) l c k
 ⟨F,W.mg_of X G a,F.binds b⟩
end
def abx(sc scX:Scope)(N:List Str)(fr:List Nat):Bool:=
 (sc.kind==.function)&&sc.names.all (λ y=>!(y.2==.cell))&&sc.names.all (λ y=>!(y.2==.free) || scX.names.lookup y.1==some .cell || scX.names.lookup y.1==some .free) &&
  sc.names.all (λ y=>!(y.2==.local) || sc.names.lookup y.1==some .local)&&zp N sc fr
theorem jI(h:abx sc X.env.scope X.N fr=true):mT X sc own fr:=by
 simp only[abx,Bool.and_eq_true] at h;obtain⟨⟨⟨⟨h1,h2⟩,h3⟩,h4⟩,h5⟩:=h;refine⟨eq_of_beq h1,λ y hy e=>?_,λ y hy e=>?_,λ y hy e=>?_,h5⟩
 ·have:=List.all_eq_true.mp h2 y hy;simp[e] at this
 ·have:=List.all_eq_true.mp h3 y hy;simp only[e,beq_self_eq_true,Bool.not_true,Bool.false_or,Bool.or_eq_true] at this;rcases this with z | z
  ·exact .inl (eq_of_beq z)
  ·exact .inr (eq_of_beq z)
 ·have:=List.all_eq_true.mp h4 y hy;simp only[e,beq_self_eq_true,Bool.not_true,Bool.false_or] at this;exact eq_of_beq this
theorem aaL:bootBuiltins "int" = some (.type "int"):=by decide +kernel
theorem kb:bootBuiltins "list" = some (.type "list"):=by decide +kernel
theorem rm:bootBuiltins "dict" = some (.type "dict"):=by decide +kernel
theorem dO:bootBuiltins "len" = some (.builtin "len"):=by decide +kernel
theorem aam:bootBuiltins "abs" = some (.builtin "abs"):=by decide +kernel
theorem ko:bootBuiltins "repr" = some (.builtin "repr"):=by decide +kernel
def jE:Expr->Bool
 | .Starred ..=>true
 | _=>false
theorem fY(e:Expr)(es:List Expr)(env:PySem.Env)(h:jE e=false):starEach (e::es) env=(false,eval e env)::starEach es env:=by
 cases e<;>first | rfl | (exact absurd h (by simp[jE]))
theorem gw(pos:Pos)(env:PySem.Env):∀ es:List Expr,(es.all λ e=>!jE e)=true->(backTo pos (starEach es env)).any (·.1)=false
 | [],_=>rfl
 | e::es,h=>by rw[List.all_cons,Bool.and_eq_true,Bool.not_eq_true'] at h;rw[fY e es env h.1];show(false || (backTo pos (starEach es env)).any (·.1))=false;rw[gw pos env es h.2];rfl
section
variable {X:Cx}{pos p:Pos}{e:Expr}{es:List Expr}{te:TD}{t:TAd}{x:Str}{id T:String}{r:List V->Hp->VK->Prop}{rd:List W->MH->QD->Prop}{k:Nat}{f:Addr}{fd:FuncData}{ps:List Str}{sp:SpD}
theorem pac(ha:PD X e te)(hr:PAd X es t)(h:jE e=false:=by rfl):PAd X (e::es) (ae te t):=vy ha hr (fY e es X.env h)
theorem pcB(hc:eC X (.builtin id) r)(hd:eQ X.K r rd)(hg:Gl X x)(hm:X.mg x=none)(hv:bootBuiltins x=some (.builtin id))(ha:PAd X (e::es) t)(hn:x ≠ "__name__":= by decide)(hdb:ND x:=by decide)
  (h1:jE e=false:=by rfl)(h2:(es.all λ e=>!jE e)=true:=by rfl):PD X (.Call (.Name x p) (e::es) [] pos) (dCB rd t):=uJ hc hd hg hm hv ha hn hdb (fY e es X.env h1) (gw pos X.env es h2)
theorem pcF(F:gu X.prog X.w X.K X.mg X.base CX0 k f fd ps (iu X.K sp))(hr:er k X.A)(hg:Gl X x)(hm:X.mg x=some (.ref f))(hk:W.keepIn X.K (.ref f)=true)(hb:Binds X.K fd ps [])
  (ha:PAd X (e::es) t)(hdb:ND x:=by decide)(h1:jE e=false:=by rfl)(h2:(es.all λ e=>!jE e)=true:=by rfl) :
  PD X (.Call (.Name x p) (e::es) [] pos) (bI sp t):=zo F hr hg hm hk hb ha hdb (fY e es X.env h1) (gw pos X.env es h2)
end
structure Jd(p:Prop):Prop where
 h:p
abbrev pm(K:FG)(p:TD×TD):TE×TE:=(up K p.1,up K p.2)
section
variable {X:Cx}{pos:Pos}{a b c e:Expr}{ta tb tc te:TD}{K:FG}
theorem dvQ(i:Nat)(hN:X.N[i]? =some x:=by rfl)(hv:Vis X.env.scope x:=by first | exact Or.inl rfl | exact Or.inr (Or.inl rfl) | exact Or.inr (Or.inr rfl))(hd:ND x:=by decide)(hcd:(x==("__classdict__" : Str))=false:=by decide):Jd (PD X (.Name x pos) (af i)):=⟨aaY (abZ hN hv hd hcd)⟩
theorem ak{i j pos}:Jd (PD X (.Constant (.int i) j pos) (dC (.d (.int i)))):=⟨aci aaN λ H=>by simp[aC,ax]⟩
theorem lA{b j pos}:Jd (PD X (.Constant (.bool b) j pos) (dC (.d (.bool b)))):=⟨aci adp λ H=>by simp[aC,ax]⟩
theorem fQ{j pos}:Jd (PD X (.Constant .none j pos) (dC (.d .none))):=⟨aci wY λ H=>by simp[aC,ax]⟩
theorem bJ{x j pos}:Jd (PD X (.Constant (.str x) j pos) (dC (.d (.str x)))):=⟨aci aaB λ H=>by simp[aC,ax]⟩
theorem aH(ho:OpR X (binaryOp op) r)(hd:OpD X.K r rd)(ha:Jd (PD X a ta))(hb:Jd (PD X b tb)):Jd (PD X (.BinOp a op b pos) (dOp rd ta tb)):=⟨D.acC (ho:=ho) (hd:=hd) (ha:=ha.h) (hb:=hb.h)⟩
theorem rV(ho:OpR X (compareOp op) r)(hd:OpD X.K r rd)(ha:Jd (PD X a ta))(hb:Jd (PD X b tb))(hm:behindInMarks op b=false:=by first | exact gy _ (by decide) (by decide) | rfl):Jd (PD X (.Compare a [op] [b] pos) (dOp rd ta tb)):=⟨D.aa1 (ho:=ho) (hd:=hd) (ha:=ha.h) (hb:=hb.h) (hm:=hm)⟩
theorem bh(hr:IxR X r)(hd:OpD X.K r rd)(ha:Jd (PD X a ta))(hb:Jd (PD X b tb))(hs:nM b:=by intro _ _;rfl):Jd (PD X (.Subscript a b pos) (dOp rd ta tb)):=⟨D.acs (hr:=hr) (hd:=hd) (ha:=ha.h) (hb:=hb.h) (hs:=hs)⟩
theorem az(ho:OpR X (compareOp op) r)(hd:OpD X.K r rd)(ha:Jd (PD X a ta))(hb:Jd (PD X b tb))(hm:behindInMarks op b=false:=by first | exact gy _ (by decide) (by decide) | rfl):Jd (PTd X (.Compare a [op] [b] pos) (aG (dOp rd ta tb))):=⟨D.yd (ho:=ho) (hd:=hd) (ha:=ha.h) (hb:=hb.h) (hm:=hm)⟩
theorem gB(h:Jd (PD X e te))(he:∀ whole,isTrue e X.env whole=(do let v <- whole;standAt e.pos;holding [v] (truthy v)):=by intro _;rfl):Jd (PTd X e (aG te)):=⟨D.zH (h:=h.h) (he:=he)⟩
theorem qP(ho:UnR X (unaryOp op) r)(hd:UnD X.K r rd)(ha:Jd (PD X a ta)):Jd (PD X (.UnaryOp op a pos) (dUn rd ta)):=⟨D.ado (ho:=ho) (hd:=hd) (ha:=ha.h)⟩
variable {tA tB:TTd}{rest:List Expr}
theorem cZ(ha:Jd (PTd X a tA)):Jd (PWd X (.BoolOp .And [a] pos) tA):=⟨D.vE (ha:=ha.h)⟩
theorem uN(ha:Jd (PTd X a tA)):Jd (PWd X (.BoolOp .Or [a] pos) tA):=⟨D.yp (ha:=ha.h)⟩
theorem cY(ha:Jd (PTd X a tA))(hb:Jd (PWd X (.BoolOp .And (b::rest) pos) tB)):Jd (PWd X (.BoolOp .And (a::b::rest) pos) (qx tA tB)):=⟨D.zy (ha:=ha.h) (hb:=hb.h)⟩
theorem sy(ha:Jd (PTd X a tA))(hb:Jd (PWd X (.BoolOp .Or (b::rest) pos) tB)):Jd (PWd X (.BoolOp .Or (a::b::rest) pos) (dOr tA tB)):=⟨D.ab2 (ha:=ha.h) (hb:=hb.h)⟩
theorem gL(h:Jd (PWd X e tA)):Jd (PTd X e tA):=⟨D.acT (h:=h.h)⟩
theorem gb(ha:Jd (PTd X a tA)):Jd (PTd X (.UnaryOp .Not a pos) (zm tA)):=⟨D.yF (ha:=ha.h)⟩
theorem xG{op}(h:Jd (PD X a ta)):Jd (PD X (.BoolOp op [a] pos) ta):=⟨D.aar (h:=h.h)⟩
theorem xI(ha:Jd (PD X a ta))(hb:Jd (PD X (.BoolOp .And (b::rest) pos) tb)):Jd (PD X (.BoolOp .And (a::b::rest) pos) (yI ta tb)):=⟨D.aak (ha:=ha.h) (hb:=hb.h)⟩
theorem tP(hc:Jd (PTd X c tA))(ha:Jd (PD X a ta))(hb:Jd (PD X b tb)):Jd (PD X (.IfExp c a b pos) (acS tA ta tb)):=⟨D.uS (hc:=hc.h) (ha:=ha.h) (hb:=hb.h)⟩
variable {es:List Expr}{t:TAd}
theorem aa  : Jd (PAd X [] aF):=⟨D.qL ⟩
theorem cS(h:Jd (PAd X es t)):Jd (PD X (.List es pos) (mZ t)):=⟨D.aca (h:=h.h)⟩
theorem fE(h:Jd (PAd X es t)):Jd (PD X (.List es pos) (mj t)):=⟨D.zk (h:=h.h)⟩
theorem cj{x1}(h:Jd (PAd X es t)):Jd (PD X (.Tuple es x1 pos) (iV t)):=⟨D.ab1 (h:=h.h)⟩
variable {x:Str}{p:Pos}{id T:String}{r:List V->Hp->VK->Prop}{rd:List W->MH->QD->Prop}
end
section
variable {X:Cx}{pos:Pos}{st:Stmt}{sts:List Stmt}{t u:TSd}{e:Expr}{te:TD}{K:FG}
theorem aK  : Jd (mK X [] cN):=⟨abt yU λ D σ H ⟨τ,M,Dd,A,h,k1,_⟩=>k1 σ H τ M (Kp.refl H) A h⟩
theorem ab(h1:Jd (PSd X st t))(h2:Jd (mK X sts u)):Jd (mK X (st::sts) (bo t u)):=⟨D.rh (h1:=h1.h) (h2:=h2.h)⟩
theorem ai(h1:Jd (PSd X st t)):Jd (mK X [st] t):=⟨D.vG (h1:=h1.h)⟩
theorem eX(he:Jd (PD X e te))(hs:swapsWith e none pos.line X.env=pure false:=by rfl):Jd (PSd X (.Expr e pos) (nk te)):=⟨D.uu (he:=he.h) (hs:=hs)⟩
theorem aO(he:Jd (PD X e te)):Jd (PSd X (.Return (some e) pos) (fJ te)):=⟨D.yH (he:=he.h)⟩
theorem bF(hc:Jd (PTd X c tc))(ha:Jd (mK X a t))(hb:Jd (mK X b u)):Jd (PSd X (.If c a b pos) (dIf tc t u)):=⟨D.aaS (hc:=hc.h) (ha:=ha.h) (hb:=hb.h)⟩
theorem ah(hN:X.N.Nodup)(hi:X.N[i]? =some x)(hx:Loc X.env.scope x)(hf:X.fn x=true\/X.env.scope.names.lookup x=some .local:=by first | exact .inl rfl | exact .inr rfl | assumption):Jd (PGd X (.Name x pos) (gN i)):=⟨
 ac6 (tL hN hi hx hf) λ v σ H Q ⟨w,τ,M,Qd,r,A,h,k⟩=>k _ H _ M (Kp.refl H) (A.set i r) h⟩
theorem iy(he:Jd (PD X e te))(hg:Jd (PGd X tg g))(hs:swapsWithSole [tg] e pos.line X.env=pure false:=by rfl)(hw:swappedStores [tg] e X.env=pure none:=by rfl)(h1:(assignEach [tg] X.env).map (·.2)=[assign tg X.env]:=by rfl):Jd (PSd X (.Assign [tg] e pos) (bP te g)):=⟨D.yt (he:=he.h) (hg:=hg.h) (hs:=hs) (hw:=hw) (h1:=h1)⟩
theorem av(hN:X.N.Nodup)(hi:X.N[i]? =some x)(hx:Loc X.env.scope x)(he:Jd (PD X e te))(hs:swapsWith e (some (.Name x pos')) pos.line X.env=pure false:=by rfl)(hf:X.fn x=true\/X.env.scope.names.lookup x=some .local:=by first | exact .inl rfl | exact .inr rfl | assumption):Jd (PSd X (.Assign [.Name x pos'] e pos) (bP te (gN i))):=⟨D.yW (hN:=hN) (hi:=hi) (hx:=hx) (he:=he.h) (hs:=hs) (hf:=hf)⟩
end
theorem dv  : Jd (POd X none e9):=⟨adC xJ λ σ H Q ⟨τ,M,Qd,A,q,k⟩=>k none H M (Kp.refl H) A.mem q⟩
theorem dq(h:Jd (PD X e te)):Jd (POd X (some e) (km te)):=⟨D.vC (h:=h.h)⟩
theorem dt{te:TD}{lo hi:Option Expr}{tl th:TOd}{pos p2:Pos}(he:Jd (PD X e te))(hl:Jd (POd X lo tl))(hu:Jd (POd X hi th)):Jd (PD X (.Subscript e (.Slice lo hi none p2) pos) (dSl te tl th)):=⟨D.vm (he:=he.h) (hl:=hl.h) (hu:=hu.h)⟩
theorem ka(ho:Jd (PD X o to))(hi:Jd (PD X i ti))(ha:∀ v,assign (.Subscript o i pos) X.env v=(do
   let ov <- holding [v] (eval o X.env)
   let iv <- holding [v,ov] (eval i X.env)
   standAt pos
   holding [v,ov,iv] (setItem ov iv v)
   release [v,ov,iv] []):=by intro _;rfl):Jd (PGd X (.Subscript o i pos) (uX to ti)):=⟨D.zg (ho:=ho.h) (hi:=hi.h) (ha:=ha)⟩
theorem tu(ho:Jd (PD X o to))(hi:Jd (PD X i ti))(he:Jd (PD X e te))(hp:PIp X op (ipI f))(ha:∀ ov iv new,augStore i ov iv new=(do holding [new,ov,iv] (setItem ov iv new);release [new,ov,iv] [];pure .next):=by intros;rfl):Jd (PSd X (.AugAssign (.Subscript o i tpos) op e pos) (vQ to ti te f)):=⟨D.vD (ho:=ho.h) (hi:=hi.h) (he:=he.h) (hp:=hp) (ha:=ha)⟩
theorem aA(h:Jd (PD X l te)):Jd (PId X tg l (bG te)):=⟨D.sL (h:=h.h)⟩
theorem bR(hg:Gl X "range")(hm:X.mg "range" = none)(ha:Jd (PAd X [a] ta))(hs:starEach [a] X.env=[(false,eval a X.env)]:=by rfl):Jd (PId X tg (.Call (.Name "range" p) [a] [] pos) (ip ta)):=⟨D.pY (hg:=hg) (hm:=hm) (ha:=ha.h) (hs:=hs)⟩
theorem aR(hp:PassesOwn (model X.prog X.w) X.A X.env X.xe)(hc:X.calm=true)(hi:Jd (PId X tg iter di))(hg:Jd (PGd X tg g))(hb:Jd (mK X body tb))(hs:∀ x,foldedSetIterable iter X.env x=pure x:=by intro _;rfl):Jd (PSd X (.For tg iter body [] pos) (ik di g tb)):=⟨D.zw (hp:=hp) (hc:=hc) (hi:=hi.h) (hg:=hg.h) (hb:=hb.h) (hs:=hs)⟩
theorem du  : Jd (rL X [] u5):=⟨λ pins s σ H Q I ⟨τ,M,Qd,A,q,k⟩=>xg pins s σ H Q I (k true H M (Kp.refl H) A.mem q)⟩
theorem bq(h:Jd (PTd X c t)):Jd (rL X [c] t):=⟨D.vh (h:=h.h)⟩
theorem ig(hc:X.calm=true)(L:mT X sc own fr)(hi:Jd (PId X tg iter di))(hg:∀ cl C s H ex pl,Jd (PGd (blk X sc (lcN X own fr) cl C s H ex pl) tg g))(ht:∀ cl C s H ex pl,Jd (rL (blk X sc (lcN X own fr) cl C s H ex pl) ifs tt))(he:∀ cl C s H ex pl,Jd (PD (blk X sc (lcN X own fr) cl C s H ex pl) elt te))(hs:∀ x,foldedSetIterable iter X.env x=pure x:=by intro _;rfl):Jd (PD X (.ListComp elt [⟨tg,iter,ifs,0⟩] sc pos) (dLC di g tt te own.length fr)):=⟨D.ac5 (hc:=hc) (L:=L) (hi:=hi.h) (hg:=λ cl C s H ex pl=>(hg cl C s H ex pl).h) (ht:=λ cl C s H ex pl=>(ht cl C s H ex pl).h) (he:=λ cl C s H ex pl=>(he cl C s H ex pl).h) (hs:=hs)⟩
theorem bC(hN:X.N.Nodup)(hi':X.N[i]? =some x)(hx:Loc X.env.scope x)(hc:X.calm=true)(L:mT X sc own fr)(hi:Jd (PId X tg iter di))(hg:∀ cl C s H ex pl,Jd (PGd (blk X sc (lcN X own fr) cl C s H ex pl) tg g))(ht:∀ cl C s H ex pl,Jd (rL (blk X sc (lcN X own fr) cl C s H ex pl) ifs tt))(he:∀ cl C s H ex pl,Jd (PD (blk X sc (lcN X own fr) cl C s H ex pl) elt te))(hsw:swapsWith (.ListComp elt [⟨tg,iter,ifs,0⟩] sc pos) (some (.Name x pos')) spos.line X.env=pure true:=by rfl)(hs:∀ x,foldedSetIterable iter X.env x=pure x:=by intro _;rfl)(hf:X.fn x=true\/X.env.scope.names.lookup x=some .local:=by first | exact .inl rfl | exact .inr rfl | assumption):Jd (PSd X (.Assign [.Name x pos'] (.ListComp elt [⟨tg,iter,ifs,0⟩] sc pos) spos) (bP (dLC di g tt te own.length fr) (gN i))):=⟨D.qI (hN:=hN) (hi':=hi') (hx:=hx) (hc:=hc) (L:=L) (hi:=hi.h) (hg:=λ cl C s H ex pl=>(hg cl C s H ex pl).h) (ht:=λ cl C s H ex pl=>(ht cl C s H ex pl).h) (he:=λ cl C s H ex pl=>(he cl C s H ex pl).h) (hsw:=hsw) (hs:=hs) (hf:=hf)⟩
section
variable {X:Cx}{pos p:Pos}{e:Expr}{es:List Expr}{te:TD}{t:TAd}{x:Str}{id T:String}{r:List V->Hp->VK->Prop}{rd:List W->MH->QD->Prop}{k:Nat}{f:Addr}{fd:FuncData}{ps:List Str}{sp:SpD}
theorem aB(ha:Jd (PD X e te))(hr:Jd (PAd X es t))(h:jE e=false:=by rfl):Jd (PAd X (e::es) (ae te t)):=⟨D.pac (ha:=ha.h) (hr:=hr.h) (h:=h)⟩
theorem gX(hc:eC X (.builtin id) r)(hd:eQ X.K r rd)(hg:Gl X x)(hm:X.mg x=none)(hv:bootBuiltins x=some (.builtin id))(ha:Jd (PAd X (e::es) t))(hn:x ≠ "__name__":= by decide)(hdb:ND x:=by decide)(h1:jE e=false:=by rfl)(h2:(es.all λ e=>!jE e)=true:=by rfl):Jd (PD X (.Call (.Name x p) (e::es) [] pos) (dCB rd t)):=⟨D.pcB (hc:=hc) (hd:=hd) (hg:=hg) (hm:=hm) (hv:=hv) (ha:=ha.h) (hn:=hn) (hdb:=hdb) (h1:=h1) (h2:=h2)⟩
theorem fH(F:gu X.prog X.w X.K X.mg X.base CX0 k f fd ps (iu X.K sp))(hr:er k X.A)(hg:Gl X x)(hm:X.mg x=some (.ref f))(hk:W.keepIn X.K (.ref f)=true)(hb:Binds X.K fd ps [])(ha:Jd (PAd X (e::es) t))(hdb:ND x:=by decide)(h1:jE e=false:=by rfl)(h2:(es.all λ e=>!jE e)=true:=by rfl):Jd (PD X (.Call (.Name x p) (e::es) [] pos) (bI sp t)):=⟨D.pcF (F:=F) (hr:=hr) (hg:=hg) (hm:=hm) (hk:=hk) (hb:=hb) (ha:=ha.h) (hdb:=hdb) (h1:=h1) (h2:=h2)⟩
end
theorem oo:Jd (PPs X pos [] [] (([]:List (TD×TD)).map (pm X.K))):=⟨L2.zq⟩
theorem me(hk:Jd (PD X k tk))(hv:Jd (PD X v tv))(hr:Jd (PPs X pos ks vs (trs.map (pm X.K)))):Jd (PPs X pos (some k::ks) (v::vs) (((tk,tv)::trs).map (pm X.K))):=⟨L2.vR hk.h hv.h hr.h⟩
section
variable {κ α:Type}[DecidableEq κ]
def hG(t:List (κ×α))(k:κ):Option α:=(t.find? λ p=>decide (p.1=k)).map (·.2)
def qA(t:List (κ×α))(k:κ)(v:α):List (κ×α):=if (t.any λ p=>decide (p.1=k))=true then t.map (λ p=>if p.1=k then (p.1,v) else p) else t++[(k,v)]
def OR(R:β->γ->Prop):Option β->Option γ->Prop
 | some a,some b=>R a b
 | none,none=>True
 | _,_=>False
theorem OR.some_of(h:OR R (some a) o):∃ b,o=some b/\R a b:=by
 cases o with
 | none=>exact h.elim
 | some b=>exact⟨b,rfl,h⟩
theorem OR.none_of(h:OR R none o):o=none:=by
 cases o with
 | none=>rfl
 | some b=>exact h.elim
theorem OR.isSome:∀ {a:Option β} {o:Option γ},OR R a o->a.isSome=o.isSome
 | some _,some _,_=>rfl
 | none,none,_=>rfl
 | some _,none,h=>h.elim
 | none,some _,h=>h.elim
theorem jH(k:κ):∀ {t:List (κ×α)} {l:List (κ×V)},Paired (λ p q=>p.1=q.1/\R p.2 q.2) t l->OR R (hG t k) (mJ l k)
 | _,_,.nil=>True.intro
 | _,_,.cons (a:=p) (b:=q) (l₁:=t1) h t=>by
  obtain⟨h1,h2⟩:=h
  by_cases e:p.1=k
  ·rw[iG (h1.symm.trans e),show hG (p::t1) k=some p.2 by simp[hG,List.find?_cons,e]];exact h2
  ·rw[iH (λ z=>e (h1.trans z)),show hG (p::t1) k=hG t1 k by simp[hG,List.find?_cons,e]];exact jH k t
theorem wF{R:α->V->Prop}(k:κ):∀ {t:List (κ×α)} {l:List (κ×V)},Paired (λ p q=>p.1=q.1/\R p.2 q.2) t l->(t.any λ p=>decide (p.1=k))=(l.any λ p=>decide (p.1=k))
 | _,_,.nil=>rfl
 | _,_,.cons (a:=p) (b:=q) h t=>by simp only[List.any_cons];rw[wF k t,h.1]
theorem wt{R:α->V->Prop}(k:κ){v:V}(r:R a v):∀ {t:List (κ×α)} {l:List (κ×V)},Paired (λ p q=>p.1=q.1/\R p.2 q.2) t l ->
  Paired (λ p q=>p.1=q.1/\R p.2 q.2) (t.map λ p=>if p.1=k then (p.1,a) else p) (l.map λ p=>if p.1=k then (p.1,v) else p)
 | _,_,.nil=>.nil
 | _,_,.cons (a:=p) (b:=q) h t=>by
  simp only[List.map_cons];refine .cons ?_ (wt k r t)
  by_cases e:p.1=k
  ·rw[if_pos e,if_pos (h.1.symm.trans e)];exact⟨h.1,r⟩
  ·rw[if_neg e,if_neg (λ z=>e (h.1.trans z))];exact h
theorem tF(r:P p q):∀ {t:List (κ×α)} {l:List (κ×V)},Paired P t l->Paired P (t++[p]) (l++[q])
 | _,_,.nil=>.cons r .nil
 | _,_,.cons h t=>.cons h (tF r t)
theorem wW{R:α->V->Prop}(k:κ){v:V}(r:R a v){t:List (κ×α)}{l:List (κ×V)}(h:Paired (λ p q=>p.1=q.1/\R p.2 q.2) t l) :
  Paired (λ p q=>p.1=q.1/\R p.2 q.2) (qA t k a) (putK l k v):=by
 unfold qA putK;rw[wF k h]
 split
 ·exact wt k r h
 ·exact tF ⟨rfl,r⟩ h
theorem oG:∀ {t:List (κ×α)} {l:List (κ×V)},Paired P t l->t.length=l.length
 | _,_,.nil=>rfl
 | _,_,.cons _ t=>by simp[oG t]
theorem f7{t:List (κ×α)}{k:κ}:hG (p::t) k=if p.1=k then some p.2 else hG t k:=by
 by_cases e:p.1=k<;>simp[hG,List.find?_cons,e]
theorem kQ(k:κ):∀ t:List (κ×α),(t.any λ p=>decide (p.1=k))=(hG t k).isSome
 | []=>rfl
 | p::t=>by
  rw[List.any_cons,kQ k t,f7]
  by_cases e:p.1=k<;>simp[e]
end
def kW(k:Key):W:=.d (oq k)
theorem jm{K:FG}{H:Hp}{k:Key}{v:V}(r:aC K H (kW k) v):v=kV k:=ni r
def tkW(ks:List Key):W:=.d (.tuple (ks.map oq))
theorem abj{K:FG}{H:Hp}:∀ {ks:List Key} {vs:List V},aS K H (ks.map oq) vs->vs=ks.map kV
 | [],vs,h=>by simpa [aS] using h
 | k::ks,vs,h=>by simp only[List.map_cons,aS] at h;obtain⟨v,r,e,h1,h2⟩:=h;rw[e,ni h1,abj h2];rfl
def Rd2(H:Hp)(a:Addr)(u:HO):Prop:=Rd H a u\/∃ o,H a=some (.frz o (.frz o u))
theorem oJ(ok:HOk P w H h)(e:Rd2 H a (.dK kvs)):kvs.length<=sizeLine/\(a==sysModules)=false/\∃ vs,KV kvs vs/\h.DictOf (aQ P w) a vs:=by
 rcases e with e | ⟨o,e⟩
 ·exact vH ok e
 ·exact(ok a _ e).2.2
def mL(K:FG)(H:Hp)(a:Addr)(y:V)(r:Option V):Prop:=
 (∃ kvs k,Rd2 H a (.dK kvs)/\y=kV k/\r=mJ kvs k)\/∃ kvs k b,Rd H a (.dT kvs)/\y=.ref b/\SqT K H b (k.map kV)/\r=mJ kvs k
theorem rF(I:Inv X pins σ H s)(h:SqT X.K H b (ks.map kV)):(tupleKind (aQ X.prog X.w)).is s.heap ks b:=by obtain⟨its,r,⟨o,h1,h2,n,h3⟩,_⟩:=I.tuple h;exact⟨o,its.toArray,n,h1,h2,h3,by simpa using jy r⟩
theorem acB(hu:A.units+1<cLine)(I:Inv X pins σ H s)(g:mL X.K H a y o)(ry:RelV y u)(h:∀ s',Inv X pins σ H s'->Q (.bool o.isSome) s') :
  wpAny (model X.prog X.w) A (compareOp .In u (.ref a)) Q E s:=by
 rcases g with ⟨kvs,k,e,ey,l⟩ | ⟨kvs,k,b,e,ey,eb,l⟩
 ·subst ey;obtain⟨z,hd,vs,rel,dd⟩:=oJ I.hok e;refine wpAny_in_of (kZ ry) hd dd.mapOf ?_;rw[<- (rel.val k).eU,<- l];exact h _ (I.tok _)
 ·subst ey;cases (show u=Value.ref b from ry);obtain⟨z,hd,xs,rel,dd⟩:=qY I.hok e;refine wpAny_in_heap (tupleKind_room_in1 hu) (rF I eb) hd dd ?_;have q:=(rel.val k).eU;rw[Option.isSome_map] at q;rw[<- q,<- l];exact h _ (I.tok _)
theorem uO(hu:A.units+1<cLine)(I:Inv X pins σ H s)(g:mL X.K H a y o)(ry:RelV y u)(h:∀ s',Inv X pins σ H s'->Q (.bool (!o.isSome)) s') :
  wpAny (model X.prog X.w) A (compareOp .NotIn u (.ref a)) Q E s:=by
 rcases g with ⟨kvs,k,e,ey,l⟩ | ⟨kvs,k,b,e,ey,eb,l⟩
 ·subst ey;obtain⟨z,hd,vs,rel,dd⟩:=oJ I.hok e;refine wpAny_notIn_of (kZ ry) hd dd.mapOf ?_;rw[<- (rel.val k).eU,<- l];exact h _ (I.tok _)
 ·subst ey;cases (show u=Value.ref b from ry);obtain⟨z,hd,xs,rel,dd⟩:=qY I.hok e;refine wpAny_notIn_heap (tupleKind_room_in1 hu) (rF I eb) hd dd ?_;have q:=(rel.val k).eU;rw[Option.isSome_map] at q;rw[<- q,<- l];exact h _ (I.tok _)
theorem zD(hu:A.units+1<cLine)(I:Inv X pins σ H s)(g:mL X.K H a y o)(ry:RelV y u)(rd:RelV d r)(h:∀ w' s',Inv X pins σ H s'->RelV (o.getD d) w'->Q w' s') :
  wpAny (model X.prog X.w) A (call (.builtin "dict.get") [.ref a,u,r]) Q E s:=by
 rcases g with ⟨kvs,k,e,ey,l⟩ | ⟨kvs,k,b,e,ey,eb,l⟩
 ·subst ey;obtain⟨z,hd,vs,rel,dd⟩:=oJ I.hok e;refine call_meetsIn PySem.F.slot_dict_get dd.typeIs PySem.F.entry_dict_get (PySem.F.args_dict_get_3 _ _ _) (meets_dict_get_default (aQ X.prog X.w) a (kZ ry) hd r) ⟨_,dd.mapOf,h _ _ (I.tok _) ?_⟩;rw[l];exact(rel.val k).getD rd
 ·subst ey;cases (show u=Value.ref b from ry);obtain⟨z,hd,xs,rel,dd⟩:=qY I.hok e;refine call_meetsIn PySem.F.slot_dict_get dd.typeIs PySem.F.entry_dict_get (PySem.F.args_dict_get_3 _ _ _) (meetsH_dict_get_default (tupleKind (aQ X.prog X.w)) a b hd r) ⟨tupleKind_room_in1 hu,k,xs,rF I eb,dd,h _ _ (I.tok _) ?_⟩;rw[l];exact(rel.val k).getD rd
theorem pG(hu:A.units+1<cLine)(I:Inv X pins σ H s)(e:Rd2 H a (.dK kvs))(l:mJ kvs k=some v)(ry:RelV (kV k) u)(h:∀ w' s',Inv X pins σ H s'->RelV v w'->Q w' s') :
  s.TypeIs (.ref a) "dict" /\ wpAny (model X.prog X.w) A (getItem (.ref a) u) Q E s:=by
 obtain⟨z,hd,vs,rel,dd⟩:=oJ I.hok e;obtain⟨w',hw,rw'⟩:=rq.some_of (v:=v) (o:=valueAt vs k) (by rw[<- l];exact rel.val k);exact⟨dd.typeIs,wpAny_getItem_of (kZ ry) dd.mapOf hw (h w' _ (I.tok _) rw')⟩
inductive kF(M:MH):W->W->Option W->Prop
 | k {a:Addr} {kvs:List (Key×W)} {k:Key} (h:M a=some (.dic kvs)):kF M (.m a) (kW k) (hG kvs k)
 | t {a:Addr} {kvs:List (List Key×W)} {ks:List Key} (h:M a=some (.dct kvs)):kF M (.m a) (tkW ks) (hG kvs ks)
 | f {a:Addr} {kvs:List (Key×W)} {k:Key} (h:M a=some (.fdic kvs)):kF M (.m a) (kW k) (hG kvs k)
 | d {kvs:List (Key×PyData)} {k:Key}:kF M (.d (.dict (kvs.map λ p=>(oq p.1,p.2)))) (kW k) ((hG kvs k).map W.d)
inductive DIs(M:MH):W->Prop
 | k {a:Addr} {kvs:List (Key×W)} (h:M a=some (.dic kvs)):DIs M (.m a)
 | t {a:Addr} {kvs:List (List Key×W)} (h:M a=some (.dct kvs)):DIs M (.m a)
 | d {kvs:List (PyData×PyData)}:DIs M (.d (.dict kvs))
theorem ve(h:oq a=oq b):a=b:=by
 cases a<;>cases b<;>simp[oq] at h<;>rw[h]
theorem je{K:FG}{H:Hp}:∀ {kvs:List (Key×PyData)} {l:List (Key×V)},gn K H (kvs.map λ p=>(oq p.1,p.2)) l->Paired (λ(p:Key×PyData) (q:Key×V)=>p.1=q.1/\ax K H p.2 q.2) kvs l
 | [],l,h=>by simp only[List.map_nil,gn] at h;subst h;exact .nil
 | p::kvs,l,h=>by simp only[List.map_cons,gn] at h;obtain⟨key,v,r,e,ek,h1,h2⟩:=h;subst e;exact .cons ⟨ve ek,h1⟩ (je h2)
theorem DIs.sound{K:FG}{H:Hp}{M:MH}{w:W}{x:V}(g:DIs M w)(r:aC K H w x)(m:cO K H M):∃ a,x=.ref a/\IsD H a:=by
 cases g with
 | k h =>
  obtain⟨l,e,_⟩:=m _ _ h;exact⟨_,r,.inl ⟨l,.inl e⟩⟩
 | t h =>
  obtain⟨l,e,_⟩:=m _ _ h;exact⟨_,r,.inr ⟨l,.inl e⟩⟩
 | d =>
  simp only[aC,ax] at r;obtain⟨a,o,l,e,h,_⟩:=r;exact⟨a,e,.inl ⟨l,.inr ⟨o,h⟩⟩⟩
theorem kF.sound{K:FG}{H:Hp}{M:MH}{w y:W}{o:Option W}{x v:V}(g:kF M w y o)(r:aC K H w x)(ry:aC K H y v)(m:cO K H M) :
  ∃ a p,x=.ref a/\mL K H a v p/\OR (aC K H) o p:=by
 cases g with
 | @k a kvs k h =>
  obtain⟨l,e,pr⟩:=m _ _ h;exact⟨_,_,r,.inl ⟨l,k,.inl (.inl e),jm ry,rfl⟩,jH k pr⟩
 | @f a kvs k h =>
  obtain⟨ob,l,e,pr⟩:=m _ _ h;exact⟨_,_,r,.inl ⟨l,k,.inr ⟨ob,e⟩,jm ry,rfl⟩,jH k pr⟩
 | @t a kvs ks h =>
  obtain⟨l,e,pr⟩:=m _ _ h;simp only[tkW,aC,ax] at ry;obtain⟨b,vs,eb,hs,ra⟩:=ry;rw[abj ra] at hs;exact⟨_,_,r,.inr ⟨l,ks,b,.inl e,eb,hs,rfl⟩,jH ks pr⟩
 | @d kvs k =>
  simp only[aC,ax] at r;obtain⟨a,ob,l,e,h,rk⟩:=r;refine⟨a,_,e,.inl ⟨l,k,.inl (.inr ⟨ob,h⟩),jm ry,rfl⟩,?_⟩;have g:=jH (R:=λ d q=>ax K H d q) k (je rk);cases q:hG kvs k with
  | none=>rw[q] at g;rw[OR.none_of g];exact True.intro
  | some z =>
   rw[q] at g;obtain⟨b,eb,rb⟩:=OR.some_of g;rw[eb];exact rb
def abo(K:FG)(ty td:TE):TE:=λ σ H Q=>ty σ H λ y H1=>td σ H1 λ x H2=>∃ a o,x=.ref a/\mL K H2 a y o/\Q (.bl o.isSome) H2
def nX(K:FG)(ty td:TE):TE:=λ σ H Q=>ty σ H λ y H1=>td σ H1 λ x H2=>∃ a o,x=.ref a/\mL K H2 a y o/\Q (.bl (!o.isSome)) H2
theorem xS(hu:X.A.units+1<cLine)(hi:PE X i ty)(ho:PE X o td):PC X .In i o (abo X.K ty td):=by intro pins s σ H Q I h;refine thn (hi pins s σ H _ I h) λ iv s1 ⟨y,H1,I1,ry,q1⟩=>thn (ho pins s1 σ H1 _ I1 q1) λ u s2 hq51=>?_;obtain⟨x,H2,I2,rx,a,ov,ex,g,q2⟩:=hq51;subst ex;obtain rfl:u=Value.ref a:=rx;exact acB hu I2 g ry λ s3 I3=>⟨.bl ov.isSome,H2,I3,rfl,q2⟩
theorem pM(hu:X.A.units+1<cLine)(hi:PE X i ty)(ho:PE X o td):PC X .NotIn i o (nX X.K ty td):=by intro pins s σ H Q I h;refine thn (hi pins s σ H _ I h) λ iv s1 ⟨y,H1,I1,ry,q1⟩=>thn (ho pins s1 σ H1 _ I1 q1) λ u s2 hq52=>?_;obtain⟨x,H2,I2,rx,a,ov,ex,g,q2⟩:=hq52;subst ex;obtain rfl:u=Value.ref a:=rx;exact uO hu I2 g ry λ s3 I3=>⟨.bl (!ov.isSome),H2,I3,rfl,q2⟩
def xY(K:FG)(td ty tx:TE):TE:=λ σ H Q=>td σ H λ x H1=>∃ a,x=.ref a/\IsD H1 a/\ty σ H1 λ y H2=>tx σ H2 λ z H3=>∃ o,mL K H3 a y o/\Q (o.getD z) H3
theorem ub(hu:X.A.units+1<cLine)(ho:PE X o td)(he:PE X e ty)(hf:PE X f tx)(m:M2 X o "get" apos e f cpos):PE X (.Call (.Attribute o "get" apos) [e,f] [] cpos) (xY X.K td ty tx):=by
 intro pins s σ H Q I h;refine wpAny_Call_method m.base m.few m.line PySem.F.plainAttrs_dict PySem.F.slot_dict_get PySem.F.type_dict_get (thn (ho pins s σ H _ I h) λ u s1 hq53=>?_);obtain⟨x,H1,I1,rx,a,ex,d,q1⟩:=hq53;subst ex;obtain rfl:u=Value.ref a:=rx;obtain⟨t1,t2,_⟩:=abc I1 d;refine⟨t1,t2,?_⟩;rw[m.trees];refine Calls.callWith_builtin rfl (Calls.evalArgs_plain (Calls.spliced_cons (thn (he pins s1 σ H1 _ I1 q1) λ iv s2 ⟨y,H2,I2,ry,q2⟩ =>
  Calls.spliced_cons (thn (hf pins s2 σ H2 _ I2 q2) λ fv s3 ⟨z,H3,I3,rz,ov,g,q3⟩=>Calls.spliced_nil ?_))))
 exact zD hu I3 g ry rz λ w' s4 I4 rw'=>⟨_,H3,I4,rw',q3⟩
def abH(td ty:TE):TE:=λ σ H Q=>td σ H λ x H1=>ty σ H1 λ y H2=>∃ a kvs k v,x=.ref a/\Rd2 H2 a (.dK kvs)/\y=kV k/\mJ kvs k=some v/\Q v H2
theorem vN(hu:X.A.units+1<cLine)(ho:PE X o td)(hi:PE X i ty)(hs:acb i):PE X (.Subscript o i pos) (abH td ty):=by intro pins s σ H Q I h;refine yN PySem.F.slot_dict_getitem.lookup hs (thn (ho pins s σ H _ I h) λ u s1 ⟨x,H1,I1,rx,q1⟩=>thn (hi pins s1 σ H1 _ I1 q1) λ iv s2 hq54=>?_);obtain⟨y,H2,I2,ry,a,kvs,k,v,ex,g,ey,l,q2⟩:=hq54;subst ex ey;obtain rfl:u=Value.ref a:=rx;exact pG hu I2 g l ry λ w' s3 I3 rw'=>⟨v,H2,I3,rw',q2⟩
section
variable {X:Cx}{o i e f value:Expr}{es:List Expr}{pos pos' apos cpos:Pos}{td ti tx tv:TD}{t:TAd}
def mO(_:DS)(M:MH)(Q:QD):Prop:=∀ p,M p=none->Q (.m p) (ba M p (.dic []))
def ack(ti td:TD)(τ:DS)(M:MH)(Q:QD):Prop:=ti τ M λ y M1=>td τ M1 λ w M2=>∃ o,kF M2 w y o/\Q (.d (.bool o.isSome)) M2
def iZ(ti td:TD)(τ:DS)(M:MH)(Q:QD):Prop:=ti τ M λ y M1=>td τ M1 λ w M2=>∃ o,kF M2 w y o/\Q (.d (.bool (!o.isSome))) M2
theorem yQ{σ:St}{H:Hp}{Q:VK}(h:up X.K (ack ti td) σ H Q):abo X.K (up X.K ti) (up X.K td) σ H Q:=by obtain⟨τ,M,Qd,A,h,k⟩:=h;refine⟨τ,M,_,A,h,λ y H1 wy M1 kp1 r1 m1 q1=>⟨τ,M1,_,A.go kp1 m1,q1,λ x H2 w M2 kp2 r2 m2 hq55=>?_⟩⟩;obtain⟨o,g,q2⟩:=hq55;obtain⟨a,p,e,g',ro⟩:=g.sound r2 (r1.keep kp2) m2;refine⟨a,p,e,g',?_⟩;rw[<- ro.isSome];exact k _ H2 (.d (.bool _)) M2 (kp1.trans kp2) (by simp[aC,ax]) m2 q2
theorem qr{σ:St}{H:Hp}{Q:VK}(h:up X.K (iZ ti td) σ H Q):nX X.K (up X.K ti) (up X.K td) σ H Q:=by obtain⟨τ,M,Qd,A,h,k⟩:=h;refine⟨τ,M,_,A,h,λ y H1 wy M1 kp1 r1 m1 q1=>⟨τ,M1,_,A.go kp1 m1,q1,λ x H2 w M2 kp2 r2 m2 hq56=>?_⟩⟩;obtain⟨o,g,q2⟩:=hq56;obtain⟨a,p,e,g',ro⟩:=g.sound r2 (r1.keep kp2) m2;refine⟨a,p,e,g',?_⟩;rw[<- ro.isSome];exact k _ H2 (.d (.bool _)) M2 (kp1.trans kp2) (by simp[aC,ax]) m2 q2
theorem zt(hu:X.A.units+1<cLine)(hi:PD X i ti)(ho:PD X o td)(hm:behindInMarks .In o=false:=by rfl):PTd X (.Compare i [.In] [o] pos) (aG (ack ti td)):=zO (we (xS hu hi ho) hm) λ σ H Q h=>iU (λ σ H Q h=>yQ h) h
theorem qm(hu:X.A.units+1<cLine)(hi:PD X i ti)(ho:PD X o td)(hm:behindInMarks .NotIn o=false:=by rfl):PTd X (.Compare i [.NotIn] [o] pos) (aG (iZ ti td)):=zO (we (pM hu hi ho) hm) λ σ H Q h=>iU (λ σ H Q h=>qr h) h
inductive aa9(M2:MH) (w y:W) (Q:QD):Prop
 | mk (a:Addr) (kvs:List (Key×W)) (k:Key) (v:W) (z0:w=.m a) (z1:M2 a=some (.dic kvs)\/M2 a=some (.fdic kvs)) (z2:y=kW k) (z3:hG kvs k=some v) (q:Q v M2):aa9 M2 w y Q
def gp(td ti:TD)(τ:DS)(M:MH)(Q:QD):Prop:=td τ M λ w M1=>ti τ M1 λ y M2=>aa9 M2 w y Q
theorem yw(hu:X.A.units+1<cLine)(ho:PD X o td)(hi:PD X i ti)(hs:acb i:=by exact λ _ _=>rfl):PD X (.Subscript o i pos) (gp td ti):=iq (vN hu ho hi hs) λ σ H Q h=>by
 obtain⟨τ,M,Qd,A,h,k⟩:=h;refine⟨τ,M,_,A,h,λ x H1 w M1 kp1 r1 m1 q1=>⟨τ,M1,_,A.go kp1 m1,q1,λ y H2 wy M2 kp2 r2 m2 hq57=>?_⟩⟩;obtain⟨a,kvs,key,v,ew,hm,ey,hv,q2⟩:=hq57;subst ew ey;obtain⟨l,e,pr⟩:∃ l,Rd2 H2 a (.dK l)/\Paired (λ(p:Key×W) (q:Key×V)=>p.1=q.1/\aC X.K H2 p.2 q.2) kvs l:=by
  rcases hm with hm | hm
  ·obtain⟨l,e,pr⟩:=m2 _ _ hm;exact⟨l,.inl (.inl e),pr⟩
  ·obtain⟨ob,l,e,pr⟩:=m2 _ _ hm;exact⟨l,.inr ⟨ob,e⟩,pr⟩
 have g:=jH key pr;rw[hv] at g;obtain⟨b,eb,rb⟩:=OR.some_of g;refine⟨a,l,key,b,r1,e,jm r2,eb,?_⟩;exact k _ H2 v M2 (kp1.trans kp2) rb m2 q2
def yk(td ti tx:TD)(τ:DS)(M:MH)(Q:QD):Prop:=td τ M λ w M1=>DIs M1 w/\ti τ M1 λ y M2=>tx τ M2 λ z M3=>∃ o,kF M3 w y o/\Q (o.getD z) M3
theorem OR.getD{K:FG}{H:Hp}{o:Option W}{p:Option V}{z:W}{v:V}(h:OR (aC K H) o p)(r:aC K H z v):aC K H (o.getD z) (p.getD v):=by
 cases o with
 | none=>rw[OR.none_of h];exact r
 | some a=>obtain⟨b,e,q⟩:=OR.some_of h;rw[e];exact q
theorem xR(hu:X.A.units+1<cLine)(ho:PD X o td)(he:PD X e ti)(hf:PD X f tx)(m:M2 X o "get" apos e f cpos:=by exact⟨rfl,rfl,rfl,rfl⟩):PD X (.Call (.Attribute o "get" apos) [e,f] [] cpos) (yk td ti tx):=iq (ub hu ho he hf m) λ σ H Q h=>by obtain⟨τ,M,Qd,A,h,k⟩:=h;refine⟨τ,M,_,A,h,λ x H1 w M1 kp1 r1 m1 hq58=>?_⟩;obtain⟨di,q1⟩:=hq58;obtain⟨a,ea,isd⟩:=di.sound r1 m1;refine⟨a,ea,isd,τ,M1,_,A.go kp1 m1,q1,λ y H2 wy M2 kp2 r2 m2 q2=>⟨τ,M2,_,A.go (kp1.trans kp2) m2,q2,λ z H3 wz M3 kp3 r3 m3 hq59=>?_⟩⟩;obtain⟨o,g,q3⟩:=hq59;obtain⟨a',p,e',g',ro⟩:=g.sound (r1.keep (kp2.trans kp3)) (r2.keep kp3) m3;rw[ea] at e';cases e';exact⟨p,g',k _ H3 _ M3 ((kp1.trans kp2).trans kp3) (ro.getD r3) m3 q3⟩
def qb(td ti tv:TD)(D:Ed)(τ:DS)(M:MH):Prop:=tv τ M λ v M1=>td τ M1 λ w M2=>ti τ M2 λ y M3=>∃ a kvs k,w=.m a/\M3 a=some (.dic kvs)/\y=kW k/\kvs.length<sizeLine/\D.nx τ (ba M3 a (.dic (qA kvs k v)))
theorem vB(hu:X.A.units+1<cLine)(ho:PD X o td)(hi:PD X i ti)(hv:PD X value tv)(hs:swapsWith value (some (.Subscript o i pos')) pos.line X.env=pure false:=by rfl) :
  PSd X (.Assign [.Subscript o i pos'] value pos) (qb td ti tv):=nY (yJ hu ho hi hv hs) λ D σ H h=>by
 obtain⟨τ,M,Dd,A,h,k1,_⟩:=h;refine⟨τ,M,_,A,h,λ v H1 wv M1 kp1 r1 m1 q1=>⟨τ,M1,_,A.go kp1 m1,q1,λ x H2 w M2 kp2 r2 m2 q2=>⟨τ,M2,_,A.go (kp1.trans kp2) m2,q2,λ y H3 wy M3 kp3 r3 m3 hq60=>?_⟩⟩⟩;obtain⟨a,kvs,key,ew,hm,ey,hl,q3⟩:=hq60;subst ew ey;obtain⟨l,e,pr⟩:=m3 _ _ hm;have kp4:Kp H3 (upd H3 a (.dK (putK l key v))):=Kp.set e (λ _ z=>nomatch z) (λ _ _ z=>nomatch z);refine⟨a,_,r2,.inl ⟨l,key,e,jm r3,by rw[<- oG pr];exact hl,rfl⟩,?_⟩;have rv:aC X.K H3 wv v:=(r1.keep kp2).keep kp3;refine k1 _ _ _ _ (((kp1.trans kp2).trans kp3).trans kp4) (A.go (((kp1.trans kp2).trans kp3).trans kp4) (m3.put (mo:=.dic (qA kvs key wv)) kp4 ⟨_,aq,?_⟩)) q3;exact Paired.fM (wW key rv pr) λ p q z=>⟨z.1,z.2.keep kp4⟩
end
section
variable {X:Cx}{C f:Addr}{o e value:Expr}{es:List Expr}{fn m x:Str}{pos pos' apos p:Pos}{td tv te:TD}{t:TAd}{k:Nat}{fd:FuncData}{ps:List Str}{sp:SpD}
end
def iY(M:MH)(a:Addr):MH:=λ b=>if b=a then none else M b
theorem rW(h:b≠a):iY M a b=M b:=if_neg h
theorem cO.del{K:FG}{H:Hp}{M:MH}{a:Addr}{o:HO}(m:cO K H M)(kp:Kp H (upd H a o)):cO K (upd H a o) (iY M a):=λ b mo hm=>by
 by_cases e:b=a
 ·subst e;simp[iY] at hm
 ·rw[rW e] at hm;exact(m b mo hm).keep kp λ u z=>by rw[aj e];exact z
def adV(R:W->MH->Prop)(ws:List W)(M:MH):Prop:=match ws with
 | [y]=>R y M
 | _=>False
theorem xb(h:adV R ws M):∃ y,ws=[y]/\R y M:=by
 match ws,h with
 | [y],h=>exact⟨y,rfl,h⟩
def fV(td:TD)(τ:DS)(M:MH)(Q:QD):Prop:=td τ M λ w M1=>∃ a ds,w=.m a/\M1 a=some (.lst (ds.map W.d))/\Q (.d (.list ds)) (iY M1 a)
theorem xE(h:PD X e td):PD X e (fV td):=iq (mD h) λ σ H Q h=>by obtain⟨τ,M,Qd,A,h,k⟩:=h;refine⟨τ,M,_,A,h,λ x H1 w M1 kp1 r1 m1 hq61=>?_⟩;obtain⟨a,ds,ew,hm,q⟩:=hq61;subst ew;obtain⟨vs,e,ra⟩:=m1 _ _ hm;refine⟨a,_,r1,e,trivial,λ ob=>?_⟩;have kp2:Kp H1 (upd H1 a (.frz ob (.lst vs))):=Kp.set e (λ _ z=>nomatch z) (λ _ _ z=>nomatch z);refine k _ _ (.d (.list ds)) (iY M1 a) (kp1.trans kp2) ?_ (m1.del kp2) q;simp only[aC,ax];exact⟨a,vs,r1,.inl ⟨ob,aq⟩,ra.data.keep kp2⟩
def fW(td te:TD)(τ:DS)(M:MH)(Q:QD):Prop:=td τ M λ w M1=>∃ a ws,w=.m a/\M1 a=some (.lst ws)/\te τ M1 λ y M2=>∃ ws',M2 a=some (.lst ws')/\ws'.length<sizeLine/\Q (.d .none) (ba M2 a (.lst (ws'++[y])))
theorem rM(ho:PD X o td)(he:PD X e te)
  (hbase:attributeBase o "append" X.env (eval o X.env)=eval o X.env:=by rfl)
  (hfew:((backTo cpos (starEach [e] X.env)).all (λ x=>!x.1)&&(backToKw cpos (keywordEach [] X.env)).all (λ x=>x.1.isSome)
   && decide (([e]:List Expr).length+([]:List Keyword).length+(if ([]:List Keyword).isEmpty then 0 else 1)<30))=true:=by rfl)
  (hline:(apos.endLine==cpos.line)=true:=by rfl)(hs:jE e=false:=by rfl):PD X (.Call (.Attribute o "append" apos) [e] [] cpos) (fW td te):=
 iq (adm PySem.F.plainAttrs_list PySem.F.slot_list_append PySem.F.type_list_append ug ho (pac he qL hs) hbase hfew hline (fY e [] X.env hs) rfl) λ σ H Q h=>by obtain⟨τ,M,Qd,A,h,k⟩:=h;refine⟨τ,M,_,A,h,λ x H1 w M1 kp1 r1 m1 hq62=>?_⟩;obtain⟨a,ws,ew,hm,q1⟩:=hq62;subst ew;obtain⟨vs,ea,ra⟩:=m1 _ _ hm;have r1':x=.ref a:=r1;subst r1';refine⟨.inl ⟨rfl,vs,.inl (.inl ea)⟩,τ,M1,adV (λ y M2=>∃ ws',M2 a=some (.lst ws')/\ws'.length<sizeLine/\Qd (.d .none) (ba M2 a (.lst (ws'++[y])))),A.go kp1 m1,q1,λ ys H2 wys M2 kp2 r2 m2 q2=>?_⟩;obtain⟨y,ey,ws',hm2,hl,q4⟩:=xb q2;subst ey;obtain⟨v,ev,rv⟩:=eG r2;subst ev;obtain⟨vs2,ea2,ra2⟩:=m2 _ _ hm2;have kp4:Kp H2 (upd H2 a (.lst (vs2++[v]))):=Kp.set ea2 (λ _ z=>nomatch z) (λ _ _ z=>nomatch z);refine⟨a,vs2,v,rfl,rfl,ea2,by rw[<- ra2.length];exact hl,?_⟩;exact k _ _ (.d .none) _ ((kp1.trans kp2).trans kp4) (by simp[aC,ax]) (m2.put (mo:=.lst (ws'++[y])) kp4 ⟨_,aq,(bz.append ra2 (.cons rv .nil)).keep kp4⟩) q4
def k7(K:FG)(H:Hp)(d:PyData)(x:V):Prop:=ax K H d x\/∃ a vs ds,d=.list ds/\x=.ref a/\H a=some (.lst vs)/\aS K H ds vs
inductive qO(M:MH):W->PyData->Prop
 | d {x:PyData}:qO M (.d x) x
 | l {a:Addr} {ds:List PyData} (h:M a=some (.lst (ds.map W.d))):qO M (.m a) (.list ds)
theorem qO.sound{K:FG}{H:Hp}{M:MH}{w:W}{d:PyData}{x:V}(g:qO M w d)(r:aC K H w x)(m:cO K H M):k7 K H d x:=by
 cases g with
 | d=>exact .inl r
 | l h =>
  obtain⟨vs,e,ra⟩:=m _ _ h;exact .inr ⟨_,vs,_,rfl,r,e,ra.data⟩
theorem adD(I:Inv X pins σ H s)(h:k7 X.K H d x):∃ H',Inv X pins σ H' s/\ax X.K H' d x:=by
 rcases h with h | ⟨a,vs,ds,rfl,rfl,e,ra⟩
 ·exact⟨H,I,h⟩
 ·obtain⟨o,I2⟩:=I.freeze e trivial;have kp:Kp H (upd H a (.frz o (.lst vs))):=Kp.set e (λ _ z=>nomatch z) (λ _ _ z=>nomatch z);refine⟨_,I2,?_⟩;simp only[ax];exact⟨a,vs,rfl,.inl ⟨o,aq⟩,ra.keep kp⟩
theorem d5(I:Inv X pins σ H s)(d:PyData)(h:k7 X.K H d x)(r:RelV x u)(hd:d.hasDict=false):∃ as,Reads s.heap u d as:=by obtain⟨H',I',h'⟩:=adD I h;exact cX I' d h' r hd
theorem nK(I:Inv X pins σ H s)(h:k7 X.K H d x)(r:RelV x u)(ok:eS d=true):∃ as,Reads s.heap u d as/\(d.hasDict=true->sysModules ∉ as):=by obtain⟨H',I',h'⟩:=adD I h;exact pX I' h' r ok
theorem fo(hr:gR k X.A):eC X (.builtin "repr") (λ xs H Q=>∃ x d,xs=[x]/\k7 X.K H d x/\eS d=true/\Q (.str d.shown) H):=by
 intro pins s σ H xs us Q I r h;obtain⟨x,d,rfl,rd,ok,q⟩:=h;obtain⟨u,rfl,rx⟩:=vals1 r;obtain⟨as,rr,hsm⟩:=nK I rd rx ok;have ok':=ok;simp only[eS,Bool.and_eq_true,decide_eq_true_eq] at ok';obtain⟨⟨⟨hs,hz⟩,hd⟩,_⟩:=ok';have hu:=hr.units;cases rr with
 | none=>exact PySem.P.repr_of_none ⟨.str _,H,I.tok _,⟨_,rfl⟩,by simpa [PyData.shown] using q⟩
 | bool b=>exact PySem.P.repr_of_bool ⟨.str _,H,I.tok _,⟨_,rfl⟩,by simpa [PyData.shown] using q⟩
 | int i t =>
  refine PySem.P.repr_of_int (by simpa [PyData.showable] using hs) ⟨.str _,H,I.tok _,⟨_,rfl⟩,?_⟩;rw[PyData.shown] at q;exact q
 | str i t =>
  refine PySem.P.repr_of_str ⟨.str _,H,I.tok _,⟨_,rfl⟩,?_⟩ (by simpa [PyData.shown] using hz);rw[PyData.shown] at q;exact q
 | list e1 e2 e3 e4=>exact repr_of_reads' (.list e1 e2 e3 e4) hs hsm hr.gd (by omega) (λ _ _ z=>z) (λ h' u tk hk=>⟨.str _,H,I.kept hk,⟨_,rfl⟩,q⟩) hz
 | tuple e1 e2 e3 e4=>exact repr_of_reads' (.tuple e1 e2 e3 e4) hs hsm hr.gd (by omega) (λ _ _ z=>z) (λ h' u tk hk=>⟨.str _,H,I.kept hk,⟨_,rfl⟩,q⟩) hz
 | dict e1 e2 e3 e4 e5=>exact repr_of_reads' (.dict e1 e2 e3 e4 e5) hs hsm hr.gd (by omega) (λ _ _ z=>z) (λ h' u tk hk=>⟨.str _,H,I.kept hk,⟨_,rfl⟩,q⟩) hz
theorem d4(hr:gR k X.A):OpR X (compareOp .Eq) (λ x y H Q=>∃ d d',k7 X.K H d x/\k7 X.K H d' y/\eO d d'=true/\Q (.bl (PyData.eqv d d')) H):=by
 intro pins s σ H x y v u Q I rx ry h;obtain⟨d,d',h1,h2,o,q⟩:=h;rcases eE o with ⟨a,b,e1,e2⟩ | ⟨o1,o2⟩
 ·subst e1;subst e2;rcases h1 with h1 | ⟨_,_,_,z,_⟩
  ·rcases h2 with h2 | ⟨_,_,_,z,_⟩
   ·exact wL hr pins s σ H x y v u Q I rx ry ⟨_,_,h1,h2,o,q⟩
   ·cases z
  ·cases z
 simp only[lM,Bool.and_eq_true,Bool.not_eq_true'] at o1 o2;obtain⟨as,r1⟩:=d5 I d h1 rx o1.2;obtain⟨bs,r2⟩:=d5 I d' h2 ry o2.2;exact eq_dataH r1 r2 o1.1 o2.1 hr.units ⟨.bl _,H,I,rfl,q⟩
theorem fN(hr:gR k X.A):OpR X (compareOp .NotEq) (λ x y H Q=>∃ d d',k7 X.K H d x/\k7 X.K H d' y/\eO d d'=true/\Q (.bl (!PyData.eqv d d')) H):=by
 intro pins s σ H x y v u Q I rx ry h;obtain⟨d,d',h1,h2,o,q⟩:=h;rcases eE o with ⟨a,b,e1,e2⟩ | ⟨o1,o2⟩
 ·subst e1;subst e2;rcases h1 with h1 | ⟨_,_,_,z,_⟩
  ·rcases h2 with h2 | ⟨_,_,_,z,_⟩
   ·exact abQ hr pins s σ H x y v u Q I rx ry ⟨_,_,h1,h2,o,q⟩
   ·cases z
  ·cases z
 simp only[lM,Bool.and_eq_true,Bool.not_eq_true'] at o1 o2;obtain⟨as,r1⟩:=d5 I d h1 rx o1.2;obtain⟨bs,r2⟩:=d5 I d' h2 ry o2.2;exact ne_dataH r1 r2 o1.1 o2.1 hr.units ⟨.bl _,H,I,rfl,q⟩
section
variable {X:Cx}{K:FG}
def fU(w w':W)(M:MH)(Q:QD):Prop:=∃ d d',qO M w d/\qO M w' d'/\eO d d'=true/\Q (.d (.bool (PyData.eqv d d'))) M
def dy(w w':W)(M:MH)(Q:QD):Prop:=∃ d d',qO M w d/\qO M w' d'/\eO d d'=true/\Q (.d (.bool (!PyData.eqv d d'))) M
theorem cU:OpD K (λ x y H Q=>∃ d d',k7 K H d x/\k7 K H d' y/\eO d d'=true/\Q (.bl (PyData.eqv d d')) H) fU:=by intro x y H w w' M Qd Q r1 r2 m ⟨d,d',g1,g2,o1,q⟩ k;exact⟨d,d',g1.sound r1 m,g2.sound r2 m,o1,k _ H (.d (.bool _)) M (Kp.refl H) (by simp[aC,ax]) m q⟩
theorem dY:OpD K (λ x y H Q=>∃ d d',k7 K H d x/\k7 K H d' y/\eO d d'=true/\Q (.bl (!PyData.eqv d d')) H) dy:=by intro x y H w w' M Qd Q r1 r2 m ⟨d,d',g1,g2,o1,q⟩ k;exact⟨d,d',g1.sound r1 m,g2.sound r2 m,o1,k _ H (.d (.bool _)) M (Kp.refl H) (by simp[aC,ax]) m q⟩
def cA(ws:List W)(M:MH)(Q:QD):Prop:=∃ w d,ws=[w]/\qO M w d/\eS d=true/\Q (.d (.str d.shown)) M
theorem iT:eQ K (λ xs H Q=>∃ x d,xs=[x]/\k7 K H d x/\eS d=true/\Q (.str d.shown) H) cA:=by intro vs H ws M Qd Q r m ⟨w,d,e,g,ok,q⟩ k;subst e;obtain⟨v,e1,r1⟩:=eG r;exact⟨v,d,e1,g.sound r1 m,ok,k _ H (.d (.str _)) M (Kp.refl H) (by simp[aC,ax]) m q⟩
inductive uz(M:MH):W->List W->Prop
 | l {ds:List PyData}:uz M (.d (.list ds)) (ds.map W.d)
 | t {ds:List PyData}:uz M (.d (.tuple ds)) (ds.map W.d)
 | m {a:Addr} {ws:List W} (h:M a=some (.lst ws)):uz M (.m a) ws
theorem uz.sound(g:uz M w ws)(r:aC K H w x)(m:cO K H M):∃ p ys,x=.ref p/\(SqL K H p ys\/SqT K H p ys)/\bz K H ws ys:=by
 cases g with
 | l =>
  simp only[aC,ax] at r;obtain⟨a,vs,e,hs,ra⟩:=r;exact⟨a,vs,e,.inl hs.sq,ra.ws⟩
 | t =>
  simp only[aC,ax] at r;obtain⟨a,vs,e,hs,ra⟩:=r;exact⟨a,vs,e,.inr hs,ra.ws⟩
 | m h =>
  obtain⟨vs,e,ra⟩:=m _ _ h;exact⟨_,vs,r,.inl (.inl (.inl e)),ra⟩
def cJ(ws:List W)(M:MH)(Q:QD):Prop:=∃ w xs,ws=[w]/\uz M w xs/\∀ p,M p=none->Q (.m p) (ba M p (.lst xs))
theorem gE:eQ K (λ xs H Q=>∃ p ys,xs=[.ref p]/\(SqL K H p ys\/SqT K H p ys)/\∀ l,H l=none->Q (.ref l) (upd H l (.lst ys))) cJ:=by intro vs H ws M Qd Q r m ⟨w,xs,e,g,q⟩ k;subst e;obtain⟨v,e1,r1⟩:=eG r;obtain⟨p,ys,ev,hs,rs⟩:=g.sound r1 m;subst ev;refine⟨p,ys,e1,hs,λ l hl=>?_⟩;have kp:Kp H (upd H l (.lst ys)):=Kp.new hl;exact k _ _ (.m l) _ kp rfl (m.put (mo:=.lst xs) kp ⟨ys,aq,rs.keep kp⟩) (q l (m.free hl))
def gU(zs:List Str):List W:=zs.map λ z=>.d (.str z)
theorem o7:∀ {zs:List Str} {vs:List V},bz K H (gU zs) vs->vs=zs.map V.str
 | [],_,h=>by cases h;rfl
 | z::zs,_,h=>by
  cases h with
  | cons r t =>
   simp only[aC,ax] at r;rw[r,o7 t];rfl
theorem rN(z:Str):∀ zs:List Str,inV (.str z) (zs.map V.str)=decide (z∈zs)
 | []=>rfl
 | y::zs=>by
  have h:inV (.str z) ((y::zs).map V.str)=((y==z) || inV (.str z) (zs.map V.str)):=rfl;rw[h,rN z zs]
  by_cases e:z=y
  ·subst e;simp
  ·have e':(y==z)=false:=by
    cases q:(y==z) with
    | false=>rfl
    | true=>exact absurd (eq_of_beq q).symm e
   rw[e'];simp[e]
theorem tq:∀ zs:List Str,(zs.map V.str).all jF=true
 | []=>rfl
 | _::zs=>by simp[jF]
def tW(neg:Bool)(w w':W)(M:MH)(Q:QD):Prop:=∃ z zs,w=.d (.str z)/\uz M w' (gU zs)/\Q (.d (.bool (if neg then !decide (z∈zs) else decide (z∈zs)))) M
theorem iz(neg:Bool):OpD K (rIn K neg) (tW neg):=by intro x y H w w' M Qd Q r1 r2 m ⟨z,zs,ew,g,q⟩ k;subst ew;simp only[aC,ax] at r1;subst r1;obtain⟨p,ys,ey,hs,rs⟩:=g.sound r2 m;have e:=o7 rs;subst e;refine⟨p,_,ey,hs,rfl,tq zs,?_⟩;rw[rN];exact k _ H (.d (.bool _)) M (Kp.refl H) (by simp[aC,ax]) m q
inductive tT(M:MH):W->Bool->Prop
 | n:tT M (.d .none) false
 | b {k:Bool}:tT M (.d (.bool k)) k
 | i {k:Int}:tT M (.d (.int k)) (k != 0)
 | s {z:Str} (h:z.length<=sizeLine):tT M (.d (.str z)) ((z.length:Int) != 0)
 | l {ds:List PyData}:tT M (.d (.list ds)) (!ds.isEmpty)
 | t {ds:List PyData}:tT M (.d (.tuple ds)) (!ds.isEmpty)
 | m {a:Addr} {ws:List W} (h:M a=some (.lst ws)):tT M (.m a) (!ws.isEmpty)
 | dk {a:Addr} {kvs:List (Key×W)} (h:M a=some (.dic kvs)):tT M (.m a) (!kvs.isEmpty)
theorem gx{α β:Type}{xs:List α}{ys:List β}(h:xs.length=ys.length):xs.isEmpty=ys.isEmpty:=by
 cases xs<;>cases ys<;>simp at h ⊢
theorem tT.sound{b:Bool}(g:tT M w b)(r:aC K H w x)(m:cO K H M):acw K x H b:=by
 cases g with
 | n=>simp only[aC,ax] at r;subst r;rfl
 | b=>simp only[aC,ax] at r;subst r;rfl
 | i=>simp only[aC,ax] at r;subst r;rfl
 | s h=>simp only[aC,ax] at r;subst r;exact⟨h,rfl⟩
 | l =>
  simp only[aC,ax] at r;obtain⟨a,vs,e,hs,ra⟩:=r;subst e;exact .inl ⟨vs,hs.sq,by rw[gx ra.length]⟩
 | t =>
  simp only[aC,ax] at r;obtain⟨a,vs,e,hs,ra⟩:=r;subst e;exact .inr (.inl ⟨vs,hs,by rw[gx ra.length]⟩)
 | m h =>
  obtain⟨vs,e,ra⟩:=m _ _ h;have r':x=.ref _:=r;subst r';exact .inl ⟨vs,.inl (.inl e),by rw[gx ra.length]⟩
 | dk h =>
  obtain⟨l,e,pr⟩:=m _ _ h;have r':x=.ref _:=r;subst r';exact .inr (.inr ⟨l,e,by rw[gx (oG pr)]⟩)
def acj(ta:TD)(τ:DS)(M:MH)(Q:Bool->MH->Prop):Prop:=ta τ M λ w M1=>∃ b,tT M1 w b/\Q b M1
theorem t7(ha:PD X a ta)(he:∀ whole:Sem Value,PySem.isTrue a X.env whole=(do let v <- whole;standAt a.pos;holding [v] (truthy v)):=by intro _;rfl):PTd X a (acj ta):=
 zO (uI ha he) λ σ H Q h=>by obtain⟨τ,M,Qd,A,h,k⟩:=h;exact⟨τ,M,_,A,h,λ v H' w M' kp r m ⟨b,g,q⟩=>⟨b,g.sound r m,k b H' M' kp m q⟩⟩
def abA(ws:List W)(M:MH)(Q:QD):Prop:=(∃ i,ws=[.d (.int i)]/\Q (.d (.int i)) M)\/∃ b,ws=[.d (.bool b)]/\Q (.d (.int (if b then 1 else 0))) M
theorem abw:eQ K (λ xs H Q=>(∃ i,xs=[.int i]/\Q (.int i) H)\/∃ k,xs=[.bl k]/\Q (.int (if k then 1 else 0)) H) abA:=by
 intro vs H ws M Qd Q r m h k;rcases h with ⟨i,e,q⟩ | ⟨b,e,q⟩
 ·subst e;obtain⟨v,e1,r1⟩:=eG r;simp only[aC,ax] at r1;subst r1;exact .inl ⟨i,e1,k _ H (.d (.int i)) M (Kp.refl H) (by simp[aC,ax]) m q⟩
 ·subst e;obtain⟨v,e1,r1⟩:=eG r;simp only[aC,ax] at r1;subst r1;exact .inr ⟨b,e1,k _ H (.d (.int _)) M (Kp.refl H) (by simp[aC,ax]) m q⟩
end
section
variable {X:Cx}{K:FG}
def ac8(K:FG):R2:=λ x y H Q=>∃ l b xs zs,x=.ref l/\y=.ref b/\SqL K H l xs/\SqL K H b zs/\xs.length+zs.length<=sizeLine/\∀ p,H p=none->Q (.ref p) (upd H p (.lst (xs++zs)))
theorem yD:OpR X (binaryOp .Add) (ac8 X.K):=by
 intro pins s σ H x y v u Q I rx ry h;obtain⟨l,b,xs,zs,rfl,rfl,h1,h2,hz,q⟩:=h;cases rx;cases ry;obtain⟨its,r1,p1,_⟩:=I.list h1;obtain⟨its2,r2,p2,_⟩:=I.list h2;have t1:=p1.isList.typeIs (s:=s);have t2:=p2.isList.typeIs (s:=s);obtain⟨⟨oc,od,odt,osl⟩,n,e1,c1,d1,g1⟩:=p1;obtain⟨⟨oc2,od2,odt2,osl2⟩,n2,e2,c2,d2,g2⟩:=p2;dsimp only at c1 d1 g1 c2 d2 g2;subst c1 d1 g1 c2 d2 g2;have hl1:=r1.length;have hl2:=r2.length;refine wpAny_binaryOp_concat (T:= "list") t1 t2 noFill_list_add seq_list_add ?_;refine call_meets PySem.F.slot_list_add t1 PySem.F.entry_list_add (PySem.F.args_list_add_2 _ _) (list_addW l b its.toArray its2.toArray n n2 none none osl osl2 (by simp only[List.size_toArray];omega)) ⟨e1,e2,?_⟩;have ea:its.toArray++its2.toArray=(its++its2).toArray:=by simp
 rw[ea];exact⟨.ref _,_,I.aeb (t':=s.toks) (r1.append r2) (by rw[List.length_append];omega),rfl,q _ I.fresh⟩
inductive wI(M:MH):W->List PyData->Prop
 | d {ds:List PyData}:wI M (.d (.list ds)) ds
 | m {a:Addr} {ds:List PyData} (h:M a=some (.lst (ds.map W.d))):wI M (.m a) ds
theorem wI.sound(g:wI M w ds)(r:aC K H w x)(m:cO K H M):∃ p ys,x=.ref p/\SqL K H p ys/\aS K H ds ys:=by
 cases g with
 | d =>
  simp only[aC,ax] at r;obtain⟨a,vs,e,hs,ra⟩:=r;exact⟨a,vs,e,hs.sq,ra⟩
 | m h =>
  obtain⟨vs,e,ra⟩:=m _ _ h;exact⟨_,vs,r,.inl (.inl e),ra.data⟩
def yE(ta tb:TD)(τ:DS)(M:MH)(Q:QD):Prop:=ta τ M λ w M1=>tb τ M1 λ w' M2=>∃ xs ys,wI M2 w xs/\wI M2 w' ys/\xs.length+ys.length<=sizeLine/\Q (.d (.list (xs++ys))) M2
theorem abp(ha:PD X a ta)(hb:PD X b tb):PD X (.BinOp a .Add b pos) (yE ta tb):=iq (mD (aat yD ha hb)) λ σ H Q h=>by obtain⟨τ,M,Qd,A,h,k⟩:=h;refine⟨τ,M,_,A,h,λ x H1 w M1 kp1 r1 m1 q1=>⟨τ,M1,_,A.go kp1 m1,q1,λ y H2 w' M2 kp2 r2 m2 hq63=>?_⟩⟩;obtain⟨xs,ys,g1,g2,hz,q⟩:=hq63;obtain⟨p,vs,e1,s1,ra1⟩:=g1.sound (r1.keep kp2) m2;obtain⟨p',vs',e2,s2,ra2⟩:=g2.sound r2 m2;refine⟨p,p',vs,vs',e1,e2,s1,s2,by rw[ra1.length,ra2.length];exact hz,λ c hc=>?_⟩;exact ke hc (ra1.append ra2) m2 q (kgo (kgo k kp1) kp2)
end
abbrev ace:=List W->DS->MH->(DS->MH->Prop)->Prop
def aee(K:FG)(g:ace):TGs:=λ vs σ H Q=>∃ ws τ M Qd,bz K H ws vs/\Abs K H σ τ M/\g ws τ M Qd/\∀ σ' H' τ' M',Kp H H'->Abs K H' σ' τ' M'->Qd τ' M'->Q σ' H'
abbrev xU(X:Cx)(es:List Expr)(g:ace):Prop:=PGs X es (aee X.K g)
theorem aaX(h:PGs X es g)(k:∀ v σ H Q,g' v σ H Q->g v σ H Q):PGs X es g':=λ pins s σ H v u Q I r q=>h pins s σ H v u Q I r (k v σ H Q q)
def gz(ws:List W)(τ:DS)(M:MH)(Q:DS->MH->Prop):Prop:=ws=[]/\Q τ M
def aT(g:TGd)(gs:ace)(ws:List W)(τ:DS)(M:MH)(Q:DS->MH->Prop):Prop:=∃ w r,ws=w::r/\g w τ M λ τ' M'=>gs r τ' M' Q
theorem sR(h1:PGd X e g)(h2:xU X es gs)(hs:(assignEach (e::es) X.env).map (·.2)=assign e X.env::(assignEach es X.env).map (·.2):=by rfl):xU X (e::es) (aT g gs):=
 aaX (vo h1 h2 hs) λ vs σ H Q hq65=>by
  obtain⟨ws,τ,M,Qd,r,A,⟨w,wr,ew,q⟩,k⟩:=hq65;subst ew;cases r with
  | cons r1 r2 =>
   refine⟨_,_,rfl,w,τ,M,_,r1,A,q,λ σ1 H1 τ1 M1 kp1 A1 q1=>?_⟩;exact⟨wr,τ1,M1,Qd,bz.keep kp1 r2,A1,q1,λ σ2 H2 τ2 M2 kp2 A2 q2=>k σ2 H2 τ2 M2 (kp1.trans kp2) A2 q2⟩
def gT(n:Nat)(gs:ace)(w:W)(τ:DS)(M:MH)(Q:DS->MH->Prop):Prop:=∃ ds,w=.d (.tuple ds)/\ds.length=n/\gs (ds.map W.d) τ M Q
theorem yY(hc:X.calm=true)(h:xU X es gs)(hn:(assignEach es X.env).length=n:=by rfl)(hst:(assignEach es X.env).findIdx? (·.1)=none:=by rfl):PGd X (.Tuple es k pos) (gT n gs):=
 ac6 (aay hc h hn hst) λ v σ H Q hq66=>by obtain⟨w,τ,M,Qd,r,A,⟨ds,ew,hl,q⟩,kk⟩:=hq66;subst ew;simp only[aC,ax] at r;obtain⟨a,vs,ev,hs,ra⟩:=r;exact⟨a,vs,ev,hs,by rw[ra.length];exact hl,ds.map W.d,τ,M,Qd,ra.ws,A,q,kk⟩
def ady(i j:Nat)(t:TAd)(D:Ed)(τ:DS)(M:MH):Prop:=t τ M λ ws M1=>∃ v w,ws=[v,w]/\D.nx ((τ.set i (some v)).set j (some w)) M1
theorem zA{kt k2 pt2}(hc:X.calm=true)(hN:X.N.Nodup)(hi:X.N[i]? =some x)(hj:X.N[j]? =some y)(hij:i≠j)
  (hx:X.env.scope.names.lookup x=some .local)(hy:X.env.scope.names.lookup y=some .local)(ha:PAd X [a,b] t)
  (hw:swappedStores [.Tuple [.Name x px,.Name y py] kt pt] (.Tuple [a,b] k2 pt2) X.env=pure (some [x,y]):=by rfl)
  (hs:swapsWithSole [.Tuple [.Name x px,.Name y py] kt pt] (.Tuple [a,b] k2 pt2) pos.line X.env=pure false:=by rfl) :
  PSd X (.Assign [.Tuple [.Name x px,.Name y py] kt pt] (.Tuple [a,b] k2 pt2) pos) (ady i j t):=nY (aaF hc hN hi hj hij hx hy ha hw hs) λ D σ H h=>by
 obtain⟨τ,M,Dd,A,h,k1,_⟩:=h;refine⟨τ,M,_,A,h,λ vs H1 ws M1 kp1 r1 m1 hq67=>?_⟩;obtain⟨v,w,ew,q⟩:=hq67;subst ew;obtain⟨u1,u2,e1,r2,r3⟩:=qM r1;exact⟨u1,u2,e1,k1 _ H1 _ M1 kp1 (((A.go kp1 m1).set i r2).set j r3) q⟩
def oK(trs:List (TD×TD))(τ:DS)(M:MH)(Q:QD):Prop:=∀ p,M p=none->sP trs τ (ba M p (.dic [])) λ ps M2=>M2 p=some (.dic [])/\∃ kvs:List (Key×W),ps=kvs.map (λ q=>(kW q.1,q.2))/\kvs.length<=15/\(kvs.map (·.1)).Nodup /\
 Q (.m p) (ba M2 p (.dic kvs))
theorem jQ{K:FG}{H:Hp}:∀ {kvs:List (Key×W)} {ps:List (V×V)},Paired (λ(p:W×W) (q:V×V)=>aC K H p.1 q.1/\aC K H p.2 q.2) (kvs.map λ q=>(kW q.1,q.2)) ps ->
  ∃ l:List (Key×V),ps=l.map (λ kv=>(kV kv.1,kv.2))/\l.map (·.1)=kvs.map (·.1)/\Paired (λ(p:Key×W) (q:Key×V)=>p.1=q.1/\aC K H p.2 q.2) kvs l
 | [],ps,h=>by cases h;exact⟨[],rfl,rfl,.nil⟩
 | (k,d)::kvs,ps,h=>by
  cases h with
  | cons r t =>
   rename_i q qs
   obtain⟨x,y⟩:=q;obtain⟨l,e1,e2,e3⟩:=jQ t;refine⟨(k,y)::l,?_,by simp[e2],.cons ⟨rfl,r.2⟩ e3⟩;rw[List.map_cons,<- e1,<- jm r.1]
theorem vU(h:PPs X pos keys values (trs.map λ p=>(up X.K p.1,up X.K p.2)))(hall:keys.all (·.isSome)=true:=by rfl)(hl:keys.length=values.length:=by rfl)(h0:keys≠[]:=by simp)
  (h15:keys.length<=15:=by decide):PD X (.Dict keys values pos) (oK trs):=iq (ze h hall hl h0 h15) λ σ H Q ⟨τ,M,Qd,A,q,k⟩=>λ p hp=>by
 have kp0:Kp H (upd H p (.dK [])):=Kp.new hp;have m0:cO X.K (upd H p (.dK [])) (ba M p (.dic [])):=A.mem.put (mo:=.dic []) kp0 ⟨[],aq,.nil⟩;have hM:=A.mem.free hp;refine lG (A.go kp0 m0) (q p hM) λ ps H2 ws M2 kp2 r2 m2 hq68=>?_;obtain⟨eM,kvs,ews,hlen,hnd,qq⟩:=hq68;subst ews;obtain⟨l0,e0,pr0⟩:=m2 p _ eM;have el0:l0=[]:=by cases pr0;rfl
 subst el0;obtain⟨l,e1,e2,e3⟩:=jQ r2;have elen:l.length=kvs.length:=by
  have:=congrArg List.length e2
  simpa using this
 refine⟨e0,l,e1,by omega,?_⟩;have em:gk [] l=l:=by rw[jY (by simpa [e2] using hnd)];rfl
 rw[em];have kp3:Kp H2 (upd H2 p (.dK l)):=Kp.set e0 (λ xs z=>nomatch z) λ _ _ z=>nomatch z;exact k _ _ (.m p) _ ((kp0.trans kp2).trans kp3) rfl (m2.put (mo:=.dic kvs) kp3 ⟨l,aq,Paired.fM e3 λ p q z=>⟨z.1,z.2.keep kp3⟩⟩) qq
section
variable {K:FG}{C:Addr}
end
theorem pcT(hc:eC X (.type T) r)(hd:eQ X.K r rd)(hg:Gl X x)(hm:X.mg x=none)(hv:bootBuiltins x=some (.type T))(ha:PAd X (e::es) t)(hn:x ≠ "__name__":= by decide)(hdb:ND x:=by decide)
  (h1:jE e=false:=by rfl)(h2:(es.all λ e=>!jE e)=true:=by rfl):PD X (.Call (.Name x p) (e::es) [] pos) (dCB rd t):=sJ hc hd hg hm hv ha hn hdb (fY e es X.env h1) (gw pos X.env es h2)
theorem jK  : Jd (PD X (.Dict [] [] pos) mO):=⟨iq vc λ σ H Q ⟨τ,M,Qd,A,h,k⟩ p hp =>
 k (.ref p) _ (.m p) (ba M p (.dic [])) (Kp.new hp) rfl (A.mem.put (mo:=.dic []) (Kp.new hp) ⟨[],aq,.nil⟩) (h p (A.mem.free hp))⟩
theorem vX(hu:X.A.units+1<cLine)(hi:Jd (PD X i ti))(ho:Jd (PD X o td))(hm:behindInMarks .In o=false:=by rfl):Jd (PTd X (.Compare i [.In] [o] pos) (aG (ack ti td))):=⟨D.zt (hu:=hu) (hi:=hi.h) (ho:=ho.h) (hm:=hm)⟩
theorem jd(hu:X.A.units+1<cLine)(hi:Jd (PD X i ti))(ho:Jd (PD X o td))(hm:behindInMarks .NotIn o=false:=by rfl):Jd (PTd X (.Compare i [.NotIn] [o] pos) (aG (iZ ti td))):=⟨D.qm (hu:=hu) (hi:=hi.h) (ho:=ho.h) (hm:=hm)⟩
theorem cu(hu:X.A.units+1<cLine)(ho:Jd (PD X o td))(hi:Jd (PD X i ti))(hs:acb i:=by exact λ _ _=>rfl):Jd (PD X (.Subscript o i pos) (gp td ti)):=⟨D.yw (hu:=hu) (ho:=ho.h) (hi:=hi.h) (hs:=hs)⟩
theorem uY(hu:X.A.units+1<cLine)(ho:Jd (PD X o td))(he:Jd (PD X e ti))(hf:Jd (PD X f tx))(m:M2 X o "get" apos e f cpos:=by exact⟨rfl,rfl,rfl,rfl⟩):Jd (PD X (.Call (.Attribute o "get" apos) [e,f] [] cpos) (yk td ti tx)):=⟨D.xR (hu:=hu) (ho:=ho.h) (he:=he.h) (hf:=hf.h) (m:=m)⟩
theorem gJ(hu:X.A.units+1<cLine)(ho:Jd (PD X o td))(hi:Jd (PD X i ti))(hv:Jd (PD X value tv))(hs:swapsWith value (some (.Subscript o i pos')) pos.line X.env=pure false:=by rfl):Jd (PSd X (.Assign [.Subscript o i pos'] value pos) (qb td ti tv)):=⟨D.vB (hu:=hu) (ho:=ho.h) (hi:=hi.h) (hv:=hv.h) (hs:=hs)⟩
theorem eB(h:Jd (PD X e td)):Jd (PD X e (fV td)):=⟨D.xE (h:=h.h)⟩
theorem el(ho:Jd (PD X o td))(he:Jd (PD X e te))(hbase:attributeBase o "append" X.env (eval o X.env)=eval o X.env:=by rfl)(hfew:((backTo cpos (starEach [e] X.env)).all (λ x=>!x.1)&&(backToKw cpos (keywordEach [] X.env)).all (λ x=>x.1.isSome)
   && decide (([e]:List Expr).length+([]:List Keyword).length+(if ([]:List Keyword).isEmpty then 0 else 1)<30))=true:=by rfl)(hline:(apos.endLine==cpos.line)=true:=by rfl)(hs:jE e=false:=by rfl):Jd (PD X (.Call (.Attribute o "append" apos) [e] [] cpos) (fW td te)):=⟨D.rM (ho:=ho.h) (he:=he.h) (hbase:=hbase) (hfew:=hfew) (hline:=hline) (hs:=hs)⟩
theorem jX(ha:Jd (PD X a ta))(he:∀ whole:Sem Value,PySem.isTrue a X.env whole=(do let v <- whole;standAt a.pos;holding [v] (truthy v)):=by intro _;rfl):Jd (PTd X a (acj ta)):=⟨D.t7 (ha:=ha.h) (he:=he)⟩
theorem jk(ha:Jd (PD X a ta))(hb:Jd (PD X b tb)):Jd (PD X (.BinOp a .Add b pos) (yE ta tb)):=⟨D.abp (ha:=ha.h) (hb:=hb.h)⟩
theorem bB  : Jd (xU X [] gz):=⟨aaX yq λ vs σ H Q hq64=>by obtain⟨ws,τ,M,Qd,r,A,⟨e,q⟩,k⟩:=hq64;subst e;cases r;exact⟨rfl,k σ H τ M (Kp.refl H) A q⟩⟩
theorem ar(h1:Jd (PGd X e g))(h2:Jd (xU X es gs))(hs:(assignEach (e::es) X.env).map (·.2)=assign e X.env::(assignEach es X.env).map (·.2):=by rfl):Jd (xU X (e::es) (aT g gs)):=⟨D.sR (h1:=h1.h) (h2:=h2.h) (hs:=hs)⟩
theorem bX(hc:X.calm=true)(h:Jd (xU X es gs))(hn:(assignEach es X.env).length=n:=by rfl)(hst:(assignEach es X.env).findIdx? (·.1)=none:=by rfl):Jd (PGd X (.Tuple es k pos) (gT n gs)):=⟨D.yY (hc:=hc) (h:=h.h) (hn:=hn) (hst:=hst)⟩
theorem vq{kt k2 pt2}(hc:X.calm=true)(hN:X.N.Nodup)(hi:X.N[i]? =some x)(hj:X.N[j]? =some y)(hij:i≠j)(hx:X.env.scope.names.lookup x=some .local)(hy:X.env.scope.names.lookup y=some .local)(ha:Jd (PAd X [a,b] t))(hw:swappedStores [.Tuple [.Name x px,.Name y py] kt pt] (.Tuple [a,b] k2 pt2) X.env=pure (some [x,y]):=by rfl)(hs:swapsWithSole [.Tuple [.Name x px,.Name y py] kt pt] (.Tuple [a,b] k2 pt2) pos.line X.env=pure false:=by rfl):Jd (PSd X (.Assign [.Tuple [.Name x px,.Name y py] kt pt] (.Tuple [a,b] k2 pt2) pos) (ady i j t)):=⟨D.zA (hc:=hc) (hN:=hN) (hi:=hi) (hj:=hj) (hij:=hij) (hx:=hx) (hy:=hy) (ha:=ha.h) (hw:=hw) (hs:=hs)⟩
theorem lC(h:Jd (PPs X pos keys values (trs.map (pm X.K))))(hall:keys.all (·.isSome)=true:=by rfl)(hl:keys.length=values.length:=by rfl)(h0:keys≠[]:=by simp)(h15:keys.length<=15:=by decide):Jd (PD X (.Dict keys values pos) (oK trs)):=⟨D.vU (h:=h.h) (hall:=hall) (hl:=hl) (h0:=h0) (h15:=h15)⟩
theorem yc(hc:eC X (.type T) r)(hd:eQ X.K r rd)(hg:Gl X x)(hm:X.mg x=none)(hv:bootBuiltins x=some (.type T))(ha:Jd (PAd X (e::es) t))(hn:x ≠ "__name__":= by decide)(hdb:ND x:=by decide)(h1:jE e=false:=by rfl)(h2:(es.all λ e=>!jE e)=true:=by rfl):Jd (PD X (.Call (.Name x p) (e::es) [] pos) (dCB rd t)):=⟨D.pcT (hc:=hc) (hd:=hd) (hg:=hg) (hm:=hm) (hv:=hv) (ha:=ha.h) (hn:=hn) (hdb:=hdb) (h1:=h1) (h2:=h2)⟩
@[simp] theorem abN (i j:Int):eO (.int i) (.int j)=true:=rfl
@[simp] theorem aaQ (x y:Str):eO (.str x) (.str y)=true:=rfl
@[simp] theorem zP (x y:Bool):eO (.bool x) (.bool y)=true:=rfl
@[simp] theorem acu (i j:Int):PyData.eqv (.int i) (.int j)=(i==j):=by rw[PyData.eqv]
@[simp] theorem cy (i j:Str):PyData.eqv (.str i) (.str j)=(i==j):=by rw[PyData.eqv]
@[simp] theorem adY (a:Addr):zM (.m a)=true:=rfl
@[simp] theorem aba (ds:List PyData):zM (.d (.list ds))=true:=rfl
@[simp] theorem zK (ds:List PyData):zM (.d (.tuple ds))=true:=rfl
@[simp] theorem ach (n:Nat):ixN (n+1) 0=some 0:=by unfold ixN;simp
theorem wk{α:Type}{xs:List α}{i:Int}(h0:0<=i)(h1:i<xs.length):atI xs i=some (xs[i.toNat]'(by omega)):=by
 unfold atI ixN;rw[if_pos h0,if_pos h1];simp
inductive Bag(M:MH) (p:Addr):Prop
 | mk (a b c:Int) (ns:List Int) (e:M p=some (.lst [.d (.int a),.d (.int b),.d (.int c),.d (.list (ns.map PyData.int))])) (z:0<=a/\0<=b/\b<2147483647/\0<=c/\(∀ n∈ns,0<=n)):Bag M p
def dM:SpD:=λ ws M Q=>∃ ns:List Int,ws=[.d (.list (ns.map PyData.int))]/\ns.length<=1000/\∀ p M',M p=none->(∀ q,q≠p->M' q=M q)->Bag M' p->Q (.m p) M'
inductive ma(ws:List W) (M:MH) (Q:QD):Prop
 | mk (p:Addr) (n:Int) (z0:ws=[.m p,.d (.int n)]) (z1:Bag M p) (z2:0<n) (z3:n<1073741824) (z4:∀ (r:Int) M',0<=r->r<n->Bag M' p->(∀ q,q≠p->M' q=M q)->Q (.d (.int r)) M'):ma ws M Q
def aD:SpD:=ma
theorem rK:∀ ws M Q,dM ws M Q->ws.length=1:=by rintro ws M Q ⟨ns,rfl,_⟩;rfl
theorem pN:∀ ws M Q,aD ws M Q->ws.length=2:=by rintro ws M Q ⟨p,n,rfl,_⟩;rfl
theorem xA{n:Nat}{i:Int}(h0:0<=i)(h1:i<n):ixN n i=some i.toNat:=by unfold ixN;rw[if_pos h0,if_pos h1]
theorem ym(hm:M p=some (.lst ws))(h:atI ws i=some x):ixW M (.m p) i=some x:=by simp only[ixW,hm];exact h
theorem gh{c:Bool}{A B:Prop}(h1:c=true->A)(h2:c=false->B):if c=true then A else B:=by
 cases c with
 | true=>rw[if_pos rfl];exact h1 rfl
 | false=>rw[if_neg Bool.false_ne_true];exact h2 rfl
abbrev tV:List Str:=["_law_script"]
def rR:TSd:=
  fJ (mj (ae (dC (.d (.int 0))) (ae (dC (.d (.int 1234567891))) (ae (dC (.d (.int 0))) (ae (dLC (bG (dSl (af 0) (e9) (km (dC (.d (.int 63)))))) (gN 0) (u5) (dCB aby (ae (af 0) (aF))) 1 []) (aF))))))
abbrev oE:List Str:=["_law_bag_here", "_law_many", "_law_cell", "_law_value", "_law_first", "_law_second"]
def oY:TSd:=
  bo (dIf (aG (dOp adA (dOp dB (af 0) (dC (.d (.int 0)))) (dC (.d (.int 0)))))
   (bo (bP (dC (.d (.int 0))) (gN 2)) <|
   bo (dIf (aG (dOp zR (dOp dB (af 0) (dC (.d (.int 2)))) (dCB gC (ae (dOp dB (af 0) (dC (.d (.int 3)))) (aF)))))
    (bP (dOp dB (dOp dB (af 0) (dC (.d (.int 3)))) (dOp dB (af 0) (dC (.d (.int 2))))) (gN 2))
    (cN)) <|
   bo (vQ (af 0) (dC (.d (.int 2))) (dC (.d (.int 1))) (λ i j=>i+j)) <|
   bo (dIf (aG (dOp acZ (af 2) (dC (.d (.int 1000000000000000000)))))
    (bP (af 2) (uX (af 0) (dC (.d (.int 0)))))
    (cN)) <|
   bP (dOp dX (dOp dj (dOp dj (dOp fF (dOp dB (af 0) (dC (.d (.int 1)))) (dC (.d (.int 48271)))) (dOp dX (af 2) (dC (.d (.int 2147483647))))) (dOp fF (dC (.d (.int 7919))) (dOp dB (af 0) (dC (.d (.int 2)))))) (dC (.d (.int 2147483647)))) (uX (af 0) (dC (.d (.int 1)))))
   (cN)) <|
  bo (dIf (aG (dOp aaa (dOp dB (af 0) (dC (.d (.int 0)))) (dC (.d (.int 0)))))
   (bo (bP (dOp dX (dOp dB (af 0) (dC (.d (.int 0)))) (af 1)) (gN 3)) <|
   bo (bP (dOp qt (dOp dB (af 0) (dC (.d (.int 0)))) (af 1)) (uX (af 0) (dC (.d (.int 0))))) <|
   fJ (af 3))
   (cN)) <|
  bo (bP (dOp dX (dOp fF (dOp dj (dOp dB (af 0) (dC (.d (.int 1)))) (dC (.d (.int 1)))) (dC (.d (.int 39373)))) (dC (.d (.int 1000000007)))) (gN 4)) <|
  bo (bP (dOp dX (dOp fF (dOp dX (dOp fF (af 4) (af 4)) (dC (.d (.int 998244353)))) (dC (.d (.int 30011)))) (dC (.d (.int 998244353)))) (gN 5)) <|
  bo (dIf (aG (dOp aaa (af 1) (dC (.d (.int 1000000)))))
   (fJ (dOp dX (dOp dj (dOp fF (af 5) (dC (.d (.int 1000000007)))) (af 4)) (af 1)))
   (cN)) <|
  fJ (dOp dX (dOp qt (af 5) (dC (.d (.int 7)))) (af 1))
abbrev u4(a b c:Int)(ns:List Int):List W:=[.d (.int a),.d (.int b),.d (.int c),.d (.list (ns.map PyData.int))]
theorem gZ(hm:M p=some (.lst (u4 a b c ns)))(ha:0<=a)(hb:0<=b)(hb2:b<2147483647)(hc:0<=c)(hns:∀ n∈ns,0<=n)(hn:0<n)(hn2:n<1073741824)
  (k:∀ (r:Int) M',0<=r->r<n->Bag M' p->(∀ q,q≠p->M' q=M q)->Q (.d (.int r)) M')(hD:D.rt=Q) :
  (bo (dIf (aG (dOp aaa (dOp dB (af 0) (dC (.d (.int 0)))) (dC (.d (.int 0)))))
   (bo (bP (dOp dX (dOp dB (af 0) (dC (.d (.int 0)))) (af 1)) (gN 3)) <|
   bo (bP (dOp qt (dOp dB (af 0) (dC (.d (.int 0)))) (af 1)) (uX (af 0) (dC (.d (.int 0))))) <|
   fJ (af 3))
   (cN)) <|
  bo (bP (dOp dX (dOp fF (dOp dj (dOp dB (af 0) (dC (.d (.int 1)))) (dC (.d (.int 1)))) (dC (.d (.int 39373)))) (dC (.d (.int 1000000007)))) (gN 4)) <|
  bo (bP (dOp dX (dOp fF (dOp dX (dOp fF (af 4) (af 4)) (dC (.d (.int 998244353)))) (dC (.d (.int 30011)))) (dC (.d (.int 998244353)))) (gN 5)) <|
  bo (dIf (aG (dOp aaa (af 1) (dC (.d (.int 1000000)))))
   (fJ (dOp dX (dOp dj (dOp fF (af 5) (dC (.d (.int 1000000007)))) (af 4)) (af 1)))
   (cN)) <|
  fJ (dOp dX (dOp qt (af 5) (dC (.d (.int 7)))) (af 1))) D [some (.m p),some (.d (.int n)),x,none,none,none] M:=by
 subst hD;have i0:ixW M (.m p) 0=some (.d (.int a)):=ym hm rfl;have i1:ixW M (.m p) 1=some (.d (.int b)):=ym hm rfl;have same:Bag M p:=⟨a,b,c,ns,hm,ha,hb,hb2,hc,hns⟩;refine⟨_,rfl,_,_,rfl,i0,rfl,_,_,rfl,rfl,_,rfl,?_⟩;refine gh (λ h=>?_) (λ h=>?_)
 ·have h0:0<a:=of_decide_eq_true h;refine⟨_,rfl,_,_,rfl,i0,rfl,_,rfl,_,_,rfl,rfl,hn,?_⟩;refine⟨_,rfl,_,_,rfl,i0,rfl,_,rfl,_,_,rfl,rfl,⟨hn,hn2⟩,?_⟩;refine⟨_,rfl,_,_,_,_,rfl,rfl,hm,rfl,?_⟩;refine⟨_,rfl,?_⟩;refine k _ _ (Int.emod_nonneg _ (by omega)) (Int.emod_lt_of_pos _ hn) ⟨a / n,b,c,ns,ag,Int.ediv_nonneg ha (by omega),hb,hb2,hc,hns⟩ λ q hq=>aw hq
 ·refine⟨_,rfl,_,_,rfl,i1,rfl,.inl ?_⟩;refine⟨_,_,rfl,rfl,_,_,rfl,rfl,.inl ⟨by omega,by omega⟩,_,_,rfl,rfl,(by decide:(0:Int)<1000000007),?_⟩;have f0:0<=(b+1) * 39373 % 1000000007:=Int.emod_nonneg _ (by decide);have f1:(b+1) * 39373 % 1000000007<1000000007:=Int.emod_lt_of_pos _ (by decide);refine⟨_,rfl,_,rfl,_,_,rfl,rfl,.inl ⟨by omega,by omega⟩,_,_,rfl,rfl,(by decide:(0:Int)<998244353),?_⟩;have g0:0<=(b+1) * 39373 % 1000000007 * ((b+1) * 39373 % 1000000007) % 998244353:=Int.emod_nonneg _ (by decide);have g1:(b+1) * 39373 % 1000000007 * ((b+1) * 39373 % 1000000007) % 998244353<998244353:=Int.emod_lt_of_pos _ (by decide);refine⟨_,_,rfl,rfl,.inl ⟨by omega,by omega⟩,_,_,rfl,rfl,(by decide:(0:Int)<998244353),?_⟩;have e0:0<=(b+1) * 39373 % 1000000007 * ((b+1) * 39373 % 1000000007) % 998244353 * 30011 % 998244353:=Int.emod_nonneg _ (by decide);have e1:(b+1) * 39373 % 1000000007 * ((b+1) * 39373 % 1000000007) % 998244353 * 30011 % 998244353<998244353:=Int.emod_lt_of_pos _ (by decide);refine⟨_,rfl,_,_,rfl,rfl,_,rfl,?_⟩;refine gh (λ h=>?_) (λ h=>?_)
  ·refine⟨_,rfl,_,_,rfl,rfl,.inl ⟨by omega,by omega⟩,_,rfl,.inl ⟨_,_,rfl,rfl,_,rfl,_,_,rfl,rfl,hn,?_⟩⟩;exact k _ _ (Int.emod_nonneg _ (by omega)) (Int.emod_lt_of_pos _ hn) same λ q _=>rfl
  ·refine⟨_,rfl,_,_,rfl,rfl,⟨by decide,by decide⟩,_,rfl,_,_,rfl,rfl,hn,?_⟩;exact k _ _ (Int.emod_nonneg _ (by omega)) (Int.emod_lt_of_pos _ hn) same λ q _=>rfl
theorem j3(hm:M p=some (.lst (u4 a b c ns)))(ha:0<=a)(hb:0<=b)(hb2:b<2147483647)(hc:0<=c)(hcell:0<=cell)
  (k:∀ a' b' c' M',0<=a'->0<=b'->b'<2147483647->0<=c'->M' p=some (.lst (u4 a' b' c' ns))->(∀ q,q≠p->M' q=M q)->D.nx [some (.m p),some (.d (.int n)),some (.d (.int cell)),none,none,none] M') :
  (bo (vQ (af 0) (dC (.d (.int 2))) (dC (.d (.int 1))) (λ i j=>i+j)) <|
   bo (dIf (aG (dOp acZ (af 2) (dC (.d (.int 1000000000000000000)))))
    (bP (af 2) (uX (af 0) (dC (.d (.int 0)))))
    (cN)) <|
   bP (dOp dX (dOp dj (dOp dj (dOp fF (dOp dB (af 0) (dC (.d (.int 1)))) (dC (.d (.int 48271)))) (dOp dX (af 2) (dC (.d (.int 2147483647))))) (dOp fF (dC (.d (.int 7919))) (dOp dB (af 0) (dC (.d (.int 2)))))) (dC (.d (.int 2147483647)))) (uX (af 0) (dC (.d (.int 1)))))
   D [some (.m p),some (.d (.int n)),some (.d (.int cell)),none,none,none] M:=by
 refine⟨_,rfl,_,_,_,_,_,rfl,rfl,hm,rfl,rfl,_,rfl,rfl,?_⟩;have m1:ba M p (.lst (u4 a b (c+1) ns)) p=some (.lst (u4 a b (c+1) ns)):=ag;have f1:∀ q,q≠p->ba M p (.lst (u4 a b (c+1) ns)) q=M q:=λ q hq=>aw hq;show(bo _ _) D _ (ba M p (.lst (u4 a b (c+1) ns)));generalize ba M p (.lst (u4 a b (c+1) ns))=M1 at m1 f1;have fin:∀ (a':Int) (M2:MH),0<=a'->M2 p=some (.lst (u4 a' b (c+1) ns))->(∀ q,q≠p->M2 q=M q) ->
   bP (dOp dX (dOp dj (dOp dj (dOp fF (dOp dB (af 0) (dC (.d (.int 1)))) (dC (.d (.int 48271)))) (dOp dX (af 2) (dC (.d (.int 2147483647))))) (dOp fF (dC (.d (.int 7919))) (dOp dB (af 0) (dC (.d (.int 2)))))) (dC (.d (.int 2147483647)))) (uX (af 0) (dC (.d (.int 1)))) D [some (.m p),some (.d (.int n)),some (.d (.int cell)),none,none,none] M2:=by
  intro a' M2 ha' m2 f2;have i1:ixW M2 (.m p) 1=some (.d (.int b)):=ym m2 rfl;have i2:ixW M2 (.m p) 2=some (.d (.int (c+1))):=ym m2 rfl;refine⟨_,rfl,_,_,rfl,i1,rfl,_,_,rfl,rfl,.inl ⟨by omega,by omega⟩,_,rfl,_,_,rfl,rfl,(by decide:(0:Int)<2147483647),.inl ?_⟩;refine⟨_,_,rfl,rfl,_,rfl,_,_,rfl,i2,rfl,_,_,rfl,rfl,.inl ⟨by decide,by decide⟩,.inl ?_⟩;refine⟨_,_,rfl,rfl,_,_,rfl,rfl,(by decide:(0:Int)<2147483647),_,rfl,_,_,_,_,rfl,rfl,m2,rfl,?_⟩;exact k a' _ (c+1) _ ha' (Int.emod_nonneg _ (by decide)) (Int.emod_lt_of_pos _ (by decide)) (by omega) ag λ q hq=>(aw hq).trans (f2 q hq)
 refine⟨_,rfl,_,_,rfl,rfl,_,rfl,?_⟩;refine gh (λ h=>?_) (λ h=>?_)
 ·refine⟨_,rfl,_,rfl,_,_,_,_,rfl,rfl,m1,rfl,?_⟩;exact fin cell _ hcell ag λ q hq=>(aw hq).trans (f1 q hq)
 ·exact fin a M1 ha m1 f1
theorem mW:∀ ws M Q,aD ws M Q->oY {nx:=λ _ M'=>Q (.d .none) M',rt:=Q} (cf oE ws) M:=by
 rintro ws M Q ⟨p,n,rfl,⟨a,b,c,ns,hm,ha,hb,hb2,hc,hns⟩,hn,hn2,k⟩;have i0:ixW M (.m p) 0=some (.d (.int a)):=ym hm rfl;have i2:ixW M (.m p) 2=some (.d (.int c)):=ym hm rfl;have i3:ixW M (.m p) 3=some (.d (.list (ns.map PyData.int))):=ym hm rfl;refine⟨_,rfl,_,_,rfl,i0,rfl,_,_,rfl,rfl,rfl,_,rfl,?_⟩;refine gh (λ h=>?_) (λ h=>?_)
 ·refine⟨_,rfl,_,_,rfl,i2,rfl,_,rfl,_,_,rfl,i3,rfl,_,_,rfl,rfl,rfl,_,_,rfl,rfl,_,rfl,?_⟩;refine gh (λ h=>?_) (λ h=>?_)
  ·have hlt:c<((ns.map PyData.int).length:Nat):=of_decide_eq_true h;have hlt':c.toNat<ns.length:=by rw[List.length_map] at hlt;omega
   have ic:ixW M (.d (.list (ns.map PyData.int))) c=some (.d (.int (ns[c.toNat]'hlt'))):=by simp only[ixW];rw[wk hc hlt];simp
   refine⟨_,rfl,_,_,rfl,i3,rfl,_,rfl,_,_,rfl,i2,rfl,_,_,rfl,ic,rfl,?_⟩;refine j3 (cell:=ns[c.toNat]'hlt') hm ha hb hb2 hc (hns _ (List.getElem_mem _)) λ a' b' c' M' h1 h2 h3 h4 h5 h6=>?_;exact gZ (x:=some (.d (.int (ns[c.toNat]'hlt')))) h5 h1 h2 h3 h4 hns hn hn2 (λ r M'' r0 r1 bg fr=>k r M'' r0 r1 bg λ q hq=>(fr q hq).trans (h6 q hq)) rfl
  ·refine j3 (cell:=0) hm ha hb hb2 hc (Int.le_refl 0) λ a' b' c' M' h1 h2 h3 h4 h5 h6=>?_;exact gZ (x:=some (.d (.int 0))) h5 h1 h2 h3 h4 hns hn hn2 (λ r M'' r0 r1 bg fr=>k r M'' r0 r1 bg λ q hq=>(fr q hq).trans (h6 q hq)) rfl
 ·exact gZ (x:=none) hm ha hb hb2 hc hns hn hn2 k rfl
theorem tN{ws:List W}{i:Nat}(h:ws[i]? =some w):(ws.take (i+1)).filterMap f=(ws.take i).filterMap f++(f w).toList:=by rw[List.take_add_one,h,List.filterMap_append];cases e:f w<;>simp[e]
theorem xy{tt:TTd}{te:TD}{fr:List Nat}{τ:DS}{M:MH}{Q:List PyData->MH->Prop}{ws:List W}(f:W->Option PyData)(hl:ws.length<=sizeLine)
  (step:∀ w∈ws,∀ P':Option PyData->Prop,P' (f w)->tt (some w::fr.map λ j=>(τ[j]?).getD none) M λ b M3=>if b=true then te (some w::fr.map λ j=>(τ[j]?).getD none) M3 λ y M4=>∃ d,y=.d d/\M4=M/\P' (some d) else M3=M/\P' none)
  (q:Q (ws.filterMap f) M):∃ P:Nat->List PyData->DS->MH->Prop,P 0 [] (zE 1 fr τ) M /\
   (∀ i w acc τ M,ws[i]? =some w->P i acc τ M->acc.length<sizeLine/\gN 0 w τ M λ τ2 M2=>tt τ2 M2 λ b M3=>if b=true then te τ2 M3 λ y M4=>∃ d,y=.d d/\P (i+1) (acc++[d]) τ2 M4 else P (i+1) acc τ2 M3) /\
   ∀ acc τ M,P ws.length acc τ M->Q acc M:=by
 let Pk:Nat->List PyData->DS->Prop:=λ i acc τ'=>i<=ws.length/\acc=(ws.take i).filterMap f/\∃ x,τ'=x::fr.map λ j=>(τ[j]?).getD none
 refine⟨λ i acc τ' M'=>M'=M/\Pk i acc τ',⟨rfl,Nat.zero_le _,rfl,none,rfl⟩,λ i w acc τ' M' hw hp=>?_,λ acc τ' M' hp=>?_⟩
 ·obtain⟨rfl,hi,rfl,x,rfl⟩:=hp;have hlt:i<ws.length:=(List.getElem?_eq_some_iff.mp hw).1;refine⟨?_,step w (List.mem_of_getElem? hw) (λ o=>match o with
   | some d=>Pk (i+1) ((ws.take i).filterMap f++[d]) (some w::fr.map λ j=>(τ[j]?).getD none)
   | none=>Pk (i+1) ((ws.take i).filterMap f) (some w::fr.map λ j=>(τ[j]?).getD none)) ?_⟩
  ·have h1:=List.length_filterMap_le f (ws.take i);rw[List.length_take] at h1;omega
  ·cases e:f w with
   | some d=>exact⟨hlt,by rw[tN hw,e];rfl,_,rfl⟩
   | none=>exact⟨hlt,by rw[tN hw,e];simp,_,rfl⟩
 ·obtain⟨rfl,hi,rfl,x,rfl⟩:=hp;rw[List.take_of_length_le (Nat.le_refl _)];exact q
theorem abM{α:Type}(g:α->W)(f:W->Option PyData)(h:α->PyData)(e:∀ a,f (g a)=some (h a))(l:List α):(l.map g).filterMap f=l.map h:=by
 induction l with
 | nil=>rfl
 | cons a l ih=>rw[List.map_cons,List.filterMap_cons,e,ih];rfl
theorem ql:∀ ws M Q,dM ws M Q->rR {nx:=λ _ M'=>Q (.d .none) M',rt:=Q} (cf tV ws) M:=by
 rintro ws M Q ⟨ns,rfl,hl,k⟩;refine⟨_,rfl,_,rfl,_,rfl,rfl,_,rfl,?_⟩;have ec:cutD (ns.map PyData.int) none (some 63)=(cutD ns none (some 63)).map PyData.int:=by simp only[cutD,List.length_map,List.map_take,List.map_drop]
 have hlen:(cutD ns none (some 63)).length<=ns.length:=by simp only[cutD,List.length_take,List.length_drop];omega
 have h1000:(1000:Nat)<=sizeLine:=by rw[sizeLine_eq];decide
 dsimp only;refine xy (λ w=>match w with
  | .d (.int n)=>some (.int (if n<0 then -n else n))
  | _=>none) ?hl (λ w hw P' hp=>?_) ?_
 case hl=>rw[List.length_map,ec,List.length_map];omega
 ·rw[ec,List.map_map] at hw;obtain⟨n,_,rfl⟩:=List.mem_map.mp hw;exact⟨_,rfl,_,rfl,_,rfl,rfl,hp⟩
 ·have e2:(List.map W.d (cutD (ns.map PyData.int) none (some 63))).filterMap (λ w=>match w with
    | .d (.int n)=>some (PyData.int (if n<0 then -n else n))
    | _=>none)=((cutD ns none (some 63)).map λ n=>if n<0 then -n else n).map PyData.int:=by
   rw[ec,List.map_map,abM (W.d ∘ PyData.int) _ (λ n=>PyData.int (if n<0 then -n else n)) (λ n=>rfl),List.map_map];rfl
  rw[e2];refine⟨by simp[sizeLine_eq],λ p hp=>k p _ hp (λ q hq=>aw hq) ⟨0,1234567891,0,_,ag,Int.le_refl 0,by decide,by decide,Int.le_refl 0,λ n hn=>?_⟩⟩;obtain⟨m,_,rfl⟩:=List.mem_map.mp hn
  split<;>omega
def gc(z:Str):Bool:=z.cps.all (·<128)
mutual
def big:PyData->Nat
 | .none=>4
 | .bool _=>5
 | .int _=>2000
 | .str z=>10 * z.length+2
 | .list ds=>sW ds+2
 | .tuple ds=>sW ds+3
 | .dict kvs=>aaM kvs+2
def sW:List PyData->Nat
 | []=>0
 | d::ds=>big d+2+sW ds
def aaM:List (PyData×PyData)->Nat
 | []=>0
 | (k,d)::ds=>big k+2+big d+2+aaM ds
end
mutual
def eP:PyData->Bool
 | .none=>true
 | .bool _=>true
 | .int i=>decide (i.natAbs.log2<1920)
 | .str z=>gc z
 | .list ds=>jD ds
 | .tuple ds=>jD ds
 | .dict kvs=>pS kvs
def jD:List PyData->Bool
 | []=>true
 | d::ds=>eP d&&jD ds
def pS:List (PyData×PyData)->Bool
 | []=>true
 | (k,d)::ds=>eP k&&eP d&&pS ds
end
theorem nQ:∀ ts:List Str,(listText ts).length<=piled ts+2
 | []=>by decide +kernel
 | t::r=>by
  have h:=textFrom_length_pos r 1 (("[" : Str)++(if (0:Nat) > 0 then ", " else "" : String)++t) (Nat.succ_pos 0);have e:((("[" : Str)++(if (0:Nat) > 0 then ", " else "" : String)++t)).length=1+t.length:=by rw[strLen_append,strLen_append];rfl
  have hX:(listText (t::r)).length=(textFrom 0 "[" (t::r)).length+1:=by show(textFrom 0 "[" (t::r) ++ "]").length=_;rw[strLen_append];rfl
  have h2:(textFrom 0 "[" (t::r)).length=(1+t.length)+piled r:=by rw[<- e];exact h
  have h3:piled (t::r)=t.length+2+piled r:=by simp[piled]
  omega
theorem join_le(ts:List Str):(Str.join ", " ts).length<=piled ts:=by
 cases ts with
 | nil=>decide +kernel
 | cons t r=>have:=join_length_add (t::r) (by simp);omega
theorem mB(ts:List Str):(tupleText ts).length<=piled ts+3:=by
 unfold tupleText;rw[strLen_append,strLen_append];have e1:((("(" : String):Str)).length=1:=rfl;have e3:(((if ts.length==1 then ",)" else ")" : String):Str)).length<=2:=by split<;>decide
 have:=join_le ts;omega
theorem ng(ts:List Str):(dictText ts).length<=piled ts+2:=by
 unfold dictText;rw[strLen_append,strLen_append];have e1:((("{" : String):Str)).length=1:=rfl;have e2:((("}" : String):Str)).length=1:=rfl;have:=join_le ts;omega
theorem xk{i:Int}(h:i.natAbs.log2<1920):(Str.ofString (toString i)).length<=2000:=by have e:=int_text_length_le (k:=1920) (by decide) h;rw[PySem.ofString_length];omega
theorem repr_len(h:gc z=true):(reprText z).length<=10 * z.length+2:=StrLaws.reprText_len z λ c hc=>by
 have:=Array.all_eq_true_iff_forall_mem.mp h c (by simpa using hc);have h2:c<128:=by simpa using this
 omega
mutual
theorem shown_le:∀ d:PyData,eP d=true->d.shown.length<=big d
 | .none,_=>by rw[PyData.shown];decide +kernel
 | .bool b,_=>by rw[PyData.shown];cases b<;>decide +kernel
 | .int i,h=>by rw[PyData.shown];exact xk (by simpa [eP] using h)
 | .str z,h=>by rw[PyData.shown,big];exact repr_len (by simpa [eP] using h)
 | .list ds,h=>by have h1:=i7 ds (by simpa [eP] using h);have h2:=nQ (PyData.shownAll ds);rw[PyData.shown,big];omega
 | .tuple ds,h=>by have h1:=i7 ds (by simpa [eP] using h);have h2:=mB (PyData.shownAll ds);rw[PyData.shown,big];omega
 | .dict ds,h=>by have h1:=mv ds (by simpa [eP] using h);have h2:=ng (PyData.shownKv ds);rw[PyData.shown,big];omega
theorem i7:∀ ds:List PyData,jD ds=true->piled (PyData.shownAll ds)<=sW ds
 | [],_=>by simp[PyData.shownAll,piled,sW]
 | d::ds,h=>by simp only[jD,Bool.and_eq_true] at h;have h1:=shown_le d h.1;have h2:=i7 ds h.2;simp only[PyData.shownAll,piled_cons,sW];omega
theorem mv:∀ ds:List (PyData×PyData),pS ds=true->piled (PyData.shownKv ds)<=aaM ds
 | [],_=>by simp[PyData.shownKv,piled,aaM]
 | (k,d)::ds,h=>by simp only[pS,Bool.and_eq_true] at h;have h1:=shown_le k h.1.1;have h3:=shown_le d h.1.2;have h2:=mv ds h.2;have e:((((": " : String):Str))).length=2:=rfl;simp only[PyData.shownKv,piled_cons,aaM,strLen_append,e];omega
end
mutual
theorem gP:∀ d:PyData,eP d=true->d.showable=true
 | .none,_=>by simp[PyData.showable]
 | .bool b,_=>by simp[PyData.showable]
 | .int i,h=>by simpa [PyData.showable,eP] using h
 | .str z,h=>by simp[PyData.showable]
 | .list ds,h=>by simpa [PyData.showable] using gW ds (by simpa [eP] using h)
 | .tuple ds,h=>by simpa [PyData.showable] using gW ds (by simpa [eP] using h)
 | .dict ds,h=>by simpa [PyData.showable] using jT ds (by simpa [eP] using h)
theorem gW:∀ ds:List PyData,jD ds=true->PyData.showableAll ds=true
 | [],_=>by simp[PyData.showableAll]
 | d::ds,h=>by simp only[jD,Bool.and_eq_true] at h;simp[PyData.showableAll,gP d h.1,gW ds h.2]
theorem jT:∀ ds:List (PyData×PyData),pS ds=true->PyData.showableKv ds=true
 | [],_=>by simp[PyData.showableKv]
 | (k,d)::ds,h=>by simp only[pS,Bool.and_eq_true] at h;simp[PyData.showableKv,gP k h.1.1,gP d h.1.2,jT ds h.2]
end
theorem s16:(1000000:Nat)<=sizeLine:=by rw[sizeLine_eq];decide
theorem xF(h:eP d=true)(hb:big d<=1000000)(hd:d.depth<=60)(hk:d.hasDict=false):eS d=true:=by have h1:=gP d h;have h2:=shown_le d h;have h3:=s16;simp only[eS,h1,Bool.true_and,Bool.and_eq_true,decide_eq_true_eq,Bool.or_eq_true,Bool.not_eq_true'];exact⟨⟨by omega,hd⟩,.inl hk⟩
end D
namespace D
open L2
def Asc(z:Str):Prop:=∀ c∈z.cps.toList,c<128
theorem str_len(z:Str):z.cps.toList.length=z.length:=by simp[Str.length]
theorem xP(h:z.cps.all (·<128)=true):Asc z:=by
 intro c hc;have:=Array.all_eq_true_iff_forall_mem.mp h c (by simpa using hc)
 simpa using this
theorem log2_small(h:n<2 ^ 100):n.log2<1920:=by
 by_cases h0:n=0
 ·subst h0;decide
 ·exact Nat.lt_of_lt_of_le ((Nat.log2_lt h0).mpr h) (by decide)
theorem few(h:n<=1000):n<=sizeLine:=by have:=s16;omega
theorem Inv.swap(I:Inv X pins σ H s)(h:H a=some u)(n1:∀ xs,u ≠ .tup xs)(n2:∀ x,u ≠ .own x)(b1:∀ xs,X.H₀ a≠some (.tup xs))(b2:∀ o v,X.H₀ a≠some (.frz o v))(b3:∀ ps,X.H₀ a≠some (.tbl ps))
  (new:cM X.prog X.w (upd H a u') s.heap a u'):Inv X pins σ (upd H a u') s:=by
 have nn:∀ b,H b=none->b≠a:=λ b e z=>by rw[z,h] at e;cases e
 refine⟨I.ok,I.os,I.bare,⟨I.base.keep,I.base.slot,λ b ob q n x=>?_,I.base.there,λ b xs q=>?_,λ b ob v q=>?_,λ b ps q=>?_⟩,I.loc,I.cell,?_,λ x c q=>?_,λ p hp=>?_,λ b v q=>?_,I.len⟩
 ·have:=I.base.free b ob q n x;rw[aj (nn b this)];exact this
 ·rw[aj (λ z:b=a=>b1 xs (by rw[<- z];exact q))];exact I.base.tups b xs q
 ·rw[aj (λ z:b=a=>b2 ob v (by rw[<- z];exact q))];exact I.base.frzs b ob v q
 ·rw[aj (λ z:b=a=>b3 ps (by rw[<- z];exact q))];exact I.base.tbls b ps q
 ·rw[aj (nn _ I.free)];exact I.free
 ·have:=I.freeC x c q;rw[aj (nn c this)];exact this
 ·obtain⟨p1,p2,p3⟩:=I.pin p hp;exact⟨p1,by rw[aj (nn _ p2)];exact p2,p3⟩
 ·by_cases hb:b=a
  ·subst hb;rw[aq] at q;cases q;exact new
  ·rw[aj hb] at q;refine(I.hok b v q).qV (λ _ _ _ q=>q) (λ c r=>?_) λ c xs r=>?_
   ·rw[aj (λ z=>by rw[z,h] at r;exact n2 _ (Option.some.inj r))];exact r
   ·rw[aj (λ z=>by rw[z,h] at r;exact n1 _ (Option.some.inj r))];exact r
theorem hE(I:Inv X pins σ H s)(h:H a=some (.dK l)):(∀ xs,X.H₀ a≠some (.tup xs))/\(∀ o v,X.H₀ a≠some (.frz o v))/\∀ ps,X.H₀ a≠some (.tbl ps):=by
 refine⟨λ xs e=>?_,λ o v e=>?_,λ ps e=>?_⟩
 ·have:=I.base.tups a xs e;rw[h] at this;cases this
 ·have:=I.base.frzs a o v e;rw[h] at this;cases this
 ·obtain⟨m,this⟩:=I.base.tbls a ps e;rw[h] at this;cases this
theorem Inv.acU(I:Inv X pins σ H s)(h:H a=some (.dK l)):∃ o,Inv X pins σ (upd H a (.frz o (.frz o (.dK l)))) s:=by have f:Fz (.dK l):=trivial;obtain⟨o,ho⟩:=(I.hok a _ h).obj f;obtain⟨b1,b2,b3⟩:=hE I h;exact⟨o,Inv.swap I h (λ _ z=>nomatch z) (λ _ z=>nomatch z) b1 b2 b3 ⟨ho,ho,(I.hok a _ h).abg f⟩⟩
theorem Inv.again(I0:Inv X pins σ0 H0 s0)(h0:H0 a=some (.dK l))(I:Inv X pins σ H s)(h:H a=some (.frz o (.frz o (.dK l)))):Inv X pins σ (upd H a (.dK l)) s:=by have f:Fz (.dK l):=trivial;obtain⟨b1,b2,b3⟩:=hE I0 h0;exact Inv.swap I h (λ _ z=>nomatch z) (λ _ z=>nomatch z) b1 b2 b3 ((I.hok a _ h).2.2.abg f)
section
variable {K:FG}{H:Hp}{a:Addr}{o:Obj}{l:List (Key×V)}
theorem Kp.back(h:H a=some (.frz o (.frz o (.dK l)))):(∀ b xs,H b=some (.tup xs)->upd H a (.dK l) b=some (.tup xs))/\(∀ b ob ys,H b=some (.frz ob (.lst ys))->upd H a (.dK l) b=some (.frz ob (.lst ys)))/\∀ b ob ys,H b=some (.frz ob (.dK ys))->upd H a (.dK l) b=some (.frz ob (.dK ys)):=by
 refine⟨λ b xs e=>?_,λ b ob ys e=>?_,λ b ob ys e=>?_⟩<;>
 ·rw[aj (λ z=>by rw[z,h] at e;cases e)];exact e
theorem SqT.back(h:H a=some (.frz o (.frz o (.dK l))))(r:SqT K H b vs):SqT K (upd H a (.dK l)) b vs:=by
 rcases r with (r | ⟨ob,r⟩) | r
 ·exact .inl (.inl ((Kp.back h).1 _ _ r))
 ·refine .inl (.inr ⟨ob,?_⟩);rw[aj (λ z=>by rw[z,h] at r;cases r)];exact r
 ·exact .inr r
theorem SqF.back(h:H a=some (.frz o (.frz o (.dK l))))(r:SqF K H b vs):SqF K (upd H a (.dK l)) b vs:=by
 rcases r with ⟨ob,r⟩ | r
 ·exact .inl ⟨ob,(Kp.back h).2.1 _ _ _ r⟩
 ·exact .inr r
mutual
theorem ax.back(h:H a=some (.frz o (.frz o (.dK l)))):∀ {d:PyData} {v:V},ax K H d v->ax K (upd H a (.dK l)) d v
 | .none,v,r=>by simp only[ax] at r ⊢;exact r
 | .bool b,v,r=>by simp only[ax] at r ⊢;exact r
 | .int i,v,r=>by simp only[ax] at r ⊢;exact r
 | .str x,v,r=>by simp only[ax] at r ⊢;exact r
 | .list ds,v,r=>by simp only[ax] at r ⊢;obtain⟨b,vs,e,q,r⟩:=r;exact⟨b,vs,e,SqF.back h q,aS.back h r⟩
 | .tuple ds,v,r=>by simp only[ax] at r ⊢;obtain⟨b,vs,e,q,r⟩:=r;exact⟨b,vs,e,SqT.back h q,aS.back h r⟩
 | .dict kvs,v,r=>by simp only[ax] at r ⊢;obtain⟨b,ob,m,e,q,r⟩:=r;exact⟨b,ob,m,e,(Kp.back h).2.2 _ _ _ q,gn.back h r⟩
theorem aS.back(h:H a=some (.frz o (.frz o (.dK l)))):∀ {ds:List PyData} {vs:List V},aS K H ds vs->aS K (upd H a (.dK l)) ds vs
 | [],vs,r=>by simp only[aS] at r ⊢;exact r
 | d::ds,vs,r=>by simp only[aS] at r ⊢;obtain⟨v,q,e,h1,h2⟩:=r;exact⟨v,q,e,ax.back h h1,aS.back h h2⟩
theorem gn.back(h:H a=some (.frz o (.frz o (.dK l)))):∀ {ds:List (PyData×PyData)} {m:List (Key×V)},gn K H ds m->gn K (upd H a (.dK l)) ds m
 | [],m,r=>by simp only[gn] at r ⊢;exact r
 | (key,d)::ds,m,r=>by simp only[gn] at r ⊢;obtain⟨k',v,q,e,ek,h1,h2⟩:=r;exact⟨k',v,q,e,ek,ax.back h h1,gn.back h h2⟩
end
theorem aC.back(h:H a=some (.frz o (.frz o (.dK l)))):∀ {w:W} {v:V},aC K H w v->aC K (upd H a (.dK l)) w v
 | .d _,_,r=>ax.back h r
 | .m _,_,r=>r
 | .t _,_,r=>r
theorem cO.back(h:H a=some (.frz o (.frz o (.dK l))))(m:cO K H M)(e:M a=some (.fdic kvs)):cO K (upd H a (.dK l)) (ba M a (.dic kvs)):=λ b mo q=>by
 by_cases hb:b=a
 ·subst hb;rw[ag] at q;cases q;obtain⟨o',l',e',pr⟩:=m _ _ e;rw[h] at e';cases e';exact⟨l,aq,Paired.fM pr λ p q z=>⟨z.1,aC.back h z.2⟩⟩
 ·rw[aw hb] at q;have r:=m b mo q;cases mo with
  | lst ws=>obtain⟨vs,e,r⟩:=r;exact⟨vs,by rw[aj hb];exact e,Paired.fM r λ _ _ z=>aC.back h z⟩
  | dic kvs=>obtain⟨l,e,r⟩:=r;exact⟨l,by rw[aj hb];exact e,Paired.fM r λ p q z=>⟨z.1,aC.back h z.2⟩⟩
  | dct kvs=>obtain⟨l,e,r⟩:=r;exact⟨l,by rw[aj hb];exact e,Paired.fM r λ p q z=>⟨z.1,aC.back h z.2⟩⟩
  | fdic kvs=>obtain⟨o,l,e,r⟩:=r;exact⟨o,l,by rw[aj hb];exact e,Paired.fM r λ p q z=>⟨z.1,aC.back h z.2⟩⟩
  | ins C fs=>obtain⟨dx,l,e,r⟩:=r;exact⟨dx,l,by rw[aj hb];exact e,Paired.fM r λ p q z=>⟨z.1,aC.back h z.2⟩⟩
  | tup ws=>obtain⟨vs,e,r⟩:=r;exact⟨vs,by rw[aj hb];exact e,Paired.fM r λ _ _ z=>aC.back h z⟩
  | flst ws=>obtain⟨o,vs,e,r⟩:=r;exact⟨o,vs,by rw[aj hb];exact e,Paired.fM r λ _ _ z=>aC.back h z⟩
  | exc C fs =>
   obtain⟨φ,dct,e,p,r⟩:=r;refine⟨φ,dct,by rw[aj hb];exact e,p,?_⟩;rcases r with r | ⟨dx,o',l',e1,e2,r⟩
   ·exact .inl r
   ·exact .inr ⟨dx,o',l',e1,by rw[aj (λ z=>by rw[z,h] at e2;cases e2)];exact e2,Paired.fM r λ p q z=>⟨z.1,aC.back h z.2⟩⟩
  | code q pos =>
   obtain⟨ps,e,ht,hc⟩:=r;refine⟨ps,by rw[aj hb];exact e,ht,?_⟩;rcases hc with hc | ⟨c,o',vs,t,e1,e2,e3⟩
   ·exact .inl hc
   ·exact .inr ⟨c,o',vs,t,e1,by rw[aj (λ z=>by rw[z,h] at e2;cases e2)];exact e2,e3⟩
end
end D
namespace D
open L2
abbrev oh(o:Obj)(l:List (Key×V)):HO:=.frz o (.frz o (.dK l))
theorem kN{P:Program}{w:World}{H:Hp}{h:Heap}{a:Addr}{o:Obj}{l:List (Key×V)}(ok:HOk P w H h)(e:H a=some (oh o l)):(a==sysModules)=false/\∃ vs es ep,KV l vs/\o.data=.dict es ep/\h.DictAt (aQ P w) a vs ep:=by obtain⟨ho,_,z,hd,vs,rel,o',es,ep,h1,h2,h3,h4⟩:=ok a _ e;rw[ho] at h1;cases h1;exact⟨hd,vs,es,ep,rel,h3,o,es,ho,h2,h3,h4⟩
def Itk(a:Addr)(o:Obj)(l:List (Key×V)):It:=
 ⟨λ i H=>H a=some (oh o l)/\i<l.length,λ i H x H'=>H'=H/\∃ kv,l[i]? =some kv/\x=kV kv.1,λ i H=>H a=some (oh o l)/\l.length<=i⟩
theorem ada{κ:Type}[DecidableEq κ]{l:List (κ×V)}{vs:List (κ×Value)}(r:KV l vs){i:Nat}(h:i<l.length):∃ kv k v,l[i]? =some kv/\vs[i]? =some (k,v)/\kv.1=k/\RelV kv.2 v:=by
 unfold KV at r
 induction r generalizing i with
 | nil=>simp at h
 | @cons p q ps qs hp t ih =>
  cases i with
  | zero=>exact⟨p,q.1,q.2,rfl,rfl,hp.1,hp.2⟩
  | succ i =>
   obtain⟨kv,k,v,e1,e2,e3,e4⟩:=ih (i:=i) (by simpa using h);exact⟨kv,k,v,by simpa using e1,by simpa using e2,e3,e4⟩
theorem aas{P:Program}{w:World}{k:Key}{u:Value}(h:(aQ P w).is k u=true):RelV (kV k) u:=by
 cases k with
 | inl i =>
  have h':Value.isInt i u=true:=h;unfold Value.isInt at h'
  split at h'
  ·rename_i j t
   have:j=i:=by simpa using h'
   subst this;exact⟨t,rfl⟩
  ·cases h'
 | inr x =>
  have h':Value.isStrOf x u=true:=h;unfold Value.isStrOf at h'
  split at h'
  ·rename_i j t
   have:j=x:=by simpa using h'
   subst this;exact⟨t,rfl⟩
  ·cases h'
theorem qf{P:Program}{w:World}{K:FG}{tg:Expr}(a it:Addr)(o:Obj)(l:List (Key×V))(es:Array DictEntry)(ep:Nat)(ho:o.data=.dict es ep) :
  Turn P w K tg (Itk a o l) [it] it (λ i h=>h.IsKeyIter it a i l.length ep) where
 mem:=by simp
 obj:=λ i h st b hb=>by
  have e:b=it:=by simpa using hb
  subst e;obtain⟨o,e,c,d⟩:=st;exact⟨o,e,λ v z=>by rw[d] at z;cases z⟩
 keep:=λ i h h' ⟨o,e,c,d⟩ k=>⟨o,k it (by simp) _ e,c,d⟩
 item:=by intro X hP hw hK hc i pins s σ H E I hf st ⟨hg,hi⟩;subst hP hw hK;obtain⟨f0,f1,f2,f3,f4,f5⟩:=hf it (by simp);obtain⟨hd,vs,es',ep',rel,ho',da⟩:=kN I.hok hg;rw[ho] at ho';cases ho';obtain⟨kv,k,v,e1,e2,e3,e4⟩:=ada rel hi;have hl:l.length=vs.length:=rel.length;rw[hl] at st;refine wpAny_pyNext_dict_item st da e2 λ key h' hk st' sb=>?_;have I1:Inv X pins σ H {s with heap:=h'}:=I.turned (t':=s.toks) (λ b o hb e=>(sb.2 b hb).trans e) f0 f1 f3 f4 f5;obtain⟨ob,e,c,d⟩:=id st';exact⟨_,rfl,p9 (s:={s with heap:=h'}) e c d (by decide) ⟨kV kv.1,H,I1,by rw[e3];exact aas hk,⟨rfl,kv,e1,rfl⟩,by rw[hl];exact st',λ b hb=>(hf b hb).1⟩⟩
 done:=by intro X hP hw hK hc i pins s σ H E I hf st ⟨hg,hi⟩;subst hP hw hK;obtain⟨f0,f1,f2,f3,f4,f5⟩:=hf it (by simp);obtain⟨hd,vs,es',ep',rel,ho',da⟩:=kN I.hok hg;rw[ho] at ho';cases ho';have hl:l.length=vs.length:=rel.length;rw[hl] at st hi;exact wpAny_pyNext_dict_end (I.ok.hd hc) st da (List.getElem?_eq_none hi) λ h' eb=>⟨rfl,I.turned (t':=s.toks) (λ b o hb e=>eb b o hb e) f0 f1 f3 f4 f5⟩
 self:=λ _ _ _ _ _ st h=>wpAny_pyIter_keyiter st h
def abr(td:TE):TI:=λ σ H R=>td σ H λ x H1=>∃ a o l,x=.ref a/\H1 a=some (oh o l)/\R (Itk a o l) H1
theorem ph(ho:PE X o td):PI X tg o (abr td):=by
 intro pins s σ H R I h;refine thn (ho pins s σ H _ I h) λ v s1 hq69=>?_;obtain⟨x,H1,I1,r1,a,ob,l,ex,hg,q⟩:=hq69;subst ex;cases r1;obtain⟨hd,vs,es,ep,rel,hdat,da⟩:=kN I1.hok hg;refine wpAny_pyIter_dict hd da ?_;refine⟨_,[_],_,_,H1,rfl,I1.kept (t':=s1.toks) λ b o e=>Heap.get?_push_of_some _ e,qf a _ ob l es ep hdat,⟨_,Heap.get?_push_size _ rfl,rfl,?_⟩,λ b hb=>?_,q⟩
 ·rw[rel.length];rfl
 ·rw[List.mem_singleton] at hb;rw[hb];exact I1.qo (Nat.le_refl _) (I1.hok.fresh (Nat.le_refl _))
section
variable {X:Cx}{K:FG}{tg o:Expr}{apos cpos:Pos}{td:TD}
def dW(kds:List (Key×PyData)):List W:=kds.map λ p=>kW p.1
def cg(kds:List (Key×PyData)):List (Key×W):=kds.map λ p=>(p.1,.d p.2)
theorem wx{H:Hp}:∀ {kds:List (Key×PyData)} {l:List (Key×V)},Paired (λ(p:Key×W) (q:Key×V)=>p.1=q.1/\aC K H p.2 q.2) (cg kds) l->l.length=kds.length/\∀ (i:Nat) kv,l[i]? =some kv->∃ p,kds[i]? =some p/\p.1=kv.1/\ax K H p.2 kv.2
 | [],l,h=>by
  cases h;exact⟨rfl,λ i kv e=>by simp at e⟩
 | p::kds,l,h=>by
  cases h with
  | cons r t =>
   obtain⟨h1,h2⟩:=wx t;refine⟨by simp[h1],λ i kv e=>?_⟩;cases i with
   | zero =>
    simp at e;subst e;exact⟨p,rfl,r.1,r.2⟩
   | succ i =>
    obtain⟨p',e1,e2⟩:=h2 i kv (by simpa using e);exact⟨p',by simpa using e1,e2⟩
def ju(td:TD)(τ:DS)(M:MH)(R:List W->MH->Prop):Prop:=td τ M λ w M1=>∃ a kds,w=.m a/\M1 a=some (.fdic (cg kds))/\R (dW kds) M1
theorem sm(ho:PD X o td):PId X tg o (ju td):=abz (ph ho) λ σ H R hq70=>by
 obtain⟨τ,M,Rd,A,h,k⟩:=hq70;refine⟨τ,M,_,A,h,λ v H1 w M1 kp r m hq71=>?_⟩;obtain⟨a,kds,ew,hm,q⟩:=hq71;subst ew;obtain⟨ob,l,e,pr⟩:=m _ _ hm;obtain⟨hlen,hget⟩:=wx pr;refine⟨a,ob,l,r,e,k _ H1 _ M1 kp m (λ H2 kp2 i=>?_) q⟩;have hlw:(dW kds).length=l.length:=by rw[hlen];simp[dW]
 have e2:=kp2.frz a ob _ e;refine⟨λ hi=>⟨e2,by omega⟩,λ hi=>⟨e2,by omega⟩,λ x H' hi hq72=>?_⟩;obtain⟨eH,kv,hkv,ex⟩:=hq72;subst ex eH;obtain⟨p,e3,e4,e5⟩:=hget i kv hkv;refine⟨Kp.refl _,λ M m=>m,kW p.1,by simp[dW,e3],?_⟩;rw[e4];cases kv.1<;>simp[kW,oq,kV,aC,ax]
end
theorem lx:∀ {zs:List Str} {its:List Value},StrsAre its zs->Vals (zs.map V.str) its
 | _,_,.nil=>.nil
 | _,_,.cons y t h=>.cons ⟨t,rfl⟩ (lx h)
theorem qU:bootBuiltins "sorted" = some (.builtin "sorted"):=by decide +kernel
section
variable {X:Cx}{K:FG}
theorem lQ{H:Hp}:∀ (zs:List Str),bz K H (gU zs) (zs.map V.str)
 | []=>.nil
 | z::zs=>.cons (by simp[aC,ax]) (lQ zs)
end
section
variable {X:Cx}{K:FG}
end
theorem d9(ho:Jd (PD X o td)):Jd (PId X tg o (ju td)):=⟨D.sm (ho:=ho.h)⟩
end D
namespace S
open PySem PySem.W PyProof.Rows
def Shape:List Bool->List PyData->Prop
 | [],[]=>True
 | true::bs,d::ds=>(∃ x,d=.str x)/\Shape bs ds
 | false::bs,d::ds=>(∃ i,d=.int i)/\Shape bs ds
 | _,_=>False
def sEq:PyData->PyData->Bool
 | .int x,.int y=>x==y
 | .str x,.str y=>x==y
 | _,_=>false
def sLt:PyData->PyData->Bool
 | .int x,.int y=>decide (x<y)
 | .str x,.str y=>decide (x.cps.toList<y.cps.toList)
 | _,_=>false
def bH:List PyData->List PyData->Bool
 | a::as,b::bs=>if sEq a b=true then bH as bs else sLt a b
 | [],_::_=>true
 | _,_=>false
theorem zx{x y:Str}(h:x.cps.toList=y.cps.toList):x=y:=by
 cases x;cases y;simp only[Str.mk.injEq];exact Array.toList_inj.mp h
theorem fi:∀ (xs:List PyData) {sh:List Bool},Shape sh xs->bH xs xs=false
 | [],_,_=>rfl
 | a::as,true::sh,h=>by obtain⟨⟨x,rfl⟩,h⟩:=h;simp[bH,sEq,fi as h]
 | a::as,false::sh,h=>by obtain⟨⟨x,rfl⟩,h⟩:=h;simp[bH,sEq,fi as h]
 | _::_,[],h=>by cases h
theorem c6(ha:Shape (t::sh) (a::as))(hb:Shape (t::sh) (b::bs)) :
  Shape sh as/\Shape sh bs/\((a=b/\bH (a::as) (b::bs)=bH as bs)\/(a≠b/\sLt a b=true/\sLt b a=false/\bH (a::as) (b::bs)=true)\/(a≠b/\sLt a b=false/\sLt b a=true/\bH (a::as) (b::bs)=false)):=by
 cases t with
 | true =>
  obtain⟨⟨x,rfl⟩,h⟩:=ha;obtain⟨⟨y,rfl⟩,h'⟩:=hb;refine⟨h,h',?_⟩
  by_cases e:x=y
  ·subst e;exact .inl ⟨rfl,by simp[bH,sEq]⟩
  ·have ne:PyData.str x≠PyData.str y:=λ z=>e (by injection z);have e2:sEq (.str x) (.str y)=false:=by simp[sEq,e]
   have hl:bH (.str x::as) (.str y::bs)=sLt (.str x) (.str y):=by simp[bH,e2]
   rw[hl];have nl:x.cps.toList≠y.cps.toList:=λ z=>e (zx z);simp only[sLt]
   by_cases q:x.cps.toList<y.cps.toList
   ·have:¬ y.cps.toList<x.cps.toList:=λ z=>List.lt_irrefl _ (List.lt_trans q z);exact .inr (.inl ⟨ne,by simp[q],by simp[this],by simp[q]⟩)
   ·have:y.cps.toList<x.cps.toList:=by
     apply Classical.byContradiction;intro z;exact nl (List.le_antisymm (List.not_lt.mp z) (List.not_lt.mp q))
    exact .inr (.inr ⟨ne,by simp[q],by simp[this],by simp[q]⟩)
 | false =>
  obtain⟨⟨x,rfl⟩,h⟩:=ha;obtain⟨⟨y,rfl⟩,h'⟩:=hb;refine⟨h,h',?_⟩
  by_cases e:x=y
  ·subst e;exact .inl ⟨rfl,by simp[bH,sEq]⟩
  ·have ne:PyData.int x≠PyData.int y:=λ z=>e (by injection z);have e2:sEq (.int x) (.int y)=false:=by simp[sEq,e]
   have hl:bH (.int x::as) (.int y::bs)=sLt (.int x) (.int y):=by simp[bH,e2]
   rw[hl];simp only[sLt]
   by_cases q:x<y
   ·exact .inr (.inl ⟨ne,by simp[q],by simp;omega,by simp[q]⟩)
   ·exact .inr (.inr ⟨ne,by simp[q],by simp;omega,by simp[q]⟩)
theorem aaC(ha:Shape (t::sh) (a::as))(hb:Shape (t::sh) (b::bs))(hc:Shape (t::sh) (c::cs))(h1:sLt a b=true)(h2:sLt b c=true):sLt a c=true:=by
 cases t with
 | true =>
  obtain⟨⟨x,rfl⟩,_⟩:=ha;obtain⟨⟨y,rfl⟩,_⟩:=hb;obtain⟨⟨z,rfl⟩,_⟩:=hc;simp only[sLt,decide_eq_true_eq] at *;exact List.lt_trans h1 h2
 | false =>
  obtain⟨⟨x,rfl⟩,_⟩:=ha;obtain⟨⟨y,rfl⟩,_⟩:=hb;obtain⟨⟨z,rfl⟩,_⟩:=hc;simp only[sLt,decide_eq_true_eq] at *;omega
theorem gr:∀ {sh:List Bool} {xs ys:List PyData},Shape sh xs->Shape sh ys->bH xs ys=true->bH ys xs=false
 | [],[],[],_,_,h=>by simp[bH] at h
 | t::sh,a::as,b::bs,ha,hb,h=>by
  obtain⟨h1,h2,c⟩:=c6 ha hb;obtain⟨_,_,c'⟩:=c6 hb ha;rcases c with ⟨e,l⟩ | ⟨ne,l1,l2,l⟩ | ⟨ne,l1,l2,l⟩
  ·subst e;rcases c' with ⟨_,l'⟩ | ⟨ne,_⟩ | ⟨ne,_⟩
   ·rw[l'];rw[l] at h;exact gr h1 h2 h
   ·exact absurd rfl ne
   ·exact absurd rfl ne
  ·rcases c' with ⟨e,_⟩ | ⟨_,l3,_,_⟩ | ⟨_,_,_,l'⟩
   ·exact absurd e.symm ne
   ·rw[l2] at l3;cases l3
   ·exact l'
  ·rw[l] at h;cases h
 | [],a::as,_,h,_,_=>by cases h
 | [],[],b::bs,_,h,_=>by cases h
 | t::sh,[],_,h,_,_=>by cases t<;>cases h
 | t::sh,a::as,[],_,h,_=>by cases t<;>cases h
theorem gm:∀ {sh:List Bool} {xs ys:List PyData},Shape sh xs->Shape sh ys->bH xs ys=false->bH ys xs=false->xs=ys
 | [],[],[],_,_,_,_=>rfl
 | t::sh,a::as,b::bs,ha,hb,h,h'=>by
  obtain⟨h1,h2,c⟩:=c6 ha hb;obtain⟨_,_,c'⟩:=c6 hb ha;rcases c with ⟨e,l⟩ | ⟨ne,l1,l2,l⟩ | ⟨ne,l1,l2,l⟩
  ·subst e;rcases c' with ⟨_,l'⟩ | ⟨ne,_⟩ | ⟨ne,_⟩
   ·rw[l'] at h';rw[l] at h;rw[gm h1 h2 h h']
   ·exact absurd rfl ne
   ·exact absurd rfl ne
  ·rw[l] at h;cases h
  ·rcases c' with ⟨e,_⟩ | ⟨_,_,_,l'⟩ | ⟨_,l3,_,_⟩
   ·exact absurd e.symm ne
   ·rw[l'] at h';cases h'
   ·rw[l2] at l3;cases l3
 | [],a::as,_,h,_,_,_=>by cases h
 | [],[],b::bs,_,h,_,_=>by cases h
 | t::sh,[],_,h,_,_,_=>by cases t<;>cases h
 | t::sh,a::as,[],_,h,_,_=>by cases t<;>cases h
theorem wC:∀ {sh:List Bool} {xs ys zs:List PyData},Shape sh xs->Shape sh ys->Shape sh zs->bH xs ys=true->bH ys zs=true->bH xs zs=true
 | [],[],[],[],_,_,_,h,_=>by simp[bH] at h
 | t::sh,a::as,b::bs,c::cs,ha,hb,hc,h,h'=>by
  obtain⟨h1,h2,k1⟩:=c6 ha hb;obtain⟨_,h3,k2⟩:=c6 hb hc;obtain⟨_,_,k3⟩:=c6 ha hc;rcases k1 with ⟨e,l⟩ | ⟨ne,l1,l2,l⟩ | ⟨ne,l1,l2,l⟩
  ·subst e;rcases k2 with ⟨e,m⟩ | ⟨ne,m1,m2,m⟩ | ⟨ne,m1,m2,m⟩
   ·subst e;rcases k3 with ⟨_,n⟩ | ⟨ne,_⟩ | ⟨ne,_⟩
    ·rw[n];rw[l] at h;rw[m] at h';exact wC h1 h2 h3 h h'
    ·exact absurd rfl ne
    ·exact absurd rfl ne
   ·rcases k3 with ⟨e,_⟩ | ⟨_,_,_,n⟩ | ⟨_,n1,_,_⟩
    ·exact absurd e ne
    ·exact n
    ·rw[m1] at n1;cases n1
   ·rw[m] at h';cases h'
  ·rcases k2 with ⟨e,m⟩ | ⟨ne',m1,m2,m⟩ | ⟨ne',m1,m2,m⟩
   ·subst e;rcases k3 with ⟨e,_⟩ | ⟨_,_,_,n⟩ | ⟨_,n1,_,_⟩
    ·exact absurd e ne
    ·exact n
    ·rw[l1] at n1;cases n1
   ·have q:=aaC ha hb hc l1 m1;rcases k3 with ⟨e,_⟩ | ⟨_,_,_,n⟩ | ⟨_,n1,_,_⟩
    ·subst e;rw[l2] at m1;cases m1
    ·exact n
    ·rw[q] at n1;cases n1
   ·rw[m] at h';cases h'
  ·rw[l] at h;cases h
 | [],a::as,_,_,h,_,_,_,_=>by cases h
 | [],[],b::bs,_,_,h,_,_,_=>by cases h
 | [],[],[],c::cs,_,_,h,_,_=>by cases h
 | t::sh,[],_,_,h,_,_,_,_=>by cases t<;>cases h
 | t::sh,a::as,[],_,_,h,_,_,_=>by cases t<;>cases h
 | t::sh,a::as,b::bs,[],_,_,h,_,_=>by cases t<;>cases h
theorem dr(hx:Shape sh xs)(hy:Shape sh ys)(hz:Shape sh zs)(h:bH ys xs=false)(h':bH zs ys=false):bH zs xs=false:=by
 cases e:bH zs xs with
 | false=>rfl
 | true =>
  cases e2:bH xs ys with
  | true=>have:=wC hz hx hy e e2;rw[h'] at this;cases this
  | false =>
   have:=gm hx hy e2 h;subst this;rw[h'] at e;cases e
end S
namespace D
open L2 S
section
variable {K:FG}
end
section
variable {X:Cx}{K:FG}
end
theorem aaW(x:cM P w H h a o):∃ ob,h.get? a=some ob:=by
 induction o with
 | lst xs=>obtain⟨_,_,_,_,e⟩:=x;exact⟨_,e⟩
 | tup xs=>obtain⟨_,_,_,ob,e,_⟩:=x;exact⟨_,e⟩
 | dK kvs=>obtain⟨_,_,_,_,o,_,_,e,_⟩:=x;exact⟨_,e⟩
 | dT kvs=>obtain⟨_,_,_,_,o,_,_,e,_⟩:=x;exact⟨_,e⟩
 | set S n=>obtain⟨o,_,_,_,e,_⟩:=x;exact⟨_,e⟩
 | ins C dx fs=>obtain⟨_,_,_,e,_⟩:=x;exact⟨_,e⟩
 | own y=>obtain⟨_,e⟩:=x;exact⟨_,e⟩
 | xd fs=>obtain⟨_,⟨_,_,_,e,_⟩,_⟩:=x;exact⟨_,e⟩
 | rng lo hi=>obtain⟨_,_,_,e⟩:=x;exact⟨_,e⟩
 | frz ob u ih=>obtain⟨e,_⟩:=x;exact⟨_,e⟩
 | tbl ps=>exact⟨_,show h.get? a=some _ from x⟩
 | met f y=>exact⟨_,show h.get? a=some _ from x⟩
 | ext φ=>obtain⟨_,⟨_,e⟩,_⟩:=x;exact⟨_,e⟩
theorem tE(x:HOk P w H h)(e:h.get? a=none):H a=none:=by
 cases q:H a with
 | none=>rfl
 | some u =>
  obtain⟨ob,z⟩:=aaW (x a u q);rw[e] at z;cases z
theorem Inv.adj(I:Inv X pins σ H s)(k:∀ b u,s.heap.get? b=some u->h'.get? b=some u)(hp:s.heap.get? a=none)(new:cM X.prog X.w (upd H a o) h' a o) :
  Inv X pins σ (upd H a o) {s with heap:=h',toks:=t'}:=by
 have hn:=tE I.hok hp;have ne:∀ b u,s.heap.get? b=some u->b≠a:=λ b u e z=>by rw[z,hp] at e;cases e
 refine I.un ⟨λ b ob e _ _ _=>k b ob e,λ b ob e _ _ _=>⟨ob.slots,k b ob e⟩,λ b ob e n _=>by rw[aj (ne b ob e)];exact n,λ b ob e _=>⟨ob,k b ob e⟩,λ b xs e=>by rw[aj (aE e hn)];exact e,λ b ob u e=>by rw[aj (aE e hn)];exact e,λ b ps e=>⟨#[],by rw[aj (aE e hn),e];simp⟩⟩ λ b u e=>?_
 by_cases hb:b=a
 ·subst hb;rw[aq] at e;cases e;exact new
 ·rw[aj hb] at e;exact(I.hok b u e).qV (λ c v _ q=>k c v q) (λ c q=>by rw[aj (aE q hn)];exact q) λ c xs q=>by rw[aj (aE q hn)];exact q
section
variable {X:Cx}{K:FG}
theorem mz:∀ {zs:List Str} {vs:List (Key×Value)} {us:List Value},vs.map (·.1)=zs.map Sum.inr->us.length=vs.length->(∀ (j:Nat) v,us[j]? =some v->∃ k x,vs[j]? =some (k,x)/\(aQ P w).is k v=true)->StrsAre us zs
 | [],vs,us,h,hl,hp=>by
  have e:vs=[]:=by simpa using h
  subst e;have e:us=[]:=by simpa using hl
  subst e;exact .nil
 | z::zs,vs,us,h,hl,hp=>by
  match vs,us,h,hl,hp with
  | (k,x)::vs,u::us,h,hl,hp =>
   simp only[List.map_cons,List.cons.injEq] at h;obtain⟨k',x',e,hk⟩:=hp 0 u rfl;simp at e;obtain⟨e1,e2⟩:=e;subst e1 e2;rw[h.1,qg] at hk;obtain⟨t,e⟩:∃ t,u=.str z t:=by
    rcases aW hk with ⟨i,t,e,_⟩ | ⟨y,t,e,e'⟩
    ·cases e
    ·cases e;exact⟨t,e'⟩
   subst e;exact .cons z t (mz h.2 (by simpa using hl) λ j v hj=>by simpa using hp (j+1) v (by simpa using hj))
  | [],_,h,_,_=>simp at h
  | _::_,[],_,hl,_=>simp at hl
theorem lN(hc:X.calm=true):eC X (.builtin "sorted") (λ xs H Q=>∃ a kvs zs,xs=[.ref a]/\Rd H a (.dK kvs)/\kvs.map (·.1)=zs.map Sum.inr/\zs.length<64/\∀ zs',zs'.Perm zs->sortedS zs'=true->∀ l,H l=none->Q (.ref l) (upd H l (.lst (zs'.map V.str)))):=by
 intro pins s σ H xs us Q I r h;obtain⟨a,kvs,zs,rfl,hq,hk,hz,q⟩:=h;obtain⟨u,rfl,rx⟩:=vals1 r;cases rx;obtain⟨hsz,hsys,vs,rel,o,es,ep,hd⟩:=hq.ok I.hok;have hvs:vs.map (·.1)=zs.map Sum.inr:=by
  rw[<- hk];clear hk hd hq hsz
  induction rel with
  | nil=>rfl
  | cons r t ih=>simp only[List.map_cons,ih,r.1]
 have hln:vs.length=zs.length:=by simpa using congrArg List.length hvs
 refine Calls.call_function_entry kind_sorted plain_sorted entry_sorted (args_sorted1 _) ?_;unfold Builtin.«sorted»;have at1:∀ (h':Heap) (l:List Value),(h'.push (seqObj "list" l.toArray 0)).get? h'.objs.size=some (seqObj "list" l.toArray 0):=λ h' l=>Heap.get?_push_size _ rfl;refine wpAny_bind (m:=checkCount "sorted" 1 1 _) (wpAny_pure (wpAny_bind (W.kdu_collect (A:=X.A.in1) (W.kdl_dict (knd:=aQ X.prog X.w) (kvs:=vs) (ep:=ep) hsys) (I.ok.hd hc) ⟨o,es,hd⟩ (by rw[sizeLine_eq];omega) λ h' tk acc old hacc=>?_)));have hla:acc.toList.length=vs.length:=by rw[Array.length_toList];exact hacc.1
 have hS:StrsAre acc.toList zs:=mz hvs hla λ j v hj=>hacc.2 j v (by rw[<- Array.getElem?_toList];exact hj);refine wpAny_bind (wpAny_newList ?_ (by rw[hla,sizeLine_eq];omega));refine wpAny_bind (wpAny_holding (wpAny_call_entry slot_list_sort ⟨_,at1 h' acc.toList,rfl⟩ entry_list_sort (list_sort_treeK strKind_oneLt (s:={s with heap:=h'.push (seqObj "list" acc.toList.toArray 0),toks:=tk}) (at1 h' acc.toList) hS.keysOf (λ v₁ v₂ rest e=>keyKind_strs (by rw[<- e];exact hS)) (by omega) λ st' hp hs=>⟨_,rfl,wpAny_pure ⟨_,rfl,?_⟩⟩) (args_list_sort _)));obtain⟨zs',h1,h2,h3⟩:=sorted_out_str hS hp hs;obtain⟨n,e⟩:=sortedHeap_at (h:=h'.push (seqObj "list" acc.toList.toArray 0)) (vs:=acc.toList) (out:=(arrOf st').map (·.2)) (at1 h' acc.toList);have hge:s.heap.get? h'.objs.size=none:=by
  cases q1:s.heap.get? h'.objs.size with
  | none=>rfl
  | some ob =>
   have:=Heap.lt_size (old _ _ q1);exact absurd this (Nat.lt_irrefl _)
 have keep:∀ b ob,s.heap.get? b=some ob->(sortedHeap (h'.push (seqObj "list" acc.toList.toArray 0)) h'.objs.size acc.toList ((arrOf st').map (·.2))).get? b=some ob:=λ b ob eb=>by have l1:b<h'.objs.size:=Heap.lt_size (old b ob eb);rw[sortedHeap_old (Nat.ne_of_lt l1) (by rw[size_push'];exact Nat.lt_succ_of_lt l1),Heap.get?_push_of_some _ (old b ob eb)]
 have I':Inv X pins σ (upd H h'.objs.size (.lst (zs'.map V.str))) {s with heap:=sortedHeap (h'.push (seqObj "list" acc.toList.toArray 0)) h'.objs.size acc.toList ((arrOf st').map (·.2)),toks:=tk}:=by refine Inv.adj I keep hge ⟨?_,((arrOf st').map (·.2)).toList,n,lx h1,by rw[Array.toArray_toList];exact e⟩;rw[List.length_map,h2.length_eq];have:=s16;omega
 exact⟨.ref _,_,I',rfl,q zs' h2 h3 _ (tE I.hok hge)⟩
def rE(ws:List W)(M:MH)(Q:QD):Prop:=∃ a kvs,∃ zs:List Str,ws=[.m a]/\M a=some (.dic kvs)/\kvs.map (·.1)=zs.map Sum.inr/\zs.length<64/\∀ zs',zs'.Perm zs->sortedS zs'=true->∀ p,M p=none->Q (.m p) (ba M p (.lst (gU zs')))
theorem va:eQ K (λ xs H Q=>∃ a kvs zs,xs=[.ref a]/\Rd H a (.dK kvs)/\kvs.map (·.1)=zs.map Sum.inr/\zs.length<64/\∀ zs',zs'.Perm zs->sortedS zs'=true->∀ l,H l=none->Q (.ref l) (upd H l (.lst (zs'.map V.str)))) rE:=by
 intro vs H ws M Qd Q r m ⟨a,kvs,zs,e,g,hk,hz,q⟩ k;subst e;obtain⟨v,e1,r1⟩:=eG r;have ev:v=.ref a:=r1;subst ev;have go:∀ l:List (Key×V),Rd H a (.dK l)->Paired (λ(p:Key×W) (q:Key×V)=>p.1=q.1/\aC K H p.2 q.2) kvs l->∃ a' kvs' zs',[V.ref a]=[.ref a']/\Rd H a' (.dK kvs')/\kvs'.map (·.1)=zs'.map Sum.inr/\zs'.length<64/\∀ zs'',zs''.Perm zs'->sortedS zs''=true->∀ l,H l=none->Q (.ref l) (upd H l (.lst (zs''.map V.str))):=by
  intro l hr pr;refine⟨a,l,zs,rfl,hr,?_,hz,λ zs' h1 h2 p hp=>?_⟩
  ·rw[<- hk];clear hk hr g q
   induction pr with
   | nil=>rfl
   | cons r t ih=>simp only[List.map_cons,ih,r.1]
  ·have kp:Kp H (upd H p (.lst (zs'.map V.str))):=Kp.new hp;exact k _ _ (.m p) _ kp rfl (m.put (mo:=.lst (gU zs')) kp ⟨_,aq,lQ zs'⟩) (q zs' h1 h2 p (m.free hp))
 subst e1;obtain⟨l,hl,pr⟩:=m _ _ g;exact go l (.inl hl) pr
def pj(w:W)(w':W)(M:MH)(Q:QD):Prop:=∃ xs ys,w=.d (.tuple xs)/\w'=.d (.tuple ys)/\xs≠[]/\xs.length+ys.length<=sizeLine/\Q (.d (.tuple (xs++ys))) M
theorem j8:OpD K (aal K) pj:=by
 intro x y H w w' M Qd Q r1 r2 m ⟨xs,ys,e1,e2,hne,hz,q⟩ k;subst e1 e2;simp only[aC,ax] at r1 r2;obtain⟨a,vs,ea,ha,ra⟩:=r1;obtain⟨b,us,eb,hb,rb⟩:=r2;have l1:=ra.length;have l2:=rb.length;refine⟨a,b,vs,us,ea,eb,ha,hb,λ z=>hne (by rw[z] at l1;simpa using l1.symm),by omega,λ z=>?_,λ z p hp=>?_⟩
 ·have e:ys=[]:=by rw[z] at l2;simpa using l2.symm
  subst e;rw[List.append_nil] at q;refine k _ _ (.d (.tuple xs)) M (Kp.refl _) ?_ m q;simp only[aC,ax];exact⟨a,vs,rfl,ha,ra⟩
 ·refine k _ _ (.d (.tuple (xs++ys))) M (Kp.new hp) ?_ (m.new hp) q;simp only[aC,ax];exact⟨p,_,rfl,.inl (.inl aq),(ra.append rb).keep (Kp.new hp)⟩
def isNone:W->Bool
 | .d .none=>true
 | _=>false
theorem pv(r:aC K H w v):decide (v=.non)=isNone w:=by
 cases w with
 | m a=>cases (show v=.ref a from r);rfl
 | t n=>cases (show v=.ty n from r);rfl
 | d x =>
  cases x<;>simp only[aC,ax] at r
  ·subst r;rfl
  ·subst r;rfl
  ·subst r;rfl
  ·subst r;rfl
  all_goals first
   | (obtain⟨a,vs,e,_⟩:=r;subst e;rfl)
   | (obtain⟨a,o,l,e,_⟩:=r;subst e;rfl)
def yV(neg:Bool)(w:W)(w':W)(M:MH)(Q:QD):Prop:=w'=.d .none/\Q (.d (.bool (xor neg (isNone w)))) M
theorem oQ:OpD K (λ x y H Q=>y=.non/\Q (.bl (!decide (x=.non))) H) (yV true):=by intro x y H w w' M Qd Q r1 r2 m ⟨e,q⟩ k;subst e;simp only[aC,ax] at r2;refine⟨r2,k _ _ (.d (.bool (!isNone w))) M (Kp.refl _) ?_ m (by simpa using q)⟩;rw[pv r1];simp[aC,ax]
end
theorem hZ:bootBuiltins "min" = some (.builtin "min"):=by decide +kernel
section
variable {X:Cx}{K:FG}
def w6(ws:List W)(M:MH)(Q:QD):Prop:=∃ i j,ws=[.d (.int i),.d (.int j)]/\Q (.d (.int (if j<i then j else i))) M
theorem xh:eQ K (λ xs H Q=>∃ i j,xs=[V.int i,V.int j]/\Q (V.int (if j<i then j else i)) H) w6:=by intro vs H ws M Qd Q r m ⟨i,j,e,q⟩ k;subst e;obtain⟨v,v',e1,r1,r2⟩:=qM r;simp only[aC,ax] at r1 r2;subst r1 r2;exact⟨i,j,e1,k _ H (.d (.int _)) M (Kp.refl H) (by simp[aC,ax]) m q⟩
end
end D
namespace Rc
open L2 D
section
variable {α:Type}(nm:α->Str)
def rk(g:α->PyData)(L:List α):List (Key×PyData):=L.map λ a=>(.inr (nm a),g a)
def fd(L:List α)(n:Str):Option α:=L.find? λ a=>decide (nm a=n)
def pt(L:List α)(z:α):List α:=match fd nm L (nm z) with
 | none=>L++[z]
 | some _=>L.map λ y=>if nm y=nm z then z else y
variable {nm}
theorem kA(b:α)(L:List α)(n:Str):fd nm (b::L) n=if nm b=n then some b else fd nm L n:=by
 by_cases e:nm b=n<;>simp[fd,List.find?_cons,e]
theorem fO(h:fd nm L n=some x):x∈L/\nm x=n:=by
 unfold fd at h;have h1:=List.find?_some h;exact⟨List.mem_of_find?_eq_some h,by simpa using h1⟩
theorem fd_none(h:fd nm L n=none):∀ b∈L,nm b≠n:=by
 unfold fd at h;intro b hb e;have:=List.find?_eq_none.mp h b hb;simp[e] at this
theorem xZ(g:α->PyData)(L:List α):cg (rk nm g L)=L.map λ b=>((.inr (nm b):Key),W.d (g b)):=by simp[cg,rk]
theorem ja(g:α->PyData):∀ (L:List α) (n:Str),hG (cg (rk nm g L)) (.inr n)=(fd nm L n).map λ b=>.d (g b):=by
 intro L n;rw[xZ]
 induction L with
 | nil=>rfl
 | cons b L ih =>
  rw[List.map_cons,f7,kA,ih]
  by_cases e:nm b=n
  ·simp[e]
  ·have e':¬ (Sum.inr (nm b):Key)=.inr n:=λ z=>e (Sum.inr.inj z);simp[e,e']
theorem zh(g:α->PyData)(L:List α)(z:α)(hn:nm z=n):qA (cg (rk nm g L)) (.inr n) (.d (g z))=cg (rk nm g (pt nm L z)):=by
 subst hn;unfold qA;rw[kQ,ja,xZ,xZ];unfold pt;cases e:fd nm L (nm z) with
 | none=>rw[if_neg (by simp)];simp
 | some x =>
  rw[if_pos (by rfl),List.map_map,List.map_map];refine List.map_congr_left λ b _=>?_
  by_cases e:nm b=nm z
  ·simp[e]
  ·have e':¬ (Sum.inr (nm b):Key)=.inr (nm z):=λ z=>e (Sum.inr.inj z);simp[e,e']
theorem oS(L:List α)(z:α):(pt nm L z).map nm=match fd nm L (nm z) with | none=>L.map nm++[nm z] | some _=>L.map nm:=by
 unfold pt;cases e:fd nm L (nm z) with
 | none=>simp
 | some x =>
  dsimp only;rw[List.map_map];refine List.map_congr_left λ b _=>?_
  by_cases e:nm b=nm z
  ·simp[e]
  ·simp[e]
theorem aaj(nd:(L.map nm).Nodup):((pt nm L z).map nm).Nodup:=by
 rw[oS];cases e:fd nm L (nm z) with
 | some x=>exact nd
 | none =>
  show(L.map nm++[nm z]).Nodup;rw[List.nodup_append];refine⟨nd,by simp,λ x hx y hy=>?_⟩;simp at hy;obtain⟨b,hb,rfl⟩:=List.mem_map.mp hx;rw[hy];exact fd_none e b hb
theorem acn(L:List α)(z:α)(n:Str):fd nm (pt nm L z) n=if nm z=n then some z else fd nm L n:=by
 unfold pt;cases e:fd nm L (nm z) with
 | none =>
  by_cases q:nm z=n
  ·rw[if_pos q,<- q];have:fd nm (L++[z]) (nm z)=some z:=by
    unfold fd at e ⊢;rw[List.find?_append,e];simp
   exact this
  ·rw[if_neg q];unfold fd;rw[List.find?_append];have:[z].find? (λ a=>decide (nm a=n))=none:=by simp[q]
   rw[this];simp
 | some x =>
  dsimp only;have main:∀ (L:List α),(∃ y∈L,nm y=nm z)\/nm z≠n->fd nm (L.map λ y=>if nm y=nm z then z else y) n=if nm z=n then some z else fd nm L n:=by
   intro L
   induction L with
   | nil =>
    intro h;rcases h with ⟨y,hy,_⟩ | h
    ·cases hy
    ·rw[if_neg h];rfl
   | cons y L ih =>
    intro h;rw[List.map_cons,kA,kA]
    by_cases q:nm y=nm z
    ·rw[if_pos q]
     by_cases r:nm z=n
     ·rw[if_pos r,if_pos r]
     ·rw[if_neg r,if_neg r,if_neg (λ e=>r (q ▸ e)),ih (.inr r),if_neg r]
    ·rw[if_neg q]
     by_cases r:nm z=n
     ·have ne:nm y≠n:=λ e=>q (e.trans r.symm);rw[if_neg ne,if_pos r,ih,if_pos r];rcases h with ⟨w,hw,e⟩ | h
      ·rcases List.mem_cons.mp hw with rfl | hw
       ·exact absurd e q
       ·exact .inl ⟨w,hw,e⟩
      ·exact .inr h
     ·by_cases t:nm y=n
      ·rw[if_pos t,if_neg r,if_pos t]
      ·rw[if_neg t,if_neg r,if_neg t,ih (.inr r),if_neg r]
  exact main L (.inl ⟨x,fO e⟩)
theorem xw(nd:(L.map nm).Nodup)(h:b∈L):fd nm L (nm b)=some b:=by
 induction L with
 | nil=>cases h
 | cons x L ih =>
  rw[List.map_cons,List.nodup_cons] at nd;rw[kA];rcases List.mem_cons.mp h with rfl | h
  ·rw[if_pos rfl]
  ·have:nm x≠nm b:=λ e=>nd.1 (List.mem_map.mpr ⟨b,h,e.symm⟩);rw[if_neg this];exact ih nd.2 h
end
mutual
def okD:Nat->PyData->Bool
 | _,.none=>true
 | _,.bool _=>true
 | _,.int i=>decide (i.natAbs<2 ^ 100)
 | _,.str z=>gc z
 | k+1,.list ds=>okA k ds
 | k+1,.tuple ds=>okA k ds
 | _,_=>false
def okA:Nat->List PyData->Bool
 | _,[]=>true
 | k,d::ds=>okD k d&&okA k ds
end
theorem cI:∀ {ds:List PyData},(∀ d∈ds,okD k d=true)->okA k ds=true
 | [],_=>by simp[okA]
 | d::ds,h=>by simp only[okA,Bool.and_eq_true];exact⟨h d (by simp),cI λ x hx=>h x (by simp[hx])⟩
theorem vO(h:gc z=true):Asc z:=xP h
theorem tm(h:Asc z):PyData.strOk z=true:=by
 unfold PyData.strOk;rw[Array.all_eq_true_iff_forall_mem];intro c hc;exact decide_eq_true (by have:=h c (by simpa using hc);omega)
theorem yO(h:gc z=true):PyData.strOk z=true:=tm (vO h)
mutual
theorem qR:∀ (k:Nat) (d:PyData),okD k d=true->eP d=true
 | _,.none,_=>rfl
 | _,.bool _,_=>rfl
 | _,.int i,h=>by
  cases ‹Nat› <;> simp only[okD,decide_eq_true_eq] at h<;>exact decide_eq_true (log2_small h)
 | _,.str z,h=>by
  cases ‹Nat› <;> simp only[okD] at h<;>exact h
 | k+1,.list ds,h=>by simp only[okD] at h;simp only[eP];exact k6 k ds h
 | k+1,.tuple ds,h=>by simp only[okD] at h;simp only[eP];exact k6 k ds h
 | 0,.list ds,h=>by simp[okD] at h
 | 0,.tuple ds,h=>by simp[okD] at h
 | k,.dict kvs,h=>by cases k<;>simp[okD] at h
theorem k6:∀ (k:Nat) (ds:List PyData),okA k ds=true->jD ds=true
 | _,[],_=>by simp[jD]
 | k,d::ds,h=>by simp only[okA,Bool.and_eq_true] at h;simp only[jD,qR k d h.1,k6 k ds h.2,Bool.and_self]
end
mutual
theorem t9:∀ (k:Nat) (d:PyData),okD k d=true->PyData.canLay0 d=true
 | _,.none,_=>by simp[PyData.canLay0]
 | _,.bool _,_=>by simp[PyData.canLay0]
 | _,.int i,h=>by simp[PyData.canLay0]
 | _,.str z,h=>by
  cases ‹Nat› <;> simp only[okD] at h<;>simp[PyData.canLay0,yO h]
 | k+1,.list ds,h=>by simp only[okD] at h;simp only[PyData.canLay0];exact mX k ds h
 | k+1,.tuple ds,h=>by simp only[okD] at h;simp only[PyData.canLay0];exact mX k ds h
 | 0,.list ds,h=>by simp[okD] at h
 | 0,.tuple ds,h=>by simp[okD] at h
 | k,.dict kvs,h=>by cases k<;>simp[okD] at h
theorem mX:∀ (k:Nat) (ds:List PyData),okA k ds=true->PyData.canLayAll0 ds=true
 | _,[],_=>by simp[PyData.canLayAll0]
 | k,d::ds,h=>by simp only[okA,Bool.and_eq_true] at h;simp only[PyData.canLayAll0,t9 k d h.1,mX k ds h.2,Bool.and_self]
end
mutual
theorem kU:∀ (k:Nat) (d:PyData),okD k d=true->PyData.depth d<=k+1
 | _,.none,_=>by simp[PyData.depth]
 | _,.bool _,_=>by simp[PyData.depth]
 | _,.int i,h=>by simp[PyData.depth]
 | _,.str z,h=>by simp[PyData.depth]
 | k+1,.list ds,h=>by simp only[okD] at h;have:=jn k ds h;simp only[PyData.depth];omega
 | k+1,.tuple ds,h=>by simp only[okD] at h;have:=jn k ds h;simp only[PyData.depth];omega
 | 0,.list ds,h=>by simp[okD] at h
 | 0,.tuple ds,h=>by simp[okD] at h
 | k,.dict kvs,h=>by cases k<;>simp[okD] at h
theorem jn:∀ (k:Nat) (ds:List PyData),okA k ds=true->PyData.depthAll ds<=k+1
 | _,[],_=>by simp[PyData.depthAll]
 | k,d::ds,h=>by simp only[okA,Bool.and_eq_true] at h;have h1:=kU k d h.1;have h2:=jn k ds h.2;simp only[PyData.depthAll];omega
end
mutual
theorem sv:∀ (k:Nat) (d:PyData),okD k d=true->PyData.hasDict d=false
 | _,.none,_=>by simp[PyData.hasDict]
 | _,.bool _,_=>by simp[PyData.hasDict]
 | _,.int i,h=>by simp[PyData.hasDict]
 | _,.str z,h=>by simp[PyData.hasDict]
 | k+1,.list ds,h=>by simp only[okD] at h;simp only[PyData.hasDict];exact nA k ds h
 | k+1,.tuple ds,h=>by simp only[okD] at h;simp only[PyData.hasDict];exact nA k ds h
 | 0,.list ds,h=>by simp[okD] at h
 | 0,.tuple ds,h=>by simp[okD] at h
 | k,.dict kvs,h=>by cases k<;>simp[okD] at h
theorem nA:∀ (k:Nat) (ds:List PyData),okA k ds=true->PyData.hasDictAll ds=false
 | _,[],_=>by simp[PyData.hasDictAll]
 | k,d::ds,h=>by simp only[okA,Bool.and_eq_true] at h;simp only[PyData.hasDictAll,sv k d h.1,nA k ds h.2,Bool.or_self]
end
theorem eV(hk:k<=50)(h:okD k d=true):lM d=true:=by have h1:=t9 k d h;have h2:=kU k d h;have h3:=sv k d h;simp only[lM,SeqAt.shaped,h1,h3,Bool.true_and,Bool.not_false,Bool.and_true];exact decide_eq_true (by omega)
theorem dH(hk:k<=50)(h:okD k d=true)(h':okD k d'=true):eO d d'=true:=by have h1:=eV hk h;have h2:=eV hk h';cases d<;>cases d'<;>simp[eO,h1,h2]
theorem uh(h:okD k d=true):PyData.eqv d d=true:=SeqAt.eqv_refl _ (t9 k d h)
theorem rB(hk:k<=50)(h:okD k d=true)(hb:big d<=1000000):eS d=true:=
 xF (qR k d h) hb (by have:=kU k d h;omega) (sv k d h)
theorem tM:∀ {ds:List PyData},(∀ d∈ds,big d<=c)->sW ds<=ds.length * (c+2)
 | [],_=>by simp[sW]
 | d::ds,h=>by have h1:=h d (by simp);have h2:=tM (ds:=ds) λ x hx=>h x (by simp[hx]);simp only[sW,List.length_cons];rw[Nat.add_mul];omega
theorem nU(x y:Int):PyData.eqv (.int x) (.int y)=decide (x=y):=by
 rw[PyData.eqv]
 by_cases e:x=y
 ·subst e;simp
 ·simp[e]
theorem sQ{M:MH}{a b:Addr}{o:MO}(ha:M a=some o)(hb:M b=none):a≠b:=λ e=>by rw[e,hb] at ha;cases ha
theorem yu{M:MH}{a b:Addr}{o u:MO}(h:M a=some o)(hb:M b=none):ba M b u a=some o:=by rw[aw (sQ h hb)];exact h
end Rc
namespace Stc
open L2 D Rc
theorem aab(h0:0<=r)(h1:r<ds.length):∃ d,ixW M (.d (.list ds)) r=some (.d d)/\d∈ds:=by
 have hn:r.toNat<ds.length:=by omega
 refine⟨ds[r.toNat],?_,List.getElem_mem hn⟩;simp only[ixW,atI,xA h0 h1,Option.bind_some,List.getElem?_eq_getElem hn,Option.map_some]
theorem sS{zs:List Str}{r:Int}(h0:0<=r)(h1:r<zs.length):∃ z,ixW M (.d (.list (zs.map PyData.str))) r=some (.d (.str z))/\z∈zs:=by obtain⟨d,e,hd⟩:=aab (M:=M) (ds:=zs.map PyData.str) h0 (by simpa using h1);obtain⟨i,hi,rfl⟩:=List.mem_map.mp hd;exact⟨i,e,hi⟩
theorem aaP(h:Bag M p):∃ o,M p=some o:=by obtain⟨a,b,c,ns,e,_⟩:=h;exact⟨_,e⟩
theorem dJ(h:Bag M p)(e:M' p=M p):Bag M' p:=by obtain⟨a,b,c,ns,h1,h2⟩:=h;exact⟨a,b,c,ns,e.trans h1,h2⟩
end Stc
namespace D
open L2
section
variable {K:FG}
variable {X:Cx}{sc:Scope}{own:List Str}{fr:List Nat}{di:TId}{g:TGd}{tt:TTd}{te:TD}{tg iter elt:Expr}{ifs:List Expr}{pos:Pos}
end
section
variable {X:Cx}{K:FG}
def abK:R2:=λ x y H Q=>∃ z n,x=.str z/\y=.int n/\z.length=1/\1<=n/\n<=1000/\Q (.str (Txt.mul z n)) H
theorem qZ:OpR X (binaryOp .Mult) abK:=by
 intro pins s σ H x y v u Q I rx ry h;obtain⟨z,n,rfl,rfl,hz,h1,h2,q⟩:=h;obtain⟨t,rfl⟩:=rx;obtain⟨t',rfl⟩:=ry;have hm:(1000:Int)<2 ^ 62:=by decide
 refine SB.mul ⟨?_,λ _ _=>?_,λ _ _=>?_⟩ λ t' k=>⟨.str (Txt.mul z n),H,I.tok _,⟨_,rfl⟩,q⟩
 ·simp;omega
 ·rw[hz];have:1<=(2 ^ 63-1:Int) / n:=by rw[Int.le_ediv_iff_mul_le (by omega)];omega
  omega
 ·rw[hz];have s16':=s16;unfold PySem.Builtin.Str.tooLong;exact decide_eq_false (by omega)
def tX(w:W)(w':W)(M:MH)(Q:QD):Prop:=∃ z n,w=.d (.str z)/\w'=.d (.int n)/\z.length=1/\1<=n/\n<=1000/\Q (.d (.str (Txt.mul z n))) M
theorem oA:OpD K abK tX:=by intro x y H w w' M Qd Q r1 r2 m ⟨z,n,e1,e2,hz,h1,h2,q⟩ k;subst e1 e2;simp only[aC,ax] at r1 r2;exact⟨z,n,r1,r2,hz,h1,h2,k _ _ (.d (.str _)) M (Kp.refl _) (by simp[aC,ax]) m q⟩
end
section
variable {P:Program}{w:World}{K:FG}{mg:Str->Option Value}{base h:Heap}
end
def wd(c:TTd)(tb:TSd)(D:Ed)(τ:DS)(M:MH):Prop:=∃ P:Nat->DS->MH->Prop,(∃ m,P m τ M)/\∀ m τ M,P m τ M ->
 c τ M λ b M1=>if b=true then tb {D with nx:=λ τ' M'=>∃ m',m'<m/\P m' τ' M',ct:=λ τ' M'=>∃ m',m'<m/\P m' τ' M',bk:=D.nx} τ M1 else D.nx τ M1
end D
open L2 D
theorem pA(hp:PassesOwn (model X.prog X.w) X.A X.env X.xe)(hc:Jd (PTd X c tc))(hb:Jd (mK X body tb)):Jd (PSd X (.While c body [] pos) (wd tc tb)):=⟨have hc:=hc.h;have hb:=hb.h;
 nY (u6 hp hc hb) λ D σ H hq73=>by
  obtain⟨τ,M,Dd,A,⟨P,⟨m0,p0⟩,step⟩,k1,k2,k3,k4⟩:=hq73;refine⟨λ m σ' H'=>Kp H H'/\∃ τ' M',Abs X.K H' σ' τ' M'/\P m τ' M',⟨m0,Kp.refl _,τ,M,A,p0⟩,?_⟩;rintro m σ1 H1 ⟨kp,τ1,M1,A1,p1⟩;refine⟨τ1,M1,_,A1,step m τ1 M1 p1,λ b H2 M2 kp2 m2 q=>?_⟩;have kq:=kp.trans kp2;cases b with
  | false =>
   rw[if_neg Bool.false_ne_true] at q;exact dF (k1 _ H2 _ M2 kq (A1.go kp2 m2) q)
  | true =>
   rw[if_pos rfl] at q;refine fK ⟨λ σ' H'=>Kp H2 H'/\∃ m',m'<m/\∃ τ' M',Abs X.K H' σ' τ' M'/\P m' τ' M',λ σ' H' ⟨kp3,m',hm,τ',M',A',p'⟩=>⟨m',hm,kq.trans kp3,τ',M',A',p'⟩,?_⟩;exact⟨τ1,M2,_,A1.go kp2 m2,q,λ σ3 H3 τ3 M3 kp3 A3 ⟨m',hm,p'⟩=>⟨kp3,m',hm,τ3,M3,A3,p'⟩,λ v H3 w M3 kp3=>k2 v H3 w M3 (kq.trans kp3),λ σ3 H3 τ3 M3 kp3=>k1 σ3 H3 τ3 M3 (kq.trans kp3),λ σ3 H3 τ3 M3 kp3 A3 ⟨m',hm,p'⟩=>⟨kp3,m',hm,τ3,M3,A3,p'⟩⟩⟩
namespace Stc
open L2 D Rc
def Ext(M M':MH):Prop:=∀ q o,M q=some o->M' q=some o
theorem Ext.refl(M:MH):Ext M M:=λ _ _ h=>h
theorem Ext.trans(h:Ext A B)(k:Ext B C):Ext A C:=λ q o e=>k q o (h q o e)
theorem Ext.new(h:M p=none):Ext M (ba M p o):=λ q u e=>yu e h
theorem Ext.del(h:Ext M M')(hp:M p=none):Ext M (iY M' p):=λ q u e=>by have hq:q≠p:=sQ e hp;simp only[iY,if_neg hq];exact h q u e
theorem Ext.upd(h:Ext M M')(hp:M p=none):Ext M (ba M' p o):=λ q u e=>by rw[aw (sQ e hp)];exact h q u e
theorem Ext.none(h:Ext M M')(hp:M' p=none):M p=none:=by
 cases e:M p with
 | none=>rfl
 | some o=>rw[h p o e] at hp;cases hp
theorem Ext.bag(h:Ext M M')(hb:Bag M p):Bag M' p:=by obtain⟨a,b,c,ns,e,z⟩:=hb;exact⟨a,b,c,ns,h _ _ e,z⟩
theorem mY{α:Type}{gt:TGd}{te:TD}{Q:List PyData->DS->MH->Prop}{τ0:DS}{M:MH}(L:List α)(g:α->W)(f:α->PyData)(S:DS->Prop)(hL:L.length<=1000)(h0:S τ0)
  (step:∀ a∈L,∀ τ,S τ->∀ R:PyData->DS->MH->Prop,(∀ τ2,S τ2->R (f a) τ2 M)->gt (g a) τ M λ τ2 M2=>te τ2 M2 λ y M4=>∃ d,y=.d d/\R d τ2 M4)
  (q:∀ τ,Q (L.map f) τ M) :
  ∃ P:Nat->List PyData->DS->MH->Prop,P 0 [] τ0 M /\
   (∀ i w acc τ M,(L.map g)[i]? =some w->P i acc τ M->acc.length<sizeLine/\gt w τ M λ τ2 M2=>u5 τ2 M2 λ b M3=>if b=true then te τ2 M3 λ y M4=>∃ d,y=.d d/\P (i+1) (acc++[d]) τ2 M4 else P (i+1) acc τ2 M3) /\
   ∀ acc τ M,P (L.map g).length acc τ M->Q acc τ M:=by
 refine⟨λ i acc τ M'=>M'=M/\acc=(L.take i).map f/\S τ,⟨rfl,rfl,h0⟩,?_,?_⟩
 ·rintro i w acc τ M' hw ⟨rfl,rfl,hs⟩;rw[List.getElem?_map] at hw;cases e:L[i]? with
  | none=>rw[e] at hw;cases hw
  | some a =>
   rw[e] at hw;cases hw;have hi:=(List.getElem?_eq_some_iff.mp e).1;refine⟨by rw[List.length_map,List.length_take];have:=s16;omega,?_⟩;refine step a (List.mem_of_getElem? e) τ hs (λ d τ2 M4=>M4=M'/\(L.take i).map f++[d]=(L.take (i+1)).map f/\S τ2) λ τ2 h2=>⟨rfl,?_,h2⟩;rw[List.take_succ,e];simp
 ·rintro acc τ M' ⟨rfl,rfl,hs⟩;rw[List.length_map,List.take_length];exact q τ
theorem sealed(hl:M l=none):Ext M (iY (ba M l o) l):=(Ext.new hl).del hl
theorem dA{α β:Type}{L:List α}{f:α->β}{i:Nat}{w:β}(h:(L.map f)[i]? =some w):∃ a,L[i]? =some a/\w=f a:=by
 rw[List.getElem?_map] at h;cases e:L[i]? with
 | none=>rw[e] at h;cases h
 | some a=>rw[e] at h;cases h;exact⟨a,rfl,rfl⟩
theorem o9{lo:Int}{n i:Nat}{w:W}(h:(hJ lo n)[i]? =some w):i<n/\w=.d (.int (lo+(i:Int))):=by
 unfold hJ at h;obtain⟨j,hj,rfl⟩:=dA h;obtain⟨h1,h2⟩:=List.getElem?_eq_some_iff.mp hj;simp at h1 h2;subst h2;exact⟨h1,rfl⟩
theorem n4{α:Type}{xs:List α}{i:Nat}(hi:i<=xs.length):D.cutD xs none (some (i:Int))=xs.take i:=by
 unfold D.cutD;have e:HT.sIx xs.length 0 none=0:=rfl;have e2:HT.sIx xs.length xs.length (some (i:Int))=i:=by
  unfold HT.sIx;simp;rw[if_neg (by omega)];omega
 rw[e,e2];simp
theorem rS{L:List Str}(h:L.Nodup){i:Nat}{z:Str}(e:L[i]? =some z):z ∉ L.take i:=by intro hm;obtain⟨j,hj,ej⟩:=List.getElem_of_mem hm;rw[List.length_take] at hj;rw[List.getElem_take] at ej;obtain⟨hi,ei⟩:=List.getElem?_eq_some_iff.mp e;have:=(List.getElem_inj (h₀:=by omega) (h₁:=hi) h).mp (ej.trans ei.symm);omega
theorem jJ{z:Str}{i:Nat}{j:Int}(hj:j=(i:Int))(hi:i<z.length):ixW M (.d (.str z)) j=some (.d (.str ⟨#[z.cps.toList.getD i 0]⟩)):=by
 subst hj;have hl:i<z.cps.toList.length:=by rw[str_len];exact hi
 simp only[ixW];rw[wk (by omega) (by omega)];simp[List.getD,List.getElem?_eq_getElem hl]
def yB(w:Nat):Str:=(["m", "ab", "zz"]:List Str).getD w "m"
def xj(k:Nat):Str:=Txt.mul ⟨#[("abcdefgh" : Str).cps.toList.getD k 0]⟩ (1+(0+(k:Int)) % 2)
def nmB(w k:Nat):Str:=yB w++xj k
theorem yL:∀ w<3,∀ k<8,(yB w).length+(xj k).length<=1000:=by decide +kernel
end Stc
namespace HT
open PySem PyProof.Rows
section
open PySem.SeqAt
open PySem.MeetsSeq PySem.MeetsSeq2 PySem.MeetsSeq3
end
end HT
namespace D
open L2
section
variable {X:Cx}{K:FG}
end
end D
namespace Stc
open L2 D Rc
end Stc
namespace D
open L2
end D
open L2 D
namespace L2
theorem j9(I:Nat->Shared->Prop)
  (turn:∀ n s,I n s->wpAny (model prog w) A (pyNext it) (λ r s₁=>match r with
   | none=>R (.ok .next) s₁
   | some v=>wpAny (model prog w) A (letOwnedTupleGo target it v) (λ _ s₁'=>wpAny (model prog w) A (assign target env v) (λ _ s₂ =>
     wpAny (model prog w) A (mS ifs env) (λ ok s₃ =>
      if ok=true then wpAny (model prog w) A (eval kx env) (λ kv s₄=>wpAny (model prog w) A (eval vx env) (λ vv s₅ =>
       wpAny (model prog w) A (dictSet D kv vv) (λ _ s₆=>∃ m,m<n/\I m s₆) (λ _ _=>False) s₅) (λ _ _=>False) s₄) (λ _ _=>False) s₃
      else ∃ m,m<n/\I m s₃) (λ _ _=>False) s₂) (λ _ _=>False) s₁') (λ _ _=>False) s₁) (λ _ _=>False) s)
  (n:Nat)(h:I n s) :
  codeAny (model prog w) A (.compLoop (.DictComp kx vx [⟨target,iter,ifs,0⟩] scope pos) 0 it (.ref D) env) R s:=by
 refine codeAny_loop rfl I (λ n s hI=>?_) n h;show wpAny _ A ((compTurn (.DictComp kx vx [⟨target,iter,ifs,0⟩] scope pos) 0 it (.ref D) env).onRaise (λ x=>do noteFrame x env;theTreesLotGoes x)) _ _ s;refine wpAny_noted ?_;rw[compTurn_dict];refine wpAny_bind (wpAny_standAt (wpAny_bind (wpAny_mono (turn n s hI) (λ r s₁ h₁=>?_) λ _ _ h'=>h'.elim)));cases r with
 | none=>exact wpAny_pure h₁
 | some v =>
  refine wpAny_bind (wpAny_mono h₁ (λ _ s₁' h₁'=>?_) λ _ _ h'=>h'.elim);refine wpAny_bind (wpAny_mono h₁' (λ _ s₂ h₂=>wpAny_bind (wpAny_mono h₂ (λ ok s₃ h₃=>?_) λ _ _ h'=>h'.elim)) λ _ _ h'=>h'.elim);cases ok with
  | false=>exact wpAny_pure ⟨rfl,h₃⟩
  | true =>
   refine wpAny_bind ?_;refine wpAny_bind (wpAny_mono h₃ (λ kv s₄ h₄=>wpAny_bind (wpAny_holding (wpAny_mono h₄ (λ vv s₅ h₅=>wpAny_bind (wpAny_standAt (wpAny_holding (wpAny_mono h₅ (λ _ s₆ h₆=>wpAny_pure ⟨rfl,h₆⟩) λ _ _ h'=>h'.elim)))) λ _ _ h'=>h'.elim))) λ _ _ h'=>h'.elim)
theorem sj(I:Inv X pins σ H s)(e:H a=some (.dK kvs))(l:kvs.length<sizeLine)(ry:RelV (kV k) u)(rv:RelV v r)(h:∀ s',Inv X pins σ (upd H a (.dK (putK kvs k v))) s'->Q () s') :
  wpAny (model X.prog X.w) A (dictSet a u r) Q E s:=by
 obtain⟨z,hd,vs,rel,dd⟩:=vn I.hok e;have hz:vs.length<=sizeLine:=by rw[<- rel.length];exact z
 have hl:(putK kvs k v).length<=sizeLine:=by have:=eD kvs k v;omega
 refine wpAny_dictSet_pairs (hsz:=hz) (kZ ry) dd λ h' dd' hs=>h _ ?_;have he:∃ q,h'.get? a=some q:=let ⟨q,_,_,hq,_⟩:=dd'; ⟨q,hq⟩;exact kX I (by rw[e];exact True.intro) hs he (oj hl hd (rel.put k rv) dd')
abbrev DcW:=Nat->Nat->St->Hp->Prop
def w5(J:It)(g:TG)(tt:TT)(tk tv:TE)(D:Addr)(W:DcW)(Fin:Hp->Prop):Prop:=∀ i m τ H,W i m τ H ->
 (J.stop i H/\Fin H)\/(J.go i H/\∀ x H',J.yld i H x H'->g x τ H' λ τ2 H2=>tt τ2 H2 λ b H3 =>
  if b=true then tk τ2 H3 λ y H4=>tv τ2 H4 λ z H5=>∃ kvs k,H5 D=some (.dK kvs)/\y=kV k/\kvs.length<sizeLine/\∃ m',m'<m/\W (i+1) m' τ2 (upd H5 D (.dK (putK kvs k z))) else ∃ m',m'<m/\W (i+1) m' τ2 H3)
section
variable {X:Cx}{pins:PN}{σ:St}{H:Hp}{s:Shared}{sc:Scope}{own:List Str}{fr:List Nat}{cl:List (Str×Addr)}{fp:List Addr}{it D:Addr}{J:It}{tn:Nat->Heap->Prop}{g:TG}{tt:TT}{tk tv:TE}{W:DcW}{Fin:Hp->Prop}
 {kx vx tg iter:Expr}{ifs:List Expr}{pos:Pos}{E:VP}
theorem zd{RR:Addr->Result->Shared->Prop}(hc:X.calm=true)(L:mT X sc own fr)(hcl1:∀ n c,cl.lookup n=some c->X.env.cells.lookup n=some c)(hcl2:∀ n,(n,NameKind.free)∈sc.names->∃ c,cl.lookup n=some c)
  (hg:∀ C s H ex pl,PG (blk X sc (lcN X own fr) cl C s H ex pl) tg g)(ht:∀ C s H ex pl,PTs (blk X sc (lcN X own fr) cl C s H ex pl) ifs tt)(hk:∀ C s H ex pl,PE (blk X sc (lcN X own fr) cl C s H ex pl) kx tk)(hv:∀ C s H ex pl,PE (blk X sc (lcN X own fr) cl C s H ex pl) vx tv)
  (I:Inv X pins σ H s)(T:Turn X.prog X.w X.K tg J fp it tn)(st:tn 0 s.heap)(hf:∀ b∈fp,iA X pins H b)(w0:∃ m,W 0 m (lcS own.length fr σ) H)(turn:w5 J g tt tk tv D W Fin)
  (hRR:∀ (C:Addr) (s':Shared) (H':Hp) (m:Str->Option Value),Inv X pins σ H' s'->H' C=none->s.heap.objs.size<=C->s'.heap.Ns C m->Fin H'->RR C (.ok .next) s') :
  wpAny (model X.prog X.w) X.A (newFunctionEnv sc X.env.globals cl [] X.env.qual none .none (some X.env)) (λ cenv s₄ =>
   codeAny (model X.prog X.w) X.A (.compStart (.DictComp kx vx [⟨tg,iter,ifs,0⟩] sc pos) 0 (.ref it) (.ref D) {cenv with scope:=relabel sc X.env}) (RR cenv.locals) s₄) E s:=by
 refine wpAny_newFunctionEnv L.cell (by intro y hy;simp at hy) (λ h₁ hns₁ hsb₁=>?_) L.kind
 try dsimp only at hns₁ hsb₁ ⊢
 have below:∀ b,b<s.heap.objs.size->b≠s.heap.objs.size:=λ b hb=>Nat.ne_of_lt hb;have old:∀ b o,s.heap.get? b=some o->h₁.get? b=some o:=λ b o e=>hsb₁.extBut b o (below b (Heap.lt_size e)) (Heap.get?_push_of_some _ e);have hfb:∀ b∈fp,b<s.heap.objs.size:=λ b hb=>by obtain⟨o,e,_⟩:=T.obj 0 _ st b hb;exact Heap.lt_size e
 have I1:Inv (blk X sc (lcN X own fr) cl s.heap.objs.size s H fp pins) [] (lcS own.length fr σ) H {s with heap:=h₁,toks:=s.toks+([]:List (Str×Value)).length}:=si L I hf hfb (Nat.le_refl _) hcl1 hcl2 hns₁ old;have st1:tn 0 h₁:=T.keep 0 _ _ st λ b _ o e=>old b o e;generalize hY:blk X sc (lcN X own fr) cl s.heap.objs.size s H fp pins=Y at I1;have hYp:Y.prog=X.prog:=by rw[<- hY];rfl
 have hYw:Y.w=X.w:=by rw[<- hY];rfl
 have hYK:Y.K=X.K:=by rw[<- hY];rfl
 have hYA:Y.A=X.A:=by rw[<- hY];rfl
 have hYc:Y.calm=true:=by rw[<- hY];exact hc
 have hYe:Y.env=compEnvC sc cl s.heap.objs.size X.env:=by rw[<- hY];rfl
 have hYx:Y.xe=λ _ _=>False:=by rw[<- hY];rfl
 have hYpn:Y.pn=X.pn++pins:=by rw[<- hY];rfl
 have hYs:Y.s₀=s:=by rw[<- hY];rfl
 have hYH:Y.H₀=H:=by rw[<- hY];rfl
 have hYex:Y.ex=fp:=by rw[<- hY];rfl
 have hYfs:Y.fs=frs X.stack:=by rw[<- hY];rfl
 have gY:=hg s.heap.objs.size s H fp pins;have tY:=ht s.heap.objs.size s H fp pins;have kY:=hk s.heap.objs.size s H fp pins;have vY:=hv s.heap.objs.size s H fp pins;rw[hY] at gY tY kY vY;have fpY:∀ {H':Hp},(∀ b∈fp,H' b=none)->∀ b∈fp,iA Y [] H' b:=λ {H'} hn b hb=>by
  obtain⟨_,f1,f2,f3,f4,f5⟩:=hf b hb;refine⟨hn b hb,by rw[hYe];exact below b (hfb b hb),?_,.inl (by rw[hYex];exact hb),λ x c e=>?_,λ p q=>?_⟩
  ·rw[hYfs];intro z;rcases List.mem_cons.mp (I.eI _ z) with e | e
   ·exact f1 e
   ·exact f2 e
  ·rw[hYe] at e;exact f4 x c (hcl1 _ _ e)
  ·rw[List.append_nil,hYpn] at q;exact f5 p q
 have loop:∀ s₃:Shared,s₃={s with heap:=h₁,toks:=s.toks+([]:List (Str×Value)).length} ->
   codeAny (model X.prog X.w) X.A (.compLoop (.DictComp kx vx [⟨tg,iter,ifs,0⟩] sc pos) 0 (.ref it) (.ref D) (compEnvC sc cl s.heap.objs.size X.env)) (RR s.heap.objs.size) s₃:=by
  rintro s₃ rfl;obtain⟨m0,w0⟩:=w0;refine j9 (λ n s'=>∃ i τ H',Inv Y [] τ H' s'/\tn i s'.heap/\(∀ b∈fp,H' b=none)/\W i n τ H') ?_ m0 ⟨0,_,H,I1,st1,λ b hb=>(hf b hb).1,w0⟩;rintro n s' ⟨i,τ,H',I',st',hn',w'⟩;rcases turn i n τ H' w' with ⟨stop,fin⟩ | ⟨go,step⟩
  ·have q:=T.done Y hYp hYw hYK hYc i _ s' τ H' (λ _ _=>False) I' (fpY hn') st' stop;rw[hYA] at q;refine thn q λ r s4 hq74=>?_;obtain⟨hr,I4⟩:=hq74;subst hr;have un:Un (frs X.stack) fp H H' s.heap s4.heap:=by have z:=I4.base;rw[hYfs,hYex,hYH,hYs] at z;exact z
   have os4:s4.os=s.os:=by have z:=I4.os;rw[hYs] at z;exact z
   have hok4:HOk X.prog X.w H' s4.heap:=by have z:=I4.hok;rw[hYp,hYw] at z;exact z
   have hch:∀ b∈fp,(b∈X.ex\/X.s₀.heap.objs.size<=b)/\b≠X.env.locals/\(∀ x c,X.env.cells.lookup x=some c->c≠b)/\∀ p∈X.pn++pins,p.1≠b:=λ b hb=>by obtain⟨_,f1,f2,f3,f4,f5⟩:=hf b hb;exact⟨f3,f1,f4,f5⟩
   have IX:Inv X pins σ H' s4:=I.yf os4 un hok4 I4.bare hch;obtain⟨mC,hmC,_⟩:=I4.loc;have hCf:=I4.free;rw[hYe] at hmC hCf;exact hRR _ s4 H' mC IX hCf (Nat.le_refl _) hmC fin
  ·have q:=T.item Y hYp hYw hYK hYc i _ s' τ H' (λ _ _=>False) I' (fpY hn') st' go;rw[hYA] at q;refine thn q λ r s4 hq75=>?_;obtain⟨u,hr,h4⟩:=hq75;subst hr;refine thn h4 λ _ s5 hq76=>?_;obtain⟨x,H5,I5,r5,y5,st5,fr5⟩:=hq76;have I5':=I5.pinned (fpY fr5) (T.obj _ _ st5);have g5:=gY _ s5 τ H5 x u _ I5' r5 (step x H5 y5);rw[hYp,hYw,hYA,hYe,hYx] at g5;refine thn g5 λ _ s6 hq77=>?_;obtain⟨σ6,H6,I6,q6⟩:=hq77;have t6:=tY _ s6 σ6 H6 _ I6 q6;rw[hYp,hYw,hYA,hYe,hYx] at t6;refine thn t6 λ ok s7 hq78=>?_;obtain⟨H7,I7,q7⟩:=hq78;have keepI:∀ {σ8:St} {H8:Hp} {s8:Shared},Inv Y ([]++gD fp s5.heap) σ8 H8 s8->tn (i+1) s8.heap/\∀ b∈fp,H8 b=none:=
    λ {σ8 H8 s8} I8=>by refine⟨T.keep _ _ _ st5 λ b hb o e=>(I8.pin (b,o) (List.mem_append_right _ (List.mem_append_right _ (cB hb e)))).1,λ b hb=>?_⟩;obtain⟨o,e,d⟩:=T.obj _ _ st5 b hb;exact(I8.pin (b,o) (List.mem_append_right _ (List.mem_append_right _ (cB hb e)))).2.1
   cases ok with
   | false =>
    rw[if_neg Bool.false_ne_true] at q7 ⊢;obtain⟨m',hm',w7⟩:=q7;obtain⟨c7,d7⟩:=keepI I7;exact⟨m',hm',i+1,σ6,H7,I7.cV (λ p hp=>(nomatch hp)),c7,d7,w7⟩
   | true =>
    rw[if_pos rfl] at q7 ⊢;have e7:=kY _ s7 σ6 H7 _ I7 q7;rw[hYp,hYw,hYA,hYe,hYx] at e7;refine thn e7 λ ku s8 hq79=>?_;obtain⟨y,H8,I8,r8,q8⟩:=hq79;have e8:=vY _ s8 σ6 H8 _ I8 q8;rw[hYp,hYw,hYA,hYe,hYx] at e8;refine thn e8 λ vu s9 hq80=>?_;obtain⟨z,H9,I9,r9,kvs,k,hD,ey,hlt,m',hm',w9⟩:=hq80;subst ey;have r8':RelV (kV k) ku:=r8;have q9:=sj (A:=X.A) (E:=λ _ _=>False) (Q:=λ _ s₆=>∃ m,m<n/\∃ i τ H',Inv Y [] τ H' s₆/\tn i s₆.heap/\(∀ b∈fp,H' b=none)/\W i m τ H') I9 hD hlt r8' r9 λ s10 I10=>by obtain⟨c8,d8⟩:=keepI I10;exact⟨m',hm',i+1,σ6,_,I10.cV (λ p hp=>(nomatch hp)),c8,d8,w9⟩
    rw[hYp,hYw] at q9;exact q9
 exact codeAny_compStart_dict (loop _ rfl) (T.self _ 0 _ _ _ st1 (loop _ rfl))
def tDC(wi:TI)(g:TG)(tt:TT)(tk tv:TE)(k:Nat)(fr:List Nat):TE:=λ σ H Q=>wi σ H λ J H1=>∀ p,H1 p=none->∃ W:DcW,(∃ m,W 0 m (lcS k fr σ) (upd H1 p (.dK [])))/\w5 J g tt tk tv p W λ H2=>Q (.ref p) H2
theorem aco(hc:X.calm=true)(L:mT X sc own fr)(hi:PI X tg iter wi)
  (hg:∀ cl C s H ex pl,PG (blk X sc (lcN X own fr) cl C s H ex pl) tg g)(ht:∀ cl C s H ex pl,PTs (blk X sc (lcN X own fr) cl C s H ex pl) ifs tt)(hk:∀ cl C s H ex pl,PE (blk X sc (lcN X own fr) cl C s H ex pl) kx tk)(hv:∀ cl C s H ex pl,PE (blk X sc (lcN X own fr) cl C s H ex pl) vx tv)
  (hs:∀ x,foldedSetIterable iter X.env x=pure x:=by intro _;rfl):PE X (.DictComp kx vx [⟨tg,iter,ifs,0⟩] sc pos) (tDC wi g tt tk tv own.length fr):=by
 intro pins s σ H Q I h;obtain⟨cl,hcl,c1,c2⟩:=g7 L I.ok;show wpAny _ _ (comprehension (.DictComp kx vx [⟨tg,iter,ifs,0⟩] sc pos) sc X.env _ newDict false (eval iter X.env)) _ _ _;refine wpAny_comprehension_free (use:=none) (g:=⟨tg,iter,ifs,0⟩) (gs:=[]) rfl hs hcl L.kind L.names ?_;refine thn (hi pins s σ H _ I h) λ v s1 h1=>thn h1 λ itv s2 h2=>?_;obtain⟨it,fp,tn,J,H2,e,I2,T,st2,f2,q2⟩:=h2;subst e;obtain⟨W,w0,turn⟩:=q2 _ (I2.hok.fresh (Nat.le_refl s2.heap.objs.size));refine wpAny_newObj_type ?_;have I3:=I2.laid (a:=s2.heap.objs.size) (o:=.dK []) (h':=s2.heap.push {cls:=.type "dict",data:=.dict #[]}) (t':=s2.toks) (λ _ _ q=>Heap.get?_push_of_some _ q) (Nat.le_refl _) (j4 s2.heap I2.big);have hfb:∀ b∈fp,b<s2.heap.objs.size:=λ b hb=>by obtain⟨o,e,_⟩:=T.obj 0 _ st2 b hb;exact Heap.lt_size e
 have f3:∀ b∈fp,iA X pins (upd H2 s2.heap.objs.size (.dK [])) b:=λ b hb=>by obtain⟨f0,fr⟩:=f2 b hb;exact⟨by rw[aj (Nat.ne_of_lt (hfb b hb))];exact f0,fr⟩
 have st3:tn 0 (s2.heap.push {cls:=.type "dict",data:=.dict #[]}):=T.keep 0 _ _ st2 λ b _ o e=>Heap.get?_push_of_some _ e;refine zd (cl:=cl) hc L c1 c2 (hg cl) (ht cl) (hk cl) (hv cl) I3 T st3 f3 w0 turn λ C s' H' m I' hC dC hns fin=>?_;refine⟨m,hns,λ h' sb=>?_⟩;have hC2:s2.heap.objs.size<=C:=Nat.le_trans (by rw[Heap.size_push];exact Nat.le_succ _) dC;obtain⟨_,z2,_,_,z3,z4⟩:=I2.qo (H':=λ _=>none) hC2 rfl;have I4:Inv X pins σ H' {s' with heap:=h'}:=I'.turned (t':=s'.toks) (λ b o hb e=>sb.extBut b o hb e) hC z2 (.inr (Nat.le_trans I2.sz hC2)) z3 z4;exact⟨.ref _,_,I4,rfl,fin⟩
end
end L2
namespace D
open L2
section
variable {K:FG}
def dDC(di:TId)(g:TGd)(tt:TTd)(tk tv:TD)(k:Nat)(fr:List Nat)(τ:DS)(M:MH)(Q:QD):Prop:=di τ M λ ws M1=>∀ p,M1 p=none->∃ P:Nat->DS->MH->Prop,P 0 (zE k fr τ) (ba M1 p (.dic [])) /\
 (∀ i w τ M,ws[i]? =some w->P i τ M->g w τ M λ τ2 M2=>tt τ2 M2 λ b M3=>if b=true then tk τ2 M3 λ y M4=>tv τ2 M4 λ z M5=>∃ kvs key,M5 p=some (.dic kvs)/\y=kW key/\kvs.length<sizeLine/\P (i+1) τ2 (ba M5 p (.dic (qA kvs key z))) else P (i+1) τ2 M3) /\
 ∀ τ M,P ws.length τ M->Q (.m p) M
theorem aa4(h:up K (dDC di g tt tk tv k fr) σ H Q) :
  tDC (upI K di) (upG K g) (upT K tt) (up K tk) (up K tv) k fr σ H Q:=by
 obtain⟨τ,M,Qd,A,h,kk⟩:=h;refine⟨τ,M,_,A,h,λ J H1 ws M1 kp m1 it hall p hp=>?_⟩;obtain⟨P,p0,pt,pe⟩:=hall p (m1.free hp);have kpn:Kp H1 (upd H1 p (.dK [])):=Kp.new hp;have mn:cO K (upd H1 p (.dK [])) (ba M1 p (.dic [])):=m1.put (mo:=.dic []) kpn ⟨_,aq,.nil⟩;refine⟨λ i n σ' H'=>n=ws.length-i/\i<=ws.length/\Kp (upd H1 p (.dK [])) H'/\∃ τ M,Abs K H' σ' τ M/\P i τ M,⟨ws.length,by simp,Nat.zero_le _,Kp.refl _,_,_,sD (A.go (kp.trans kpn) mn) k fr,p0⟩,?_⟩;rintro i n σ2 H2 ⟨rfl,hi,kp2,τ2,M2,A2,p2⟩;obtain⟨go,stop,yld⟩:=it H2 (kpn.trans kp2) i
 by_cases hlt:i<ws.length
 ·refine .inr ⟨go hlt,λ x H3 y=>?_⟩;obtain⟨kp3,mk,w,ew,rw⟩:=yld x H3 hlt y;refine⟨w,τ2,M2,_,rw,A2.go kp3 (mk _ A2.mem),pt i w τ2 M2 ew p2,λ σ4 H4 τ4 M4 kp4 A4 q4=>⟨τ4,M4,_,A4,q4,λ b H5 M5 kp5 m5 q5=>?_⟩⟩;have kq:=(kp3.trans kp4).trans kp5;cases b with
  | false =>
   rw[if_neg Bool.false_ne_true] at q5;exact dF ⟨ws.length-(i+1),by omega,rfl,hlt,kp2.trans kq,τ4,M5,A4.go kp5 m5,q5⟩
  | true =>
   rw[if_pos rfl] at q5;refine fK ⟨τ4,M5,_,A4.go kp5 m5,q5,λ ky H6 wy M6 kp6 r6 m6 q6=>⟨τ4,M6,_,A4.go (kp5.trans kp6) m6,q6,λ v H7 wv M7 kp7 r7 m7 hq81=>?_⟩⟩;obtain⟨kvs,key,hm,ey,hl,q7⟩:=hq81;subst ey;obtain⟨l,e,pr⟩:=m7 _ _ hm;have kp8:Kp H7 (upd H7 p (.dK (putK l key v))):=Kp.set e (λ _ z=>nomatch z) (λ _ _ z=>nomatch z);refine⟨l,key,e,jm r6,by rw[<- oG pr];exact hl,ws.length-(i+1),by omega,rfl,hlt,kp2.trans (((kq.trans kp6).trans kp7).trans kp8),τ4,_,A4.go (((kp5.trans kp6).trans kp7).trans kp8) (m7.put (mo:=.dic (qA kvs key wv)) kp8 ⟨_,aq,?_⟩),q7⟩;exact Paired.fM (wW key r7 pr) λ p q z=>⟨z.1,z.2.keep kp8⟩
 ·have hl:i=ws.length:=by omega
  subst hl;refine .inl ⟨stop (Nat.le_refl _),?_⟩;exact kk _ H2 (.m p) M2 (kp.trans (kpn.trans kp2)) rfl A2.mem (pe τ2 M2 p2)
variable {X:Cx}{sc:Scope}{own:List Str}{fr:List Nat}{di:TId}{g:TGd}{tt:TTd}{tk tv:TD}{tg iter kx vx:Expr}{ifs:List Expr}{pos:Pos}
theorem abR(hc:X.calm=true)(L:mT X sc own fr)(hi:PId X tg iter di)
  (hg:∀ cl C s H ex pl,PGd (blk X sc (lcN X own fr) cl C s H ex pl) tg g)(ht:∀ cl C s H ex pl,rL (blk X sc (lcN X own fr) cl C s H ex pl) ifs tt)(hk:∀ cl C s H ex pl,PD (blk X sc (lcN X own fr) cl C s H ex pl) kx tk)(hv:∀ cl C s H ex pl,PD (blk X sc (lcN X own fr) cl C s H ex pl) vx tv)
  (hs:∀ x,foldedSetIterable iter X.env x=pure x:=by intro _;rfl):PD X (.DictComp kx vx [⟨tg,iter,ifs,0⟩] sc pos) (dDC di g tt tk tv own.length fr):=
 iq (aco hc L hi hg ht hk hv hs) λ σ H Q h=>aa4 h
end
end D
open L2 D
theorem aai(hc:X.calm=true)(L:mT X sc own fr)(hi:Jd (PId X tg iter di))
  (hg:∀ cl C s H ex pl,Jd (PGd (blk X sc (lcN X own fr) cl C s H ex pl) tg g))(ht:∀ cl C s H ex pl,Jd (rL (blk X sc (lcN X own fr) cl C s H ex pl) ifs tt))(hk:∀ cl C s H ex pl,Jd (PD (blk X sc (lcN X own fr) cl C s H ex pl) kx tk))(hv:∀ cl C s H ex pl,Jd (PD (blk X sc (lcN X own fr) cl C s H ex pl) vx tv))
  (hs:∀ x,foldedSetIterable iter X.env x=pure x:=by intro _;rfl):Jd (PD X (.DictComp kx vx [⟨tg,iter,ifs,0⟩] sc pos) (dDC di g tt tk tv own.length fr)):=
 ⟨D.abR hc L hi.h (λ cl C s H ex pl=>(hg cl C s H ex pl).h) (λ cl C s H ex pl=>(ht cl C s H ex pl).h) (λ cl C s H ex pl=>(hk cl C s H ex pl).h) (λ cl C s H ex pl=>(hv cl C s H ex pl).h) hs⟩
namespace L2
end L2
namespace D
open L2
end D
open L2 D
namespace D
open L2
end D
open L2 D
namespace D
open L2
end D
open L2 D
namespace D
open L2
section
variable {X:Cx}{K:FG}
end
end D
namespace PySem
namespace Dp
theorem sd:typeLookup (.type "list") "keys" = pure none:=am_miss_of_fast (by decide +kernel)
theorem lh:entryFor table "dict.update.loop" = some Builtin.«dict.update.loop»:=entryFor_of_tree (by kernel_rfl)
theorem gA:plainId "dict.update.loop" = true:=by decide +kernel
section
variable {prog:Program}{w:World}{A:Around}{E:VP}{s:Shared}
set_option maxHeartbeats 1600000 in
theorem kG
  (hx:s.heap.get? a=some {cls:=.type "list",dict:=none,data:=.seq xs k,slots:=sl})(hA:A.handled=none)
  (h:∀ h' tk,(∀ b ob,s.heap.get? b=some ob->h'.get? b=some ob)->Q none {s with heap:=h',toks:=tk}) :
  wpAny (model prog w) A (getAttr? (.ref a) "keys") Q E s:=by
 obtain⟨hp,g,d,tk,os⟩:=s;have hT:∀ tk',(⟨hp,g,d,tk',os⟩:Shared).TypeIs (.ref a) "list":= λ _=>⟨_,hx,rfl⟩;have f1:=sub_AttributeError;have f3:=F.slot_list_getattribute.lookup;have f4:=F.slot_list_getattribute.bind (.ref a);have f5:=am_list_getattr_none;have hsz:("keys" : Str).length+100<=sizeLine:=by size_fits
 have hname:(["__module__", "__name__", "__qualname__", "__doc__", "__annotations__"]:List Str).contains "keys" = false:=by decide +kernel
 unfold getAttr? getAttrBy? getAttrBy
 repeat (any_goals (first | assumption | exact hT _ | ((with_reducible show wpAny _ _ (call (Value.builtin "list.__getattribute__") _ _) _ _ _);refine call_meets F.slot_list_getattribute (hT _) am_entry_list_getattribute (F.args_list_getattribute_2 _ _) (meets_getattribute_miss_list a xs k sl "keys" _ sd hname hsz) ⟨hx,hA,λ h' tk' e hx'=>?_⟩) | wp_step))
 obtain⟨t',u',he⟩:=hx'.there;show wpAny _ _ (getattributeRaised _ _ _ _ _ _ _) _ _ _;unfold getattributeRaised
 repeat (any_goals (first | assumption | wp_step))
 exact h _ _ hx'.keeps
variable {K:Type}[DecidableEq K]{knd:KeyKind prog w K}
theorem loop{I D l:Addr}{items:Array Value}{kvs:List (K×Value)}{R:Result->Shared->Prop}{h0:Heap}(hh:A.handled=none)(hDI:D≠I)(hDl:D≠l)(hlI:l≠I)(hsz:kvs.length<=sizeLine)(hlen:items.size=kvs.length)
  (ht:∀ i (hi:i<kvs.length),∃ a key k dct sl,items[i]? =some (.ref a)/\a≠D/\a≠I/\knd.is kvs[i].1 key=true/\h0.get? a=some {cls:=.type "tuple",dict:=dct,data:=.seq #[key,kvs[i].2] k,slots:=sl}) :
  ∀ (j i:Nat) (s:Shared),kvs.length-i=j->i<=kvs.length->s.heap.IsListIter I l i->s.heap.IsList l items->s.heap.DictOf knd D (merged [] (kvs.take i))->(∀ b o,b≠D->b≠I->h0.get? b=some o->s.heap.get? b=some o) ->
   (∀ h' tk,h'.DictOf knd D (merged [] kvs)->(∀ b o,b≠D->b≠I->h0.get? b=some o->h'.get? b=some o)->R (.ok (.ret .none)) {s with heap:=h',toks:=tk}) ->
   codeAny (model prog w) A (.builtin "dict.update.loop" ⟨[.ref D,.ref I,rawInt i,.none],[]⟩) R s:=by
 intro j
 induction j with
 | zero =>
  intro i s hj hi hit hl hd hk hR;have hin:i=kvs.length:=by omega
  subst hin;refine codeAny_builtin lh ?_;rw[Around.under_plainId gA _];show wpAny _ A.in1 (pyNext (.ref I) >>= _) _ _ s;refine wpAny_bind (wpAny_pyNext_list_end (by simpa using hh) hit hl (by simp[hlen]) λ h' he'=>?_);show wpAny _ A.in1 (Builtin.Dict.addKeywords D [] >>= _) _ _ _;refine wpAny_bind (wpAny_pure (wpAny_pure ?_));rw[List.take_length] at hd;refine hR h' s.toks ?_ λ b o b1 b2 e=>he' b o b2 (hk b o b1 b2 e);obtain⟨o,es,ep,ho,rest⟩:=hd;exact⟨o,es,ep,he' D o hDI ho,rest⟩
 | succ j ih =>
  intro i s hj hi hit hl hd hk hR;have hlt:i<kvs.length:=by omega
  obtain⟨a,key,k,dct,sl,e1,a1,a2,hkey,e2⟩:=ht i hlt;refine codeAny_builtin lh ?_;rw[Around.under_plainId gA _];show wpAny _ A.in1 (pyNext (.ref I) >>= _) _ _ s;refine wpAny_bind (wpAny_pyNext_list_item hit hl e1 λ h' hit' hs'=>?_);have e3:h'.get? a=some {cls:=.type "tuple",dict:=dct,data:=.seq #[key,kvs[i].2] k,slots:=sl}:=hs'.extBut a _ a2 (hk a _ a1 a2 e2);have hT:Shared.TypeIs {s with heap:=h'} (.ref a) "tuple":= ⟨_,e3,rfl⟩;have hd':h'.DictOf knd D (merged [] (kvs.take i)):=by obtain⟨o,es,ep,ho,rest⟩:=hd;exact⟨o,es,ep,hs'.extBut D o hDI ho,rest⟩
  have hl':h'.IsList l items:=hl.extBut hs'.extBut hlI;show wpAny _ A.in1 (holding [Value.ref a] _ >>= _) _ _ _;refine wpAny_bind (wpAny_holding ?_);refine wpAny_bind (m:=tryCatch (Builtin.Dict.pairItems (.ref a)) _) (wpAny_tryCatch ?_);unfold Builtin.Dict.pairItems;refine wpAny_bind (wpAny_typeOf hT ?_);rw[if_pos (by decide)];unfold seqItems?;obtain⟨hp,g,d,tk,os⟩:=s;generalize hDS:dictSet=DS
  repeat (any_goals (first | assumption | wp_step))
  subst hDS;have hl2:(merged [] (kvs.take i)).length<=sizeLine:=by have:=merged_length_le [] (kvs.take i);simp at this;omega
  refine wpAny_dictSet_pairs (hsz:=hl2) hkey hd' λ h2 hd2 hs2=>?_;refine wpAny_pure ⟨plainId_quiet gA _,ih (i+1) _ (by omega) hlt ?_ ?_ ?_ ?_ ?_⟩
  ·exact hit'.at λ o e=>hs2.extBut I o (Ne.symm hDI) e
  ·exact hl'.extBut hs2.extBut (Ne.symm hDl)
  ·rw[merged_take_succ [] kvs i kvs[i] (List.getElem?_eq_getElem hlt)];exact hd2
  ·exact λ b o b1 b2 e=>hs2.extBut b o b1 (hs'.extBut b o b2 (hk b o b1 b2 e))
  ·exact λ h' tk d k=>hR h' tk d k
set_option maxHeartbeats 1600000 in
theorem jj{l:Addr}{items:Array Value}{kk:Nat}{sl0:Array (Option Value)}{kvs:List (K×Value)}(hh:A.handled=none)(hsz:kvs.length<=sizeLine)(hlen:items.size=kvs.length)
  (hl:s.heap.get? l=some {cls:=.type "list",dict:=none,data:=.seq items kk,slots:=sl0})
  (ht:∀ i (hi:i<kvs.length),∃ a key k dct sl,items[i]? =some (.ref a)/\knd.is kvs[i].1 key=true/\s.heap.get? a=some {cls:=.type "tuple",dict:=dct,data:=.seq #[key,kvs[i].2] k,slots:=sl})
  (h:∀ h' tk,h'.DictOf knd s.heap.objs.size (merged [] kvs)->(∀ b o,s.heap.get? b=some o->h'.get? b=some o)->Q (.ref s.heap.objs.size) {s with heap:=h',toks:=tk}) :
  wpAny (model prog w) A (call (.type "dict") [.ref l]) Q E s:=by
 refine callType_codes (Q₁:=λ obj s₁=>obj=.ref s.heap.objs.size/\s₁={s with heap:=s.heap.push {cls:=.type "dict",data:=.dict #[]}}) F.kt_called_dict (F.kt_typeCall_dict_1 _) F.entry_dict_init (kt_code_dict_new _ ⟨rfl,rfl⟩) ?_;rintro obj s₁ ⟨rfl,rfl⟩;have hnew:(s.heap.push {cls:=.type "dict",data:=.dict #[]}).DictOf knd s.heap.objs.size []:=Heap.DictOf.new s.heap;have hl1:(s.heap.push {cls:=.type "dict",data:=.dict #[]}).get? l=some {cls:=.type "list",dict:=none,data:=.seq items kk,slots:=sl0}:=Heap.get?_push_of_some _ hl;have hT:Shared.TypeIs {s with heap:=s.heap.push {cls:=.type "dict",data:=.dict #[]}} (.ref l) "list":= ⟨_,hl1,rfl⟩;refine⟨hnew.typeIs,F.args_dict_init_2 _ _,?_⟩;unfold Builtin.«dict.__init__»;refine wpAny_bind ?_;unfold Builtin.Dict.selfAndRest;refine wpAny_bind (wpAny_notOrdered_dict hnew.typeIs ?_);show wpAny _ _ (pure (s.heap.objs.size,[Value.ref l])) _ _ _;refine wpAny_pure ?_;show wpAny _ _ (Builtin.Dict.updateFrom "dict.__init__" s.heap.objs.size (.ref l) [] .none) _ _ _;unfold Builtin.Dict.updateFrom;refine wpAny_bind (wpAny_typeOf hT ?_);rw[if_pos (by decide)];refine wpAny_bind (kG hl1 (by simpa using hh) λ h2 tk2 k2=>?_);rw[if_pos (by rfl)];have hl2:h2.get? l=some {cls:=.type "list",dict:=none,data:=.seq items kk,slots:=sl0}:=k2 _ _ hl1;have il2:h2.IsList l items:=⟨_,hl2,rfl,kk,rfl⟩;refine wpAny_bind (wpAny_rule (wpAny_bind (wpAny_pyIter_list il2 ?_)));have z:s.heap.objs.size<h2.objs.size:=by obtain⟨o,_,_,ho,_⟩:=hnew;exact Heap.lt_size (k2 _ _ ho)
 have zl:l<s.heap.objs.size:=Heap.lt_size hl;have d2:h2.DictOf knd s.heap.objs.size []:=by obtain⟨o,es,ep,ho,rest⟩:=hnew;exact⟨o,es,ep,k2 _ _ ho,rest⟩
 refine wpAny_pure ⟨plainId_quiet gA _,loop (knd:=knd) (h0:=h2) (by simpa using hh) (Nat.ne_of_lt z) (Ne.symm (Nat.ne_of_lt zl)) (Nat.ne_of_lt (Nat.lt_trans zl z)) hsz hlen (λ i hi=>?_) kvs.length 0 _ (by omega) (Nat.zero_le _) ⟨_,Heap.get?_push_size _ rfl,rfl,rfl⟩ (il2.push _) ?_ (λ b o _ _ e=>Heap.get?_push_of_some _ e) λ h' tk dd keep=>?_⟩
 ·obtain⟨a,key,k,dct,sl,e1,hk,e2⟩:=ht i hi;have za:a<s.heap.objs.size:=Heap.lt_size e2;exact⟨a,key,k,dct,sl,e1,Nat.ne_of_lt za,Nat.ne_of_lt (Nat.lt_trans za z),hk,k2 _ _ (Heap.get?_push_of_some _ e2)⟩
 ·exact d2.push _
 ·refine⟨rfl,h h' tk dd λ b o e=>?_⟩;have zb:b<s.heap.objs.size:=Heap.lt_size e;exact keep b o (Nat.ne_of_lt zb) (Nat.ne_of_lt (Nat.lt_trans zb z)) (k2 _ _ (Heap.get?_push_of_some _ e))
end
end Dp
end PySem
namespace D
open L2
section
variable {X:Cx}{K:FG}
theorem pairs_at(I:Inv X pins σ H s):∀ {kvs:List (Key×V)} {vs:List V} {its:List Value},Paired (λ(v:V) (kv:Key×V)=>∃ a,v=.ref a/\SqT X.K H a [kV kv.1,kv.2]) vs kvs->Vals vs its ->
  ∃ ks:List (Key×Value),KV kvs ks/\its.length=ks.length/\∀ i (hi:i<ks.length),∃ a key k dct sl,its[i]? =some (.ref a)/\(aQ X.prog X.w).is ks[i].1 key=true/\s.heap.get? a=some {cls:=.type "tuple",dict:=dct,data:=.seq #[key,ks[i].2] k,slots:=sl}
 | _,_,_,.nil,.nil=>⟨[],.nil,rfl,λ i hi=>by simp at hi⟩
 | _,_,_,.cons (b:=b) ⟨a,ea,hq⟩ t,.cons r1 r2=>by
  obtain⟨ks,h1,h2,h3⟩:=pairs_at I t r2;subst ea;cases r1;obtain⟨its,rv,⟨o,e1,e2,n,e3⟩,_⟩:=I.tuple hq;obtain⟨c,dct,dat,sl⟩:=o;simp only at e2 e3;subst e2 e3;cases rv with
  | @cons _ u1 _ _ q1 rv1 =>
  cases rv1 with
  | @cons _ u2 _ _ q2 rv2 =>
  cases rv2;refine⟨(b.1,u2)::ks,.cons ⟨rfl,q2⟩ h1,by simp[h2],λ i hi=>?_⟩;cases i with
  | zero=>exact⟨a,u1,n,dct,sl,rfl,kZ q1,e1⟩
  | succ i =>
   have hi':i<ks.length:=by simpa using hi
   obtain⟨a',key,k',dct',sl',z1,z2,z3⟩:=h3 i hi';exact⟨a',key,k',dct',sl',by simpa using z1,z2,z3⟩
theorem rQ:∀ {kvs:List (Key×V)} {ks:List (Key×Value)},KV kvs ks->ks.map (·.1)=kvs.map (·.1)
 | _,_,.nil=>rfl
 | _,_,.cons r t=>by rw[List.map_cons,List.map_cons,rQ t,r.1]
theorem jz(hc:X.calm=true):eC X (.type "dict") (λ xs H Q=>∃ p vs,∃ kvs:List (Key×V),xs=[.ref p]/\SqL X.K H p vs/\Paired (λ(v:V) (kv:Key×V)=>∃ a,v=.ref a/\SqT X.K H a [kV kv.1,kv.2]) vs kvs/\(kvs.map (·.1)).Nodup/\∀ l,H l=none->Q (.ref l) (upd H l (.dK kvs))):=by
 intro pins s σ H xs us Q I r h;obtain⟨p,vs,kvs,rfl,hq,pr,nd,q⟩:=h;obtain⟨u,rfl,rx⟩:=vals1 r;cases rx;obtain⟨its,rv,⟨o,n,e0,e1,e2,e3⟩,hz⟩:=I.list hq;obtain⟨c,dct,dat,sl⟩:=o;simp only at e1 e2 e3;subst e1 e2 e3;obtain⟨ks,rel,hl,hk⟩:=pairs_at I pr rv;have hz2:ks.length<=sizeLine:=by rw[<- hl];have:=rv.length;omega
 have nd2:(ks.map (·.1)).Nodup:=by rw[rQ rel];exact nd
 refine Dp.jj (knd:=aQ X.prog X.w) (I.ok.hd hc) hz2 (by simpa using hl) e0 (λ i hi=>?_) λ h' tk dd keep=>?_
 ·obtain⟨a,key,k,dct,sl,z1,z2,z3⟩:=hk i hi;exact⟨a,key,k,dct,sl,by simpa using z1,z2,z3⟩
 ·rw[merged_nil_of_nodup ks nd2] at dd;exact⟨.ref _,_,I.laid (a:=s.heap.objs.size) (o:=.dK kvs) (t':=tk) keep (Nat.le_refl _) (oj (by rw[rel.length];exact hz2) (beq_eq_false_iff_ne.mpr (Ne.symm (Nat.ne_of_lt I.big))) rel dd),rfl,q _ (I.hok.fresh (Nat.le_refl _))⟩
def pairD(p:Key×PyData):PyData:=.tuple [oq p.1,p.2]
def kj(ws:List W)(M:MH)(Q:QD):Prop:=∃ w,∃ kds:List (Key×PyData),ws=[w]/\wI M w (kds.map pairD)/\(kds.map (·.1)).Nodup/\∀ p,M p=none->Q (.m p) (ba M p (.dic (cg kds)))
theorem jW:∀ {kds:List (Key×PyData)} {ys:List V},aS K H (kds.map pairD) ys->∃ kvs:List (Key×V),Paired (λ(v:V) (kv:Key×V)=>∃ a,v=.ref a/\SqT K H a [kV kv.1,kv.2]) ys kvs/\Paired (λ(p:Key×W) (q:Key×V)=>p.1=q.1/\aC K H p.2 q.2) (cg kds) kvs
 | [],ys,h=>by
  have e:ys=[]:=by simpa [aS] using h
  subst e;exact⟨[],.nil,.nil⟩
 | kd::kds,ys,h=>by simp only[List.map_cons,pairD,aS,ax] at h;obtain⟨v,ys,rfl,⟨a,zs,ev,hq,v1,zs1,e1,rk,v2,zs2,e2,rx,e3⟩,rest⟩:=h;obtain⟨kvs,h1,h2⟩:=jW rest;have ek:=ni rk;subst e1 e2 e3 ek ev;exact⟨(kd.1,v2)::kvs,.cons ⟨a,rfl,hq⟩ h1,.cons ⟨rfl,rx⟩ h2⟩
theorem sY:∀ {kds:List (Key×PyData)} {kvs:List (Key×V)},Paired (λ(p:Key×W) (q:Key×V)=>p.1=q.1/\aC K H p.2 q.2) (cg kds) kvs->kvs.map (·.1)=kds.map (·.1)
 | [],_,.nil=>rfl
 | kd::kds,_,.cons r t=>by rw[List.map_cons,List.map_cons,sY t,<- r.1]
theorem lR:eQ K (λ xs H Q=>∃ p vs,∃ kvs:List (Key×V),xs=[.ref p]/\SqL K H p vs/\Paired (λ(v:V) (kv:Key×V)=>∃ a,v=.ref a/\SqT K H a [kV kv.1,kv.2]) vs kvs/\(kvs.map (·.1)).Nodup/\∀ l,H l=none->Q (.ref l) (upd H l (.dK kvs))) kj:=by intro vs H ws M Qd Q r m ⟨w,kds,e,g,nd,q⟩ k;subst e;obtain⟨v,e1,r1⟩:=eG r;obtain⟨p,ys,ev,hs,ra⟩:=g.sound r1 m;subst ev;obtain⟨kvs,h1,h2⟩:=jW ra;refine⟨p,ys,kvs,e1,hs,h1,by rw[sY h2];exact nd,λ l hl=>?_⟩;have kp:Kp H (upd H l (.dK kvs)):=Kp.new hl;exact k _ _ (.m l) _ kp rfl (m.put (mo:=.dic (cg kds)) kp ⟨kvs,aq,Paired.fM h2 λ p q z=>⟨z.1,z.2.keep kp⟩⟩) (q l (m.free hl))
end
end D
namespace Stc
open L2 D Rc
end Stc
namespace D
open L2
section
variable {X:Cx}{K:FG}
theorem tw:∀ {kvs:List (Key×W)} {l:List (Key×V)},Paired (λ(p:Key×W) (q:Key×V)=>p.1=q.1/\aC K H p.2 q.2) kvs l->l.length=kvs.length/\∀ (i:Nat) kv,l[i]? =some kv->∃ p,kvs[i]? =some p/\p.1=kv.1
 | _,_,.nil=>⟨rfl,λ i kv h=>by simp at h⟩
 | p::kvs,_,.cons r t=>by
  obtain⟨h1,h2⟩:=tw t;refine⟨by simp[h1],λ i kv h=>?_⟩;cases i with
  | zero=>simp at h;subst h;exact⟨p,rfl,r.1⟩
  | succ i=>simp at h;obtain⟨p',e,e'⟩:=h2 i kv h;exact⟨p',by simpa using e,e'⟩
def mN(td:TD)(τ:DS)(M:MH)(R:List W->MH->Prop):Prop:=td τ M λ w M1=>∃ a kvs,w=.m a/\M1 a=some (.fdic kvs)/\R (kvs.map λ p=>kW p.1) M1
def abf(t:TS):TS:=λ D σ H=>∃ a l,H a=some (.dK l)/\∀ o,t
 {nx:=λ σ' H'=>H' a=some (.frz o (.frz o (.dK l)))/\D.nx σ' (upd H' a (.dK l)),rt:=λ v H'=>H' a=some (.frz o (.frz o (.dK l)))/\D.rt v (upd H' a (.dK l)),
  bk:=λ σ' H'=>H' a=some (.frz o (.frz o (.dK l)))/\D.bk σ' (upd H' a (.dK l)),ct:=λ σ' H'=>H' a=some (.frz o (.frz o (.dK l)))/\D.ct σ' (upd H' a (.dK l))} σ (upd H a (.frz o (.frz o (.dK l))))
theorem uP{st:Stmt}{t:TS}(h:PS X st t):PS X st (abf t):=by
 intro pins s σ H D I ⟨a,l,ha,q⟩;obtain⟨o,I1⟩:=Inv.acU I ha;refine thn (h pins s σ _ _ I1 (q o)) λ f s1 hf=>?_;cases f with
 | next=>obtain⟨σ',H',I2,e,q2⟩:=hf;exact⟨σ',_,Inv.again I ha I2 e,q2⟩
 | brk=>obtain⟨σ',H',I2,e,q2⟩:=hf;exact⟨σ',_,Inv.again I ha I2 e,q2⟩
 | cont=>obtain⟨σ',H',I2,e,q2⟩:=hf;exact⟨σ',_,Inv.again I ha I2 e,q2⟩
 | ret u=>obtain⟨v,σ',H',I2,r,e,q2⟩:=hf;exact⟨v,σ',_,Inv.again I ha I2 e,r,q2⟩
def fT(t:TSd)(D:Ed)(τ:DS)(M:MH):Prop:=∃ a kvs,M a=some (.dic kvs)/\t
 {nx:=λ τ' M'=>M' a=some (.fdic kvs)/\D.nx τ' (ba M' a (.dic kvs)),rt:=λ w M'=>M' a=some (.fdic kvs)/\D.rt w (ba M' a (.dic kvs)),
  bk:=λ τ' M'=>M' a=some (.fdic kvs)/\D.bk τ' (ba M' a (.dic kvs)),ct:=λ τ' M'=>M' a=some (.fdic kvs)/\D.ct τ' (ba M' a (.dic kvs))} τ (ba M a (.fdic kvs))
theorem Abs.back(h:H a=some (.frz o (.frz o (.dK l))))(A:Abs K H σ τ M)(e:M a=some (.fdic kvs)):Abs K (upd H a (.dK l)) σ τ (ba M a (.dic kvs)):=
 ⟨A.len,λ i w q=>let ⟨v,q1,r⟩:=A.val i w q; ⟨v,q1,aC.back h r⟩,cO.back h A.mem e⟩
end
theorem js(ho:Jd (PD X o td)):Jd (PId X tg o (mN td)):=⟨have ho:=ho.h;abz (ph ho) λ σ H R hq82=>by
 obtain⟨τ,M,Rd,A,h,k⟩:=hq82;refine⟨τ,M,_,A,h,λ v H1 w M1 kp r m hq83=>?_⟩;obtain⟨a,kvs,ew,hm,q⟩:=hq83;subst ew;obtain⟨ob,l,e,pr⟩:=m _ _ hm;obtain⟨hlen,hget⟩:=tw pr;refine⟨a,ob,l,r,e,k _ H1 _ M1 kp m (λ H2 kp2 i=>?_) q⟩;have hlw:(kvs.map λ p=>kW p.1).length=l.length:=by rw[hlen];simp
 have e2:=kp2.frz a ob _ e;refine⟨λ hi=>⟨e2,by omega⟩,λ hi=>⟨e2,by omega⟩,λ x H' hi hq84=>?_⟩;obtain⟨eH,kv,hkv,ex⟩:=hq84;subst ex eH;obtain⟨p,e3,e4⟩:=hget i kv hkv;refine⟨Kp.refl _,λ M m=>m,kW p.1,by simp[e3],?_⟩;rw[e4];cases kv.1<;>simp[kW,oq,kV,aC,ax]⟩
theorem dn{st:Stmt}{t:TSd}(h:Jd (PSd X st t)):Jd (PSd X st (fT t)):=⟨have h:=h.h;nY (uP h) λ D σ H hq85=>by
 obtain⟨τ,M,Dd,A,⟨a,kvs,hm,q⟩,k1,k2,k3,k4⟩:=hq85;obtain⟨l,e,pr⟩:=A.mem _ _ hm;refine⟨a,l,e,λ o=>?_⟩;have kp:Kp H (upd H a (.frz o (.frz o (.dK l)))):=Kp.set e (λ _ z=>nomatch z) (λ _ _ z=>nomatch z);have m1:cO X.K (upd H a (.frz o (.frz o (.dK l)))) (ba M a (.fdic kvs)):=A.mem.put (mo:=.fdic kvs) kp ⟨o,l,aq,Paired.fM pr λ p q z=>⟨z.1,z.2.keep kp⟩⟩;have kpb:∀ H',Kp (upd H a (.frz o (.frz o (.dK l)))) H'->Kp H (upd H' a (.dK l)):=λ H' kp'=>⟨λ b xs z=>by
   have hb:b≠a:=λ y=>by rw[y,e] at z;cases z
   rw[aj hb];exact kp'.tup b xs (by rw[aj hb];exact z),λ b ob u z=>by
   have hb:b≠a:=λ y=>by rw[y,e] at z;cases z
   rw[aj hb];exact kp'.frz b ob u (by rw[aj hb];exact z)⟩
 refine⟨τ,_,_,A.go kp m1,q,?_,?_,?_,?_⟩
 ·rintro σ' H' τ' M' kp' A' ⟨h1,q1⟩;have e':=kp'.frz a o _ aq;exact⟨e',k1 _ _ _ _ (kpb H' kp') (Abs.back e' A' h1) q1⟩
 ·rintro v H' w M' kp' r' m' ⟨h1,q1⟩;have e':=kp'.frz a o _ aq;exact⟨e',k2 _ _ _ _ (kpb H' kp') (aC.back e' r') (cO.back e' m' h1) q1⟩
 ·rintro σ' H' τ' M' kp' A' ⟨h1,q1⟩;have e':=kp'.frz a o _ aq;exact⟨e',k3 _ _ _ _ (kpb H' kp') (Abs.back e' A' h1) q1⟩
 ·rintro σ' H' τ' M' kp' A' ⟨h1,q1⟩;have e':=kp'.frz a o _ aq;exact⟨e',k4 _ _ _ _ (kpb H' kp') (Abs.back e' A' h1) q1⟩⟩
end D
namespace S
open PySem PySem.W PyProof.Rows
end S
namespace D
open L2 S
section
variable {X:Cx}{K:FG}
end
def acd(M:MH):Nat->W->PyData->Prop
 | 0,w,d=>w=.d d
 | n+1,w,d=>w=.d d\/(∃ a ws ds,w=.m a/\M a=some (.lst ws)/\d=.list ds/\Paired (acd M n) ws ds)\/∃ a ws ds,w=.m a/\M a=some (.tup ws)/\d=.tuple ds/\Paired (acd M n) ws ds
theorem acd.d:∀ {n:Nat},acd M n (.d x) x
 | 0=>rfl
 | _+1=>.inl rfl
section
variable {X:Cx}{K:FG}
end
theorem oH(I:Inv X pins σ H s)(h:H a=some (.lst l)):(∀ xs,X.H₀ a≠some (.tup xs))/\(∀ o v,X.H₀ a≠some (.frz o v))/\∀ ps,X.H₀ a≠some (.tbl ps):=by
 refine⟨λ xs e=>?_,λ o v e=>?_,λ ps e=>?_⟩
 ·have:=I.base.tups a xs e;rw[h] at this;cases this
 ·have:=I.base.frzs a o v e;rw[h] at this;cases this
 ·obtain⟨m,this⟩:=I.base.tbls a ps e;rw[h] at this;cases this
theorem Inv.aa8(I:Inv X pins σ H s)(h:H a=some (.lst l)):∃ o,Inv X pins σ (upd H a (.frz o (.frz o (.lst l)))) s:=by have f:Fz (.lst l):=trivial;obtain⟨o,ho⟩:=(I.hok a _ h).obj f;obtain⟨b1,b2,b3⟩:=oH I h;exact⟨o,Inv.swap I h (λ _ z=>nomatch z) (λ _ z=>nomatch z) b1 b2 b3 ⟨ho,ho,(I.hok a _ h).abg f⟩⟩
theorem Inv.oP(I0:Inv X pins σ0 H0 s0)(h0:H0 a=some (.lst l))(I:Inv X pins σ H s)(h:H a=some (.frz o (.frz o (.lst l)))):Inv X pins σ (upd H a (.lst l)) s:=by have f:Fz (.lst l):=trivial;obtain⟨b1,b2,b3⟩:=oH I0 h0;exact Inv.swap I h (λ _ z=>nomatch z) (λ _ z=>nomatch z) b1 b2 b3 ((I.hok a _ h).2.2.abg f)
def xx(t:TS):TS:=λ D σ H=>∃ a l,H a=some (.lst l)/\∀ o,t
 {nx:=λ σ' H'=>H' a=some (.frz o (.frz o (.lst l)))/\D.nx σ' (upd H' a (.lst l)),rt:=λ v H'=>H' a=some (.frz o (.frz o (.lst l)))/\D.rt v (upd H' a (.lst l)),
  bk:=λ σ' H'=>H' a=some (.frz o (.frz o (.lst l)))/\D.bk σ' (upd H' a (.lst l)),ct:=λ σ' H'=>H' a=some (.frz o (.frz o (.lst l)))/\D.ct σ' (upd H' a (.lst l))} σ (upd H a (.frz o (.frz o (.lst l))))
theorem tI{st:Stmt}{t:TS}(h:PS X st t):PS X st (xx t):=by
 intro pins s σ H D I ⟨a,l,ha,q⟩;obtain⟨o,I1⟩:=Inv.aa8 I ha;refine thn (h pins s σ _ _ I1 (q o)) λ f s1 hf=>?_;cases f with
 | next=>obtain⟨σ',H',I2,e,q2⟩:=hf;exact⟨σ',_,Inv.oP I ha I2 e,q2⟩
 | brk=>obtain⟨σ',H',I2,e,q2⟩:=hf;exact⟨σ',_,Inv.oP I ha I2 e,q2⟩
 | cont=>obtain⟨σ',H',I2,e,q2⟩:=hf;exact⟨σ',_,Inv.oP I ha I2 e,q2⟩
 | ret u=>obtain⟨v,σ',H',I2,r,e,q2⟩:=hf;exact⟨v,σ',_,Inv.oP I ha I2 e,r,q2⟩
section
variable {K:FG}{H:Hp}{a:Addr}{o:Obj}{l:List V}
theorem Kp.bO(h:H a=some (.frz o (.frz o (.lst l)))):(∀ b xs,H b=some (.tup xs)->upd H a (.lst l) b=some (.tup xs))/\(∀ b ob ys,H b=some (.frz ob (.lst ys))->upd H a (.lst l) b=some (.frz ob (.lst ys)))/\∀ b ob ys,H b=some (.frz ob (.dK ys))->upd H a (.lst l) b=some (.frz ob (.dK ys)):=by
 refine⟨λ b xs e=>?_,λ b ob ys e=>?_,λ b ob ys e=>?_⟩<;>
 ·rw[aj (λ z=>by rw[z,h] at e;cases e)];exact e
theorem SqT.bO(h:H a=some (.frz o (.frz o (.lst l))))(r:SqT K H b vs):SqT K (upd H a (.lst l)) b vs:=by
 rcases r with (r | ⟨ob,r⟩) | r
 ·exact .inl (.inl ((Kp.bO h).1 _ _ r))
 ·refine .inl (.inr ⟨ob,?_⟩);rw[aj (λ z=>by rw[z,h] at r;cases r)];exact r
 ·exact .inr r
theorem SqF.bO(h:H a=some (.frz o (.frz o (.lst l))))(r:SqF K H b vs):SqF K (upd H a (.lst l)) b vs:=by
 rcases r with ⟨ob,r⟩ | r
 ·exact .inl ⟨ob,(Kp.bO h).2.1 _ _ _ r⟩
 ·exact .inr r
mutual
theorem ax.bO(h:H a=some (.frz o (.frz o (.lst l)))):∀ {d:PyData} {v:V},ax K H d v->ax K (upd H a (.lst l)) d v
 | .none,v,r=>by simp only[ax] at r ⊢;exact r
 | .bool b,v,r=>by simp only[ax] at r ⊢;exact r
 | .int i,v,r=>by simp only[ax] at r ⊢;exact r
 | .str x,v,r=>by simp only[ax] at r ⊢;exact r
 | .list ds,v,r=>by simp only[ax] at r ⊢;obtain⟨b,vs,e,q,r⟩:=r;exact⟨b,vs,e,SqF.bO h q,aS.bO h r⟩
 | .tuple ds,v,r=>by simp only[ax] at r ⊢;obtain⟨b,vs,e,q,r⟩:=r;exact⟨b,vs,e,SqT.bO h q,aS.bO h r⟩
 | .dict kvs,v,r=>by simp only[ax] at r ⊢;obtain⟨b,ob,m,e,q,r⟩:=r;exact⟨b,ob,m,e,(Kp.bO h).2.2 _ _ _ q,gn.bO h r⟩
theorem aS.bO(h:H a=some (.frz o (.frz o (.lst l)))):∀ {ds:List PyData} {vs:List V},aS K H ds vs->aS K (upd H a (.lst l)) ds vs
 | [],vs,r=>by simp only[aS] at r ⊢;exact r
 | d::ds,vs,r=>by simp only[aS] at r ⊢;obtain⟨v,q,e,h1,h2⟩:=r;exact⟨v,q,e,ax.bO h h1,aS.bO h h2⟩
theorem gn.bO(h:H a=some (.frz o (.frz o (.lst l)))):∀ {ds:List (PyData×PyData)} {m:List (Key×V)},gn K H ds m->gn K (upd H a (.lst l)) ds m
 | [],m,r=>by simp only[gn] at r ⊢;exact r
 | (key,d)::ds,m,r=>by simp only[gn] at r ⊢;obtain⟨k',v,q,e,ek,h1,h2⟩:=r;exact⟨k',v,q,e,ek,ax.bO h h1,gn.bO h h2⟩
end
theorem aC.bO(h:H a=some (.frz o (.frz o (.lst l)))):∀ {w:W} {v:V},aC K H w v->aC K (upd H a (.lst l)) w v
 | .d _,_,r=>ax.bO h r
 | .m _,_,r=>r
 | .t _,_,r=>r
theorem cO.bO(h:H a=some (.frz o (.frz o (.lst l))))(m:cO K H M)(e:M a=some (.flst ws0)):cO K (upd H a (.lst l)) (ba M a (.lst ws0)):=λ b mo q=>by
 by_cases hb:b=a
 ·subst hb;rw[ag] at q;cases q;obtain⟨o',l',e',pr⟩:=m _ _ e;rw[h] at e';cases e';exact⟨l,aq,Paired.fM pr λ _ _ z=>aC.bO h z⟩
 ·rw[aw hb] at q;have r:=m b mo q;cases mo with
  | lst ws=>obtain⟨vs,e,r⟩:=r;exact⟨vs,by rw[aj hb];exact e,Paired.fM r λ _ _ z=>aC.bO h z⟩
  | dic kvs=>obtain⟨l,e,r⟩:=r;exact⟨l,by rw[aj hb];exact e,Paired.fM r λ p q z=>⟨z.1,aC.bO h z.2⟩⟩
  | dct kvs=>obtain⟨l,e,r⟩:=r;exact⟨l,by rw[aj hb];exact e,Paired.fM r λ p q z=>⟨z.1,aC.bO h z.2⟩⟩
  | fdic kvs=>obtain⟨o,l,e,r⟩:=r;exact⟨o,l,by rw[aj hb];exact e,Paired.fM r λ p q z=>⟨z.1,aC.bO h z.2⟩⟩
  | ins C fs=>obtain⟨dx,l,e,r⟩:=r;exact⟨dx,l,by rw[aj hb];exact e,Paired.fM r λ p q z=>⟨z.1,aC.bO h z.2⟩⟩
  | tup ws=>obtain⟨vs,e,r⟩:=r;exact⟨vs,by rw[aj hb];exact e,Paired.fM r λ _ _ z=>aC.bO h z⟩
  | flst ws=>obtain⟨o,vs,e,r⟩:=r;exact⟨o,vs,by rw[aj hb];exact e,Paired.fM r λ _ _ z=>aC.bO h z⟩
  | exc C fs =>
   obtain⟨φ,dct,e,p,r⟩:=r;refine⟨φ,dct,by rw[aj hb];exact e,p,?_⟩;rcases r with r | ⟨dx,o',l',e1,e2,r⟩
   ·exact .inl r
   ·exact .inr ⟨dx,o',l',e1,by rw[aj (λ z=>by rw[z,h] at e2;cases e2)];exact e2,Paired.fM r λ p q z=>⟨z.1,aC.bO h z.2⟩⟩
  | code q pos =>
   obtain⟨ps,e,ht,hc⟩:=r;refine⟨ps,by rw[aj hb];exact e,ht,?_⟩;rcases hc with hc | ⟨c,o',vs,t,e1,e2,e3⟩
   ·exact .inl hc
   ·exact .inr ⟨c,o',vs,t,e1,by rw[aj (λ z=>by rw[z,h] at e2;cases e2)];exact e2,e3⟩
theorem Abs.bO(h:H a=some (.frz o (.frz o (.lst l))))(A:Abs K H σ τ M)(e:M a=some (.flst ws0)):Abs K (upd H a (.lst l)) σ τ (ba M a (.lst ws0)):=
 ⟨A.len,λ i w q=>let ⟨v,q1,r⟩:=A.val i w q; ⟨v,q1,aC.bO h r⟩,cO.bO h A.mem e⟩
end
theorem iQ(e:H a=some (.lst l))(kp':Kp (upd H a (.frz o (.frz o (.lst l)))) H'):Kp H (upd H' a (.lst l)):=⟨λ b xs z=>by
  have hb:b≠a:=λ y=>by rw[y,e] at z;cases z
  rw[aj hb];exact kp'.tup b xs (by rw[aj hb];exact z),λ b ob u z=>by
  have hb:b≠a:=λ y=>by rw[y,e] at z;cases z
  rw[aj hb];exact kp'.frz b ob u (by rw[aj hb];exact z)⟩
def iP(t:TSd)(D:Ed)(τ:DS)(M:MH):Prop:=∃ a ws,M a=some (.lst ws)/\t
 {nx:=λ τ' M'=>M' a=some (.flst ws)/\D.nx τ' (ba M' a (.lst ws)),rt:=λ w M'=>M' a=some (.flst ws)/\D.rt w (ba M' a (.lst ws)),
  bk:=λ τ' M'=>M' a=some (.flst ws)/\D.bk τ' (ba M' a (.lst ws)),ct:=λ τ' M'=>M' a=some (.flst ws)/\D.ct τ' (ba M' a (.lst ws))} τ (ba M a (.flst ws))
abbrev oV(o:Obj)(l:List V):HO:=.frz o (.frz o (.lst l))
theorem jr(ok:HOk P w H h)(e:H a=some (oV o l)):∃ its:List Value,Vals l its/\h.IsList a its.toArray:=by obtain⟨ho,_,z,its,n,r,h1⟩:=ok a _ e;exact⟨its,r,⟨_,h1,rfl,n,rfl⟩⟩
def Itf(a:Addr)(o:Obj)(l:List V):It:=
 ⟨λ i H=>H a=some (oV o l)/\i<l.length,λ i H x H'=>H'=H/\l[i]? =some x,λ i H=>H a=some (oV o l)/\l.length<=i⟩
theorem qj{P:Program}{w:World}{K:FG}{tg:Expr}(a it:Addr)(o:Obj)(l:List V):Turn P w K tg (Itf a o l) [it] it (λ i h=>h.IsListIter it a i) where
 mem:=by simp
 obj:=λ i h st b hb=>by
  have e:b=it:=by simpa using hb
  subst e;obtain⟨o,e,c,d⟩:=st;exact⟨o,e,λ v z=>by rw[d] at z;cases z⟩
 keep:=λ i h h' st k=>st.at λ o e=>k it (by simp) o e
 item:=by intro X hP hw hK hc i pins s σ H E I hf st ⟨hg,hi⟩;subst hP hw hK;obtain⟨its,rv,p⟩:=jr I.hok hg;obtain⟨u,hu,ru⟩:=rv.get (List.getElem?_eq_getElem hi);obtain⟨f0,f1,f2,f3,f4,f5⟩:=hf it (by simp);refine wpAny_pyNext_list_item st p (x:=u) (by simpa using hu) λ h' st' sb=>?_;have I1:Inv X pins σ H {s with heap:=h'}:=I.turned (t':=s.toks) (λ b o hb e=>(sb.2 b hb).trans e) f0 f1 f3 f4 f5;obtain⟨o,e,c,d⟩:=id st';exact⟨u,rfl,p9 (s:={s with heap:=h'}) e c d (by decide) ⟨_,H,I1,ru,⟨rfl,List.getElem?_eq_getElem hi⟩,st',λ b hb=>(hf b hb).1⟩⟩
 done:=by intro X hP hw hK hc i pins s σ H E I hf st ⟨hg,hi⟩;subst hP hw hK;obtain⟨its,rv,p⟩:=jr I.hok hg;obtain⟨f0,f1,f2,f3,f4,f5⟩:=hf it (by simp);have hl:=rv.length;exact wpAny_pyNext_list_end (I.ok.hd hc) st p (by simp;omega) λ h' eb=>⟨rfl,I.turned (t':=s.toks) (λ b o hb e=>eb b o hb e) f0 f1 f3 f4 f5⟩
 self:=λ _ _ _ _ _ st h=>wpAny_pyIter_listiter st h
def abL(td:TE):TI:=λ σ H R=>td σ H λ x H1=>∃ a o l,x=.ref a/\H1 a=some (oV o l)/\R (Itf a o l) H1
theorem vd{td:TE}(ho:PE X o td):PI X tg o (abL td):=by
 intro pins s σ H R I h;refine thn (ho pins s σ H _ I h) λ v s1 hq87=>?_;obtain⟨x,H1,I1,r1,a,ob,l,ex,hg,q⟩:=hq87;subst ex;cases r1;obtain⟨its,rv,p⟩:=jr I1.hok hg;refine wpAny_pyIter_list p ?_;refine⟨s1.heap.objs.size,[s1.heap.objs.size],_,_,H1,rfl,I1.kept (t':=s1.toks) λ b o e=>Heap.get?_push_of_some _ e,qj a _ ob l,⟨_,Heap.get?_push_size _ rfl,rfl,rfl⟩,λ b hb=>?_,q⟩;have e:b=s1.heap.objs.size:=by simpa using hb
 subst e;exact I1.qo (Nat.le_refl _) (I1.hok.fresh (Nat.le_refl _))
def kR(td:TD)(τ:DS)(M:MH)(R:List W->MH->Prop):Prop:=td τ M λ w M1=>∃ a ws,w=.m a/\M1 a=some (.flst ws)/\R ws M1
end D
namespace D
open L2
theorem ji{st:Stmt}{t:TSd}(h:Jd (PSd X st t)):Jd (PSd X st (iP t)):=⟨have h:=h.h;nY (tI h) λ D σ H hq86=>by
 obtain⟨τ,M,Dd,A,⟨a,ws,hm,q⟩,k1,k2,k3,k4⟩:=hq86;obtain⟨l,e,pr⟩:=A.mem _ _ hm;refine⟨a,l,e,λ o=>?_⟩;have kp:Kp H (upd H a (.frz o (.frz o (.lst l)))):=Kp.set e (λ _ z=>nomatch z) (λ _ _ z=>nomatch z);have m1:cO X.K (upd H a (.frz o (.frz o (.lst l)))) (ba M a (.flst ws)):=A.mem.put (mo:=.flst ws) kp ⟨o,l,aq,bz.keep kp pr⟩;refine⟨τ,_,_,A.go kp m1,q,?_,?_,?_,?_⟩
 ·rintro σ' H' τ' M' kp' A' ⟨h1,q1⟩;have e':=kp'.frz a o _ aq;exact⟨e',k1 _ _ _ _ (iQ e kp') (Abs.bO e' A' h1) q1⟩
 ·rintro v H' w M' kp' r' m' ⟨h1,q1⟩;have e':=kp'.frz a o _ aq;exact⟨e',k2 _ _ _ _ (iQ e kp') (aC.bO e' r') (cO.bO e' m' h1) q1⟩
 ·rintro σ' H' τ' M' kp' A' ⟨h1,q1⟩;have e':=kp'.frz a o _ aq;exact⟨e',k3 _ _ _ _ (iQ e kp') (Abs.bO e' A' h1) q1⟩
 ·rintro σ' H' τ' M' kp' A' ⟨h1,q1⟩;have e':=kp'.frz a o _ aq;exact⟨e',k4 _ _ _ _ (iQ e kp') (Abs.bO e' A' h1) q1⟩⟩
theorem jf(ho:Jd (PD X o td)):Jd (PId X tg o (kR td)):=⟨have ho:=ho.h;abz (vd ho) λ σ H R hq88=>by obtain⟨τ,M,Rd,A,h,k⟩:=hq88;refine⟨τ,M,_,A,h,λ v H1 w M1 kp r m hq89=>?_⟩;obtain⟨a,ws,ew,hm,q⟩:=hq89;subst ew;obtain⟨ob,l,e,pr⟩:=m _ _ hm;refine⟨a,ob,l,r,e,k _ H1 _ M1 kp m (λ H2 kp2 i=>?_) q⟩;have hl:=pr.length;have e2:=kp2.frz a ob _ e;refine⟨λ hi=>⟨e2,by omega⟩,λ hi=>⟨e2,by omega⟩,λ x H' hi hq90=>?_⟩;obtain⟨eH,ex⟩:=hq90;subst eH;have hi2:i<ws.length:=hi;obtain⟨x',ex',rx⟩:=bz.get (bz.keep kp2 pr) (List.getElem?_eq_getElem hi2);rw[ex'] at ex;cases ex;exact⟨Kp.refl _,λ M m=>m,ws[i],List.getElem?_eq_getElem hi2,rx⟩⟩
theorem acx(h:us.length=0):us=[]:=by exact List.eq_nil_of_length_eq_zero h
theorem xq(h:us.length=1):∃ a1:Value,us=[a1]:=by
 cases us with
 | nil=>simp at h
 | cons a r =>
  have e:r=[]:=acx (by simpa using h);subst e;exact⟨a,rfl⟩
theorem aaE(h:us.length=2):∃ a1 a2:Value,us=[a1,a2]:=by
 cases us with
 | nil=>simp at h
 | cons a r =>
  obtain⟨b1,e⟩:=xq (us:=r) (by simpa using h);subst e;exact⟨a,b1,rfl⟩
theorem yr(h:us.length=3):∃ a1 a2 a3:Value,us=[a1,a2,a3]:=by
 cases us with
 | nil=>simp at h
 | cons a r =>
  obtain⟨b1,b2,e⟩:=aaE (us:=r) (by simpa using h);subst e;exact⟨a,b1,b2,rfl⟩
theorem adz(h:us.length=4):∃ a1 a2 a3 a4:Value,us=[a1,a2,a3,a4]:=by
 cases us with
 | nil=>simp at h
 | cons a r =>
  obtain⟨b1,b2,b3,e⟩:=yr (us:=r) (by simpa using h);subst e;exact⟨a,b1,b2,b3,rfl⟩
section
variable {X:Cx}{K:FG}
end
section
variable {X:Cx}{K:FG}
end
section
variable {X:Cx}{K:FG}
theorem qJ:eC X (.builtin "len") (λ xs H Q=>∃ a kvs,xs=[.ref a]/\H a=some (.dK kvs)/\Q (.int kvs.length) H):=by intro pins s σ H xs us Q I r h;obtain⟨a,kvs,rfl,ha,q⟩:=h;obtain⟨u,rfl,rx⟩:=vals1 r;cases rx;obtain⟨z,hd,vs,rel,dd⟩:=vn I.hok ha;refine call_len_dict hd dd (by rw[<- rel.length];rw[sizeLine_eq] at z;omega) ?_;rw[<- rel.length];exact⟨.int _,H,I.tok _,⟨_,rfl⟩,q⟩
def wb(ws:List W)(M:MH)(Q:QD):Prop:=∃ a kvs,ws=[.m a]/\M a=some (.dic kvs)/\Q (.d (.int (kvs.length:Nat))) M
theorem xN:eQ K (λ xs H Q=>∃ a kvs,xs=[.ref a]/\H a=some (.dK kvs)/\Q (.int kvs.length) H) wb:=by intro vs H ws M Qd Q r m ⟨a,kvs,e,hm,q⟩ k;subst e;obtain⟨v,e1,r1⟩:=eG r;have e2:v=.ref a:=r1;subst e2;obtain⟨l,e,pr⟩:=m _ _ hm;refine⟨a,l,e1,e,?_⟩;rw[<- Paired.length pr];exact k _ _ (.d (.int _)) M (Kp.refl _) (by simp[aC,ax]) m q
end
section
variable {K:FG}
variable {X:Cx}{sc:Scope}{own:List Str}{fr:List Nat}{di:TId}{g:TGd}{tt:TTd}{te:TD}{tg iter elt:Expr}{ifs:List Expr}{pos:Pos}
end
section
variable {X:Cx}{tg iter elt:Expr}{pos:Pos}{sc:Scope}{own:List Str}{fr:List Nat}{di:TId}{g:TGd}{tt:TTd}{te:TD}{ifs:List Expr}
end
end D
namespace XO
open PySem.W Builtin.ObjectAttr
section
variable {prog:Program}{w:World}{A:Around}{E:VP}{s:Shared}{K:Frag}{x C:Addr}{name:Str}{v:Value}
end
section
variable {prog:Program}{w:World}{A:Around}{E:VP}{s:Shared}{K:Frag}{x C:Addr}{name:Str}{v:Value}{ox:Obj}{od:Option Obj}
end
section
variable {prog:Program}{w:World}{A:Around}{E:VP}{K:Frag}{C f:Addr}{h:Heap}{g:Array GenState}{d:Drawn}{t:Nat}{os:OsState}
end
end XO
namespace L2
open XO
end L2
namespace D
open L2 XO
section
variable {P:Program}{w:World}{K:FG}{mg:Str->Option Value}{base:Heap}
end
end D
namespace XO
open PySem.W
section
variable {prog:Program}{w:World}{A:Around}{E:VP}{s:Shared}{K:Frag}{env:PySem.Env}
end
end XO
namespace L2
open XO
section
variable {P:Program}{w:World}{K:FG}{mg:Str->Option Value}{base:Heap}{C f:Addr}{fd:FuncData}{qual:Str}{st:Stmt}
end
end L2
namespace D
open L2 XO
end D
namespace L2
open XO
end L2
namespace D
open L2 XO
section
variable {X:Cx}{pos np hpos:Pos}{body suite:List Stmt}{b0:Stmt}{hs:List ExceptHandler}{h0:ExceptHandler}{tb:XE->TSd}{th rest:Addr->TSd}{ts:TSd}
end
section
variable {X:Cx}{pos p p' apos cpos np hpos:Pos}{k:Nat}{f C:Addr}{fd:FuncData}{ps fs:List Str}{sp:SpX}{x m n:Str}{e o:Expr}{es:List Expr}{t:TAd}{td:TD}{E:XE}
variable {body suite:List Stmt}{b0:Stmt}{hs:List ExceptHandler}{h0:ExceptHandler}{tb:XE->TSd}{th rest:Addr->TSd}{ts:TSd}
end
section
variable {X:Cx}{K:FG}
end
section
variable {X:Cx}{K:FG}
def wX(d:PyData)(ds:List PyData):Bool:=lM d&&lM (.list ds)
def inA(d:PyData)(ds:List PyData):Bool:=ds.any λ y=>PyData.eqv y d
theorem tZ(hr:gR k A)(h:SeqAt.shaped d=true):A.units+1+min (PyData.depthAll ds) d.depth<cLine:=by have h1:=SeqAt.depth_of_shaped h;have h2:min (PyData.depthAll ds) d.depth<=d.depth:=Nat.min_le_right _ _;have:=hr.un;omega
theorem lE(hr:gR k X.A):OpR X (compareOp .NotIn) (λ x y H Q=>∃ d ds,k7 X.K H d x/\(k7 X.K H (.list ds) y\/ax X.K H (.tuple ds) y)/\wX d ds=true/\Q (.bl (!inA d ds)) H):=by
 intro pins s σ H x y v u Q I rx ry h;obtain⟨d,ds,h1,h2,o,q⟩:=h;simp only[wX,lM,Bool.and_eq_true,Bool.not_eq_true'] at o;obtain⟨⟨o1,o2⟩,o3,o4⟩:=o;obtain⟨as,r1⟩:=d5 I d h1 rx o2;have c3:=SeqAt.canLay_of_shaped o3;rcases h2 with h2 | h2
 ·obtain⟨bs,r2⟩:=d5 I (.list ds) h2 ry o4;exact SeqAt.notIn_list_reads r2 r1 c3 (SeqAt.canLay_of_shaped o1) (tZ hr o1) ⟨.bl _,H,I,rfl,q⟩
 ·obtain⟨bs,r2⟩:=cX I (.tuple ds) h2 ry o4;exact SeqAt.notIn_tuple_reads r2 r1 c3 (SeqAt.canLay_of_shaped o1) (tZ hr o1) ⟨.bl _,H,I,rfl,q⟩
def xW(neg:Bool)(w w':W)(M:MH)(Q:QD):Prop:=∃ d ds,qO M w d/\(qO M w' (.list ds)\/w'=.d (.tuple ds))/\wX d ds=true/\Q (.d (.bool (xor neg (inA d ds)))) M
theorem jU:OpD K (λ x y H Q=>∃ d ds,k7 K H d x/\(k7 K H (.list ds) y\/ax K H (.tuple ds) y)/\wX d ds=true/\Q (.bl (!inA d ds)) H) (xW true):=by
 intro x y H w w' M Qd Q r1 r2 m ⟨d,ds,g1,g2,o,q⟩ k;refine⟨d,ds,g1.sound r1 m,?_,o,k _ H (.d (.bool (!inA d ds))) M (Kp.refl H) (by simp[aC,ax]) m (by simpa using q)⟩;rcases g2 with g2 | rfl
 ·exact .inl (g2.sound r2 m)
 ·exact .inr r2
end
end D
namespace PySem.SeqAt
open MeetsSeq MeetsSeq2 MeetsSeq3 SeqRoads2
end PySem.SeqAt
namespace ZT
end ZT
namespace D
open L2
section
variable {X:Cx}{K:FG}{a b:Expr}{p pos:Pos}{t:TAd}
end
section
variable {X:Cx}{K:FG}
end
section
variable {X:Cx}{K:FG}
end
section
variable {X:Cx}{e st:Expr}{te:TE}{ts:TO}{pos p2:Pos}
end
section
variable {X:Cx}{K:FG}{e st:Expr}{te:TD}{ts:TOd}{pos p2:Pos}
end
section
variable {X:Cx}{e st:Expr}{a:Addr}{x:Str}{kvs:List (Str×PyData)}{pos p p2:Pos}{te:TD}{ts:TOd}
end
end D
namespace XO
open PySem.W
section
variable {prog:Program}{w:World}{A:Around}{E:VP}{K:Frag}{C:Addr}{h:Heap}{g:Array GenState}{d:Drawn}{t:Nat}{os:OsState}
end
end XO
namespace D
open L2 XO
section
variable {X:Cx}{pos p cpos np hpos:Pos}{k:Nat}{f C:Addr}{x:Str}{e:Expr}{es:List Expr}{t:TAd}{E:XE}
variable {body suite:List Stmt}{b0:Stmt}{hs:List ExceptHandler}{th rest:Addr->TSd}{ts:TSd}
end
section
variable {X:Cx}{K:FG}
variable {o e:Expr}{td te:TD}{apos cpos:Pos}
end
section
variable {X:Cx}{e st:Expr}{te:TE}{ts:TO}{pos p2:Pos}
end
section
variable {X:Cx}{e st:Expr}{te:TD}{ts:TOd}{pos p2:Pos}
end
section
variable {X:Cx}{K:FG}
end
section
variable {X:Cx}{pos p cpos apos np hpos p2:Pos}{k:Nat}{f C:Addr}{x y:Str}{e o st:Expr}{es:List Expr}{t:TAd}{E:XE}{body suite:List Stmt}{b0:Stmt}{hs:List ExceptHandler}{rest:Addr->TSd}{ts:TSd}{fd:FuncData}{ps:List Str}{sp:SpX}{td te:TD}{to:TOd}
end
end D
namespace ZS
end ZS
namespace D
open L2
section
variable {X:Cx}{K:FG}
end
end D
namespace RT
end RT
namespace D
open L2
section
variable {X:Cx}{K:FG}
variable {o e:Expr}{td:TD}{apos cpos:Pos}
variable {a:Expr}{ta:TA}{p p2 pos pos2:Pos}
end
end D
namespace L2
open PySem.W (envX kla_obj kla_fn)
def um(X:Cx)(q:Str)(sc:Scope)(N':List Str)(cl:List (Str×Addr))(f c:Addr)(s:Shared)(H:Hp)(pins:PN):Cx:=
 {X with A:=X.A.deeper (envX q sc s.heap.objs.size f (.ref c) cl),N:=N',s₀:=s,H₀:=H,env:=envX q sc s.heap.objs.size f (.ref c) cl,outer:=X.stack,stack:=envX q sc s.heap.objs.size f (.ref c) cl::X.stack,ex:=[],fn:=λ _=>false,calm:=true,pn:=X.pn++pins,xe:=λ _ _=>False}
structure lZ(X:Cx)(sc:Scope)(x:Str)(fr:List Nat):Prop where
 kind:sc.kind=.function
 co:sc.isCoroutine=false
 gen:sc.isGenerator=false
 cell:∀ y∈sc.names,y.2 ≠ .cell
 free:∀ y∈sc.names,y.2=.free->(X.env.kindOf y.1=some .cell\/X.env.kindOf y.1=some .free)
 own:sc.names.lookup x=some .local
 fr:zp X.N sc fr=true
def qG(X:Cx)(x:Str)(fr:List Nat):List Str:=x::fr.map λ j=>X.N.getD j Str.empty
def abU(v:V)(fr:List Nat)(σ:St):St:=some v::fr.map λ j=>(σ[j]?).getD none
section
variable {X:Cx}{pins:PN}{σ:St}{H:Hp}{s:Shared}{sc:Scope}{x q:Str}{fr:List Nat}{cl:List (Str×Addr)}{f c:Addr}
theorem aaZ(L:lZ X sc x fr)(hc:X.calm=true)(I:Inv X pins σ H s)(c1:∀ n c,cl.lookup n=some c->X.env.cells.lookup n=some c)(c2:∀ n,(n,NameKind.free)∈sc.names->∃ c,cl.lookup n=some c):(um X q sc (qG X x fr) cl f c s H pins).Ok where
 mod:=I.ok.mod
 kind:=L.kind
 glob:=rfl
 blt:=rfl
 above:=Nat.le_refl _
 inj:=λ x y c a b=>I.ok.inj x y c (c1 _ _ a) (c1 _ _ b)
 has:=λ y hy=>by
  have hy:sc.names.lookup y=some .cell\/sc.names.lookup y=some .free:=hy;rcases hy with hy | hy
  ·exact absurd rfl (L.cell _ (PySem.mem_of_lookup hy))
  ·exact c2 y (PySem.mem_of_lookup hy)
 cab:=λ x c z=>absurd (show false=true from z) Bool.false_ne_true
 hd:=λ _=>I.ok.hd hc
 frames:=Around.frames_deeper I.ok.frames
 stk:=.inr ⟨rfl,rfl⟩
 exf:=λ b z=>nomatch z
 bs:=I.bs
 bsz:=Nat.le_trans I.ok.bsz I.sz
 noex:=λ b o e z=>nomatch z
 exfs:=λ b z=>nomatch z
 mH:=I.stack
 frf:=I.kg
theorem yZ(L:lZ X sc x fr)(hc:X.calm=true)(I:Inv X pins σ H s)(c1:∀ n c,cl.lookup n=some c->X.env.cells.lookup n=some c)(c2:∀ n,(n,NameKind.free)∈sc.names->∃ c,cl.lookup n=some c)
  {h1:Heap}{tk:Nat}{v:V}{u:Value}(rv:RelV v u)(hn:h1.Ns s.heap.objs.size (λ y=>[(x,u)].reverse.lookup y))(k:∀ b o,s.heap.get? b=some o->h1.get? b=some o) :
  Inv (um X q sc (qG X x fr) cl f c s H pins) [] (abU v fr σ) H {s with heap:=h1,toks:=tk}:=by
 have ok:=aaZ (q:=q) (f:=f) (c:=c) L hc I c1 c2;refine⟨ok,rfl,I.bare,Un.kept k,⟨_,hn,λ i y v' e1 e2 e3=>?_⟩,λ y c e=>?_,I.hok.fresh (Nat.le_refl _),λ y c e=>I.freeC y c (c1 _ _ e),λ p hp=>?_,I.hok.kept k,?_⟩
 ·cases i with
  | zero =>
   have e1':some x=some y:=e1;have e2':some (some v)=some (some v'):=e2;cases e1';cases e2';exact⟨u,rv,.inl ⟨L.own,by simp⟩⟩
  | succ i =>
   have e1':(fr.map λ j=>X.N.getD j Str.empty)[i]? =some y:=e1;have e2':(fr.map λ j=>(σ[j]?).getD none)[i]? =some (some v'):=e2;rw[List.getElem?_map] at e1' e2';cases hq:fr[i]? with
   | none=>rw[hq] at e1';cases e1'
   | some j =>
    rw[hq] at e1' e2';obtain⟨z,hz,hzf⟩:=kH L.fr (List.mem_of_getElem? hq);have ex:z=y:=by have:=Option.some.inj e1';rw[<- this];simp[List.getD,hz]
    subst ex;have ev:σ[j]? =some (some v'):=by
     have z':(σ[j]?).getD none=some v':=Option.some.inj e2';cases w:σ[j]? with
     | none=>rw[w] at z';cases z'
     | some o=>rw[w] at z';exact congrArg some z'
    have hm:(z,NameKind.free)∈sc.names:=PySem.mem_of_lookup hzf;have hk:=L.free _ hm rfl;have vis:Vis X.env.scope z:=by
     rcases hk with w | w
     ·exact .inr (.inl w)
     ·exact .inr (.inr w)
    obtain⟨m0,hn0,hl⟩:=I.loc;obtain⟨u',r,l⟩:=hl j z v' hz ev vis;refine⟨u',r,.inr ⟨.inr hzf,?_⟩⟩;obtain⟨c',hc'⟩:=c2 z hm;rcases l with ⟨w,_⟩ | ⟨_,c'',hc'',hcell⟩
    ·rcases hk with q' | q'
     ·exact absurd (show X.env.kindOf z=some .local from w) (by rw[q'];decide)
     ·exact absurd (show X.env.kindOf z=some .local from w) (by rw[q'];decide)
    ·have:c'=c'':=Option.some.inj ((c1 _ _ hc').symm.trans hc'');subst this;obtain⟨o,ho,hd⟩:=hcell;exact⟨c',hc',o,k _ _ ho,hd⟩
 ·obtain⟨w,o,ho,hd⟩:=I.cell y c (c1 _ _ e);exact⟨w,o,k _ _ ho,hd⟩
 ·have hp':p∈X.pn++pins:=by simpa [um] using hp
  obtain⟨a1,a2,a3,a4,a5⟩:=I.pin p hp';refine⟨k _ _ a1,a2,Nat.ne_of_lt (Heap.lt_size a1),λ z=>?_,a5⟩;rcases List.mem_cons.mp (I.eI _ z) with e | e
  ·exact a3 e
  ·exact a4 e
 ·show(abU v fr σ).length=(qG X x fr).length;simp[abU,qG]
def zN(H:Hp)(q x:Str)(params:Arguments)(body:Expr)(sc:Scope)(cl:List (Str×Addr))(pm:Value)(f:Addr):Prop:=
 ∃ c ctv oc vs t,H f=some (.frz (kla_obj "<lambda>" q params body sc cl pm c ctv) (.own 0))/\H c=some (.frz oc (.own 0))/\oc.data=.fields vs/\vs[1]? =some (.str q t)
theorem yG{k:Nat}{E:VP}{params:Arguments}{body:Expr}{pm:Value}{te:TE}{v:V}{u:Value}{Q:VK}(hr:er (k+1) X.A)(hc:X.calm=true)(L:lZ X sc x fr)(c1:∀ n c,cl.lookup n=some c->X.env.cells.lookup n=some c)(c2:∀ n,(n,NameKind.free)∈sc.names->∃ c,cl.lookup n=some c)
  (hb:∀ cdv ctv u,bindArgs (kla_fn "<lambda>" q params body sc cl pm cdv ctv) ⟨[u],[]⟩=pure [(x,u)])
  (he:∀ c s H pl,er k (um X q sc (qG X x fr) cl f c s H pl).A->PE (um X q sc (qG X x fr) cl f c s H pl) body te)
  (I:Inv X pins σ H s)(hf:zN H q x params body sc cl pm f)(rv:RelV v u)(h:te (abU v fr σ) H Q):wpAny (model X.prog X.w) X.A (call (.ref f) [u]) (EP X pins σ Q) E s:=by
 obtain⟨c,ctv,oc,vs,t,h1,h2,h3,h4⟩:=hf;obtain⟨g1,_⟩:=I.hok f _ h1;obtain⟨g2,_⟩:=I.hok c _ h2;refine wpAny_call (W.kla_callFunE hr.depth g1 rfl L.co L.gen rfl ⟨c,oc,vs,t,rfl,g2,h3,h4⟩ ?_);rw[hb];refine wpAny_pure (wpAny_newFunctionEnv L.cell (λ y hy=>by rw[List.mem_singleton.mp hy];exact L.own) (λ h₁ hns hsb=>⟨(I.nolimit).fresh _ hsb,?_⟩) L.kind);have hk₁:∀ b o,s.heap.get? b=some o->h₁.get? b=some o:=λ b o e=>hsb.extBut b o (Nat.ne_of_lt (Heap.lt_size e)) (Heap.get?_push_of_some _ e);have J:=yZ (q:=q) (f:=f) (c:=c) (tk:=s.toks+1) L hc I c1 c2 rv hns hk₁;have hr':er k (um X q sc (qG X x fr) cl f c s H pins).A:=hr.deeper _;refine W.kla_codeExpr (wpAny_mono (he c s H pins hr' [] _ _ _ _ J h) (λ u' s' hh=>?_) λ _ _ z=>z.elim);obtain⟨v',H',J',r',q'⟩:=hh;exact I.after ⟨v',H',J'.os,J'.bare,J'.base,J'.hok,r',q'⟩
end
section
variable {X:Cx}{pins:PN}{σ:St}{H:Hp}{s:Shared}
theorem Inv.yT{P:Addr}{ps more:Array Value}{h':Heap}{t':Nat}(I:Inv X pins σ H s)(hP:H P=some (.tbl ps))(k:∀ b u,b≠P->s.heap.get? b=some u->h'.get? b=some u)(e:h'.get? P=some {cls:=.none,data:=.fields (ps++more)}) :
  Inv X pins σ (upd H P (.tbl (ps++more))) {s with heap:=h',toks:=t'}:=by
 have nn:∀ b,H b=none->b≠P:=λ b n=>Ne.symm (aE hP n);have nt:∀ b xs,H b=some (.tup xs)->b≠P:=λ b xs q=>pZ q hP (λ z=>nomatch z);have nf:∀ b o u,H b=some (.frz o u)->b≠P:=λ b o u q=>pZ q hP (λ z=>nomatch z);have no:∀ b y,H b=some (.own y)->b≠P:=λ b y q=>pZ q hP (λ z=>nomatch z);refine I.un ⟨λ b o q n _ _=>k b o (nn b n) q,λ b o q n _ _=>⟨o.slots,k b o (nn b n) q⟩,λ b o _ n _=>by rw[aj (nn b n)];exact n,λ b o q _=>?_,λ b xs q=>by rw[aj (nt b xs q)];exact q,λ b o u q=>by rw[aj (nf b o u q)];exact q,λ b qs q=>?_⟩ λ b u q=>?_
 ·by_cases hb:b=P
  ·subst hb;exact⟨_,e⟩
  ·exact⟨o,k b o hb q⟩
 ·by_cases hb:b=P
  ·subst hb;rw[hP] at q;cases q;exact⟨more,aq⟩
  ·exact⟨#[],by rw[aj hb,q];simp⟩
 ·by_cases hb:b=P
  ·subst hb;rw[aq] at q;cases q;exact e
  ·rw[aj hb] at q;exact(I.hok b u q).qV (λ c v hc r=>k c v (by rcases hc with z | z;rw[z];exact hb;exact no c _ z) r) (λ c r=>by rw[aj (no c _ r)];exact r) λ c xs r=>by rw[aj (nt c xs r)];exact r
theorem Inv.hold{D:Addr}{ob:Obj}(I:Inv X pins σ H s)(e:s.heap.get? D=some ob)(hn:H D=none)
  (h0:X.s₀.heap.objs.size<=D)(hL:D≠X.env.locals)(hc:∀ x c,X.env.cells.lookup x=some c->c≠D)(hp:∀ p∈X.pn++pins,p.1≠D):Inv X pins σ (upd H D (.frz ob (.own 0))) s:=by
 have ne:∀ b u,H b=some u->b≠D:=λ b u q=>aE q hn;refine I.step (h':=s.heap) (g':=s.gens) (d':=s.drawn) (t':=s.toks) (ch:=[D]) (λ b hb=>?_) (λ b o _ _ _ q _=>q) (λ b o _ _ _ q _=>⟨o.slots,q⟩) (λ b o hb q n=>?_) (λ b o _ q=>⟨o,q⟩)
  (λ b xs q=>by rw[aj (ne b _ q)];exact q) (λ b o u q=>by rw[aj (ne b _ q)];exact q) (λ b ps q=>⟨#[],by rw[aj (ne b _ q),q];simp⟩) (λ m hm=>hm) (λ b u q=>?_) I.bare
 ·have e:b=D:=by simpa using hb
  subst e;exact⟨.inr h0,hL,hc,hp⟩
 ·rw[aj (λ z=>hb (by simp[z]))];exact n
 ·by_cases hb:b=D
  ·subst hb;rw[aq] at q;cases q;exact⟨e,ob,e⟩
  ·rw[aj hb] at q;exact(I.hok b u q).qV (λ _ _ _ q=>q) (λ c r=>by rw[aj (ne c _ r)];exact r) λ c xs r=>by rw[aj (ne c _ r)];exact r
def acO(X:Cx)(sc:Scope)(cl:List (Str×Addr)):Prop:=(∀ n c,cl.lookup n=some c->X.env.cells.lookup n=some c)/\∀ n,(n,NameKind.free)∈sc.names->∃ c,cl.lookup n=some c
abbrev kI(ps:Array Value)(lpos:Pos)(c:Addr):Array Value:=ps ++ #[rawInt lpos.line,rawInt lpos.col,.ref c]
def adP(X:Cx)(P:Addr)(q:Str)(params:Arguments)(body:Expr)(sc:Scope)(lpos:Pos):TE:=λ σ H Q=>∃ ps,H P=some (.tbl ps)/\TriplesOk ps.toList /\
 ((codeAmong lpos ps.toList=none/\∀ c f oc vs t ctv cl,acO X sc cl->H c=none->H f=none->c≠f->oc.data=.fields vs->vs[1]? =some (.str q t) ->
   Q (.ref f) (upd (upd (upd H c (.frz oc (.own 0))) P (.tbl (kI ps lpos c))) f (.frz (kla_obj "<lambda>" q params body sc cl ((X.mg "__name__").getD .none) c ctv) (.own 0)))) \/
∃ c o vs t,codeAmong lpos ps.toList=some (.ref c)/\H c=some (.frz o (.own 0))/\o.data=.fields vs/\vs[1]? =some (.str q t)/\∀ f ctv cl,acO X sc cl->H f=none ->
   Q (.ref f) (upd H f (.frz (kla_obj "<lambda>" q params body sc cl ((X.mg "__name__").getD .none) c ctv) (.own 0))))
theorem abF{P cd:Addr}{params:Arguments}{body:Expr}{sc:Scope}{lpos:Pos}{x:Str}{fr:List Nat}(L:lZ X sc x fr)(hcode:X.env.code=.ref cd)(hcd:W.codeHdIn X.K cd P=true)(hdef:defaultsOf params X.env=([],[]):=by rfl) :
  PE X (.Lambda params body sc lpos) (adP X P (X.env.qual ++ "<lambda>") params body sc lpos):=by
 intro pins s σ H Q I h;obtain⟨ps,hP,ht,h⟩:=h;obtain⟨cl,hcl,c1,c2⟩:=fc (scope:=sc) (env:=X.env) λ y hy hf=>I.ok.has y.1 (L.free y hy hf);refine W.kla_eval hdef ?_;have hg:=I.ok.mod.glob.keeps I.bk;obtain⟨⟨bm,ob,b1,b2,b3,b4,b5,b6⟩,_⟩:=I.ok.mod.bm;have b3':=I.bk _ _ b3;have hPo:s.heap.get? P=some {cls:=.none,data:=.fields ps}:=I.hok P _ hP;have hgP:mainGlobals≠P:=λ z=>by obtain⟨o,es,ep,e,hd,_⟩:=hg;rw[z,hPo] at e;cases e;cases hd
 have hbP:bm≠P:=λ z=>by rw[z,hPo] at b3';cases b3';cases b4
 have hbG:bm≠mainGlobals:=λ z=>by obtain⟨o,es,ep,e,hd,_⟩:=hg;rw[z,e] at b3';cases b3';rw[hd] at b6;cases b6
 have C:=W.codeHd_of_K I.kIn hcd;rcases h with ⟨hnf,h⟩ | ⟨c,o,vs,t,hf,hc,hd,hv,h⟩
 ·refine W.kla_makeFunction (mg:=X.mg) hcl I.ok.glob hg hcode C hPo ht hnf hgP ⟨bm,ob,b1,b2,hbG,hbP,b3',b4,b5,b6⟩ λ c' ctv h' tk hx hge hlt hrec htb=>?_;obtain⟨c₂,oc,vs,t,e2,hoc,hd,hv⟩:=hrec;cases e2;have hcn:H c'=none:=I.hok.fresh hge;have hfn:H h'.objs.size=none:=I.hok.fresh (Nat.le_trans hge (Nat.le_of_lt hlt));have cP:c'≠P:=Ne.symm (aE hP hcn);have I1:=I.yT (t':=tk) hP (λ b u hb e=>hx b u hb e) htb;have I2:=I1.hold hoc (by rw[aj cP];exact hcn) (Nat.le_trans I.sz hge) (λ z=>by obtain⟨m,hn,_⟩:=I.loc;exact absurd (Nat.lt_of_lt_of_le hn.lt hge) (by rw[z];exact Nat.lt_irrefl _))
   (λ y c hy z=>by obtain⟨w,o,ho,_⟩:=I.cell y c hy;exact absurd (Nat.lt_of_lt_of_le (Heap.lt_size ho) hge) (by rw[z];exact Nat.lt_irrefl _))
   (λ p hp z=>by obtain⟨ho,_⟩:=I.pin p hp;exact absurd (Nat.lt_of_lt_of_le (Heap.lt_size ho) hge) (by rw[z];exact Nat.lt_irrefl _))
  have hsw:upd (upd H P (.tbl (kI ps lpos c'))) c' (.frz oc (.own 0))=upd (upd H c' (.frz oc (.own 0))) P (.tbl (kI ps lpos c')):=by
   funext b;unfold upd
   by_cases e1:b=c'
   ·rw[if_pos e1,if_neg (by rw[e1];exact cP),if_pos e1]
   ·rw[if_neg e1,if_neg e1]
  rw[hsw] at I2;have I3:=I2.laid (t':=tk) (o:=.frz (kla_obj "<lambda>" (X.env.qual ++ "<lambda>") params body sc cl ((X.mg "__name__").getD .none) c' ctv) (.own 0)) (h':=h'.push (kla_obj "<lambda>" (X.env.qual ++ "<lambda>") params body sc cl ((X.mg "__name__").getD .none) c' ctv)) (λ b u e=>Heap.get?_push_of_some _ e) (Nat.le_refl _) ⟨Heap.get?_push_size _ rfl,_,Heap.get?_push_size _ rfl⟩;exact⟨.ref _,_,I3,rfl,h c' h'.objs.size oc vs t ctv cl ⟨c1,c2⟩ hcn hfn (Nat.ne_of_lt hlt) hd hv⟩
 ·refine W.kla_makeFunctionHit (mg:=X.mg) hcl I.ok.glob hg hcode C hPo ht hf ⟨bm,ob,b1,b2,hbG,hbP,b3',b4,b5,b6⟩ λ ctv h' tk hk hsz=>?_;have I3:=(I.kept (t':=tk) hk).laid (t':=tk) (o:=.frz (kla_obj "<lambda>" (X.env.qual ++ "<lambda>") params body sc cl ((X.mg "__name__").getD .none) c ctv) (.own 0)) (h':=h'.push (kla_obj "<lambda>" (X.env.qual ++ "<lambda>") params body sc cl ((X.mg "__name__").getD .none) c ctv)) (λ b u e=>Heap.get?_push_of_some _ e) (Nat.le_refl _) ⟨Heap.get?_push_size _ rfl,_,Heap.get?_push_size _ rfl⟩;exact⟨.ref _,_,I3,rfl,h _ ctv cl ⟨c1,c2⟩ (I.hok.fresh hsz)⟩
end
def qB(X:Cx):Cx:={X with A:=X.A.in1}
theorem Inv.in1(I:Inv X pins σ H s):Inv (qB X) pins σ H s:=
 ⟨⟨I.ok.mod,I.ok.kind,I.ok.glob,I.ok.blt,I.ok.above,I.ok.inj,I.ok.has,I.ok.cab,I.ok.hd,I.ok.frames,I.ok.stk,I.ok.exf,I.ok.bs,I.ok.bsz,I.ok.noex,I.ok.exfs,I.ok.mH,I.ok.frf⟩,I.os,I.bare,I.base,I.loc,I.cell,I.free,I.freeC,I.pin,I.hok,I.len⟩
theorem Inv.adE(I:Inv (qB X) pins σ H s):Inv X pins σ H s:=
 ⟨⟨I.ok.mod,I.ok.kind,I.ok.glob,I.ok.blt,I.ok.above,I.ok.inj,I.ok.has,I.ok.cab,I.ok.hd,I.ok.frames,I.ok.stk,I.ok.exf,I.ok.bs,I.ok.bsz,I.ok.noex,I.ok.exfs,I.ok.mH,I.ok.frf⟩,I.os,I.bare,I.base,I.loc,I.cell,I.free,I.freeC,I.pin,I.hok,I.len⟩
theorem Inv.nj(I:Inv X pins σ H s)(f:iA X pins H it)(k:∀ b o,b≠it->s.heap.get? b=some o->h'.get? b=some o):Inv X pins σ H {s with heap:=h',toks:=t'}:=
 I.turned k f.1 f.2.1 f.2.2.2.1 f.2.2.2.2.1 f.2.2.2.2.2
theorem Inv.adK(I:Inv X pins σ H s)(fa:iA X pins H a)(fb:iA X pins H b)(ea:s.heap.get? a=some oa)(eb:s.heap.get? b=some ob)(ca:∀ v,oa.data ≠ .cell v)(cb:∀ v,ob.data ≠ .cell v):Inv X ((a,oa)::(b,ob)::pins) σ H s:=
 I.cV λ p hp=>by
  rcases List.mem_cons.mp hp with e | hp
  ·subst e;exact⟨ea,fa.1,fa.2.1,fa.2.2.1,ca⟩
  rcases List.mem_cons.mp hp with e | hp
  ·subst e;exact⟨eb,fb.1,fb.2.1,fb.2.2.1,cb⟩
  ·exact I.pin p (List.mem_append_right _ hp)
theorem Inv.wK(I:Inv X ((a,oa)::(b,ob)::pins) σ H s):Inv X pins σ H s/\(s.heap.get? a=some oa/\H a=none)/\s.heap.get? b=some ob/\H b=none:=
 have pa:=I.pin (a,oa) (List.mem_append_right _ (.head _));have pb:=I.pin (b,ob) (List.mem_append_right _ (.tail _ (.head _)))
 ⟨I.cV λ p hp=>I.pin p (List.mem_append_right _ (.tail _ (.tail _ hp))),⟨pa.1,pa.2.1⟩,pb.1,pb.2.1⟩
theorem oM{l a:Addr}{items:Array Value}{i:Nat}{h:Heap}(hl:h.IsList l items)(hi:h.IsListIter a l i):l≠a:=by
 rintro rfl;obtain⟨o,e,c,_⟩:=hl;obtain⟨o',e',c',_⟩:=hi;rw[e] at e';cases e';rw[c] at c';exact absurd (Value.type.inj c') (by decide)
end L2
namespace D
open L2
open PySem.W (kla_obj kla_fn)
def xn(w:W)(fr:List Nat)(τ:DS):DS:=some w::fr.map λ j=>(τ[j]?).getD none
section
variable {X:Cx}{K:FG}
theorem xp{H:Hp}{σ:St}{τ:DS}{M:MH}{v:V}{w:W}(A:Abs K H σ τ M)(r:aC K H w v)(fr:List Nat):Abs K H (abU v fr σ) (xn w fr τ) M:=(sD A 1 fr).set 0 r
theorem kD{M:MH}{a:Addr}{o:MO}(h:M a=some o):ba M a o=M:=by
 funext b
 by_cases e:b=a
 ·rw[e,ag,h]
 ·rw[aw e]
theorem pH{H:Hp}{M:MH}{P c:Addr}{ps:Array Value}{q:Str}{lpos:Pos}{oc:Obj}{vs:Array Value}{t:Tok}(m:cO K H M)(hP:M P=some (.code q lpos))(hT:H P=some (.tbl ps))(ht:TriplesOk ps.toList)(hn:codeAmong lpos ps.toList=none)(hc:H c=none)(hd:oc.data=.fields vs)(hv:vs[1]? =some (.str q t)) :
  Kp H (upd (upd H c (.frz oc (.own 0))) P (.tbl (kI ps lpos c)))/\cO K (upd (upd H c (.frz oc (.own 0))) P (.tbl (kI ps lpos c))) M:=by
 have cP:c≠P:=Ne.symm (aE hT hc);have hT':upd H c (.frz oc (.own 0)) P=some (.tbl ps):=by rw[aj (Ne.symm cP)];exact hT
 have k2:Kp (upd H c (.frz oc (.own 0))) (upd (upd H c (.frz oc (.own 0))) P (.tbl (kI ps lpos c))):=Kp.set hT' (λ _ z=>nomatch z) (λ _ _ z=>nomatch z);refine⟨(Kp.new hc).trans k2,?_⟩;have e:(kI ps lpos c).toList=ps.toList++[rawInt lpos.line,rawInt lpos.col,.ref c]:=by simp[kI]
 have:=(m.new (o:=.frz oc (.own 0)) hc).put (mo:=.code q lpos) k2 ⟨_,aq,by rw[e];exact TriplesOk_snoc _ _ _ _ ht,.inr ⟨c,oc,vs,t,by rw[e];exact codeAmong_snoc _ ht hn,by rw[aj cP,aq],hd,hv⟩⟩;rw[kD hP] at this;exact this
variable {P cd:Addr}{q x:Str}{lpos pos p kpos:Pos}{params:Arguments}{body o:Expr}{sc:Scope}{fr:List Nat}{to tb:TD}{k:Nat}
theorem zN.keep{H H':Hp}{q x:Str}{params:Arguments}{body:Expr}{sc:Scope}{cl:List (Str×Addr)}{pm:Value}{f:Addr}(h:zN H q x params body sc cl pm f)(kp:Kp H H'):zN H' q x params body sc cl pm f:=by obtain⟨c,ctv,oc,vs,t,h1,h2,h3,h4⟩:=h;exact⟨c,ctv,oc,vs,t,kp.frz _ _ _ h1,kp.frz _ _ _ h2,h3,h4⟩
end
end D
namespace L2
def vJ(ts:List Addr)(H:Hp):Prop:=∀ b,H b=none\/(∃ o xs,H b=some (.frz o (.lst xs)))\/(b∈ts/\H b=some (.tbl #[]))
theorem tD{P:Program}{w:World}{K:FG}{mg mb:Str->Option Value}{CX:CXT}{k:Nat}{fa a:Addr}{fd:FuncData}{x:Str}{sp:Sp}{s₁:Shared}{vs:List Value}{ns:List Int}
  (KX:K.In s₁.heap)(hns:s₁.heap.Ns mainGlobals mg)(hb:s₁.heap.Ns builtinsNs mb)(hbb:∀ x:Str,x ≠ "__name__" -> mb x=bootBuiltins x)(hlim:s₁.heap.NoLimit)(hbm:BM mg s₁.heap)(hg:s₁.gens = #[])
  (ha:s₁.heap.get? a=some {cls:=.type "list",data:=.seq vs.toArray})(hi:IntsAre vs ns)(hl:ns.length<=sizeLine)(hr:er k callerA)(ts:List Addr)(hts:∀ T∈ts,(∃ c,W.codeHdIn K c T=true)/\K.lookup T=none/\s₁.heap.get? T=some {cls:=.none,data:=.fields #[]})
  (F:∀ base:Heap,K.In base->base.Ns mainGlobals mg->gu P w K mg base CX k fa fd [x] sp)(hbind:∀ (s:Shared) (u:Value),BindsTo s fd ⟨[u],[]⟩ [(x,u)])
  (hsp:∀ H:Hp,vJ ts H->(∀ T∈ts,H T=some (.tbl #[]))->SqL K H a (ns.map V.int)->sp [.ref a] H (λ v _=>v=.bl true) λ _ _ _=>False)
  (hCX:∀ H e s',CX [] H s₁ (λ _ _ _=>False) e s'->False) :
  codeAny (model P w) callerA (.call (.ref fa) ⟨[.ref a],[]⟩) (λ r s'=>r=.ok (.ret (.bool true))/\OldK s₁.heap s'.heap/\s'.os=s₁.os/\AllBare s'.gens) s₁:=by
 have rv:=lF hi;have lenV:=hi.length;have at':∀ T∈ts,T≠a:=λ T hT e=>by have h:=(hts T hT).2.2;rw[e,ha] at h;cases h
 have core:∀ H:Hp,vJ ts H->(∀ T∈ts,H T=some (.tbl #[]))->SqL K H a (ns.map V.int)->HOk P w H s₁.heap->(∀ b,H b≠none->b=a\/b∈ts)->(H a≠none->K.lookup a=none) ->
   codeAny (model P w) callerA (.call (.ref fa) ⟨[.ref a],[]⟩) (λ r s'=>r=.ok (.ret (.bool true))/\OldK s₁.heap s'.heap/\s'.os=s₁.os/\AllBare s'.gens) s₁:=by
  intro H hO hTb hS hok hA hK;have hE:∀ {b:Addr} {o:Obj},s₁.heap.get? b=some o->H b=none->(uQ s₁.heap H).get? b=some o:=λ e n=>uL e n;have noA:∀ {b:Addr} {o:Obj} {es:Array DictEntry} {ep:Nat},s₁.heap.get? b=some o->o.data=.dict es ep->H b=none:=λ {b o es ep} e d=>by
   cases q:H b with
   | none=>rfl
   | some u =>
    rcases hA b (by rw[q];simp) with e' | e'
    ·subst e';rw[ha] at e;cases e;have d':Data.seq vs.toArray _=Data.dict es ep:=d;cases d'
    ·rw[(hts b e').2.2] at e;cases e;have d':Data.fields _=Data.dict es ep:=d;cases d'
  have nsK:∀ {b:Addr} {m:Str->Option Value},s₁.heap.Ns b m->(uQ s₁.heap H).Ns b m:=λ {b m} ⟨o,es,ep,e,d,r⟩=>⟨o,es,ep,hE e (noA e d),d,r⟩;have hKb:K.In (uQ s₁.heap H):=λ b o e=>hE (KX b o e) (by
   cases q:H b with
   | none=>rfl
   | some u =>
    rcases hA b (by rw[q];simp) with e' | e'
    ·subst e';rw[hK (by rw[q];simp)] at e;cases e
    ·rw[(hts b e').2.1] at e;cases e)
  have hM:Mod K mg (uQ s₁.heap H):=⟨hKb,nsK hns,⟨mb,nsK hb,hbb⟩,let ⟨mc,h1,h2⟩:=hlim; ⟨mc,nsK h1,h2⟩,let ⟨⟨b,o,h1,h2,h3,h4,h5,h6⟩,mm,hmm⟩:=hbm; ⟨⟨b,o,h1,h2,hE h3 (by cases q:H b with | none=>rfl | some u=>(rcases hA b (by rw[q];simp) with e' | e'; (subst e';rw[ha] at h3;cases h3;cases h6); (rw[(hts b e').2.2] at h3;cases h3;cases h6))),h4,h5,h6⟩,mm,nsK hmm⟩⟩;have e0:acg P w K mg (uQ s₁.heap H) callerA [] s₁ H:=⟨rfl,hM,λ b o e=>zI e,Nat.le_of_eq (sN _ _),trivial,λ b hb=>absurd (show b∈([]:List Addr) from hb) (by simp),hok,.of_eq hg⟩;refine codeAny_mono ((F _ hKb (nsK hns)).run callerA [] s₁ H ⟨[.ref a],[]⟩ [.ref a] [.ref a] _ _ hr e0 (hbind s₁ (.ref a)) (.cons rfl .nil) (hsp H hO hTb hS)) λ r s' h=>?_;cases r with
  | error e=>exact(hCX H e s' h).elim
  | ok fl =>
   cases fl with
   | next=>exact False.elim h
   | brk=>exact False.elim h
   | cont=>exact False.elim h
   | ret u =>
    obtain⟨v,H',os,bare,un,hok',r',q⟩:=h;have q':v=.bl true:=q;subst q';obtain rfl:u=Value.bool true:=r';have old:∀ b o,s₁.heap.get? b=some o->s'.heap.get? b=some o\/∃ more,b∈ts/\s'.heap.get? b=some {cls:=.none,data:=.fields (#[]++more)}:=λ b o e=>?_;refine⟨rfl,⟨λ b o e=>?_,λ b o e=>(old b o e).elim (λ z=>⟨_,z⟩) λ⟨_,_,z⟩=>⟨_,z⟩⟩,os,bare⟩
    ·rcases old b o e with z | ⟨more,hb,z⟩
     ·exact .inl z
     ·obtain⟨⟨c,hc⟩,_,h3⟩:=hts b hb;rw[h3] at e;cases e;exact .inr (.inl ⟨((W.codeHd_of_K KX hc).tab h3).isCodeTable,rfl,#[],more,rfl,z⟩)
    cases q:H b with
    | none=>exact .inl <| un.keep b o e q (by intro z;exact absurd (show b∈([]:List Addr) from z) (by simp)) (by simp)
    | some u =>
     rcases hO b with z | ⟨ob,xs,z⟩ | ⟨hb,z⟩
     ·rw[q] at z;cases z
     ·refine .inl ?_;have z2:=un.frzs b ob _ z;obtain⟨e1,_⟩:=hok b _ z;obtain⟨e2,_⟩:=hok' b _ z2;rw[e] at e1;cases e1;exact e2
     ·obtain⟨more,z2⟩:=un.tbls b _ z;exact .inr ⟨more,hb,hok' b _ z2⟩
 cases hk:K.lookup a with
 | some o =>
  have e:=KX a o hk;rw[ha] at e;cases e;refine core (λ b=>if b∈ts then some (.tbl #[]) else none) (λ b=>?_) (λ T hT=>if_pos hT) (.inr ⟨_,vs.toArray,_,hk,rfl,rfl,rfl,by rw[List.size_toArray,lenV];exact hl,by simpa using rv⟩) (λ b u z=>?_) (λ b z=>?_) λ z=>absurd (if_neg λ h=>at' a h rfl) z
  ·by_cases hb:b∈ts
   ·exact .inr (.inr ⟨hb,if_pos hb⟩)
   ·exact .inl (if_neg hb)
  ·by_cases hb:b∈ts
   ·have z':=(if_pos hb).symm.trans z;cases z';exact(hts b hb).2.2
   ·have z':=(if_neg hb).symm.trans z;cases z'
  ·by_cases hb:b∈ts
   ·exact .inr hb
   ·exact absurd (if_neg hb) z
 | none =>
  refine core (λ b=>if b=a then some (.frz {cls:=.type "list",data:=.seq vs.toArray} (.lst (ns.map V.int))) else if b∈ts then some (.tbl #[]) else none) (λ b=>?_) (λ T hT=>(if_neg (at' T hT)).trans (if_pos hT)) (.inl (.inr ⟨{cls:=.type "list",data:=.seq vs.toArray},if_pos rfl⟩)) (λ b u z=>?_) (λ b z=>?_) λ _=>hk
  ·by_cases hb:b=a
   ·exact .inr (.inl ⟨_,_,if_pos hb⟩)
   ·by_cases hb2:b∈ts
    ·exact .inr (.inr ⟨hb2,(if_neg hb).trans (if_pos hb2)⟩)
    ·exact .inl ((if_neg hb).trans (if_neg hb2))
  ·by_cases hb:b=a
   ·have z':=(if_pos hb).symm.trans z;cases z';subst hb;exact⟨ha,by rw[List.length_map];exact hl,vs,_,rv,ha⟩
   ·have z0:=(if_neg hb).symm.trans z
    by_cases hb2:b∈ts
    ·have z':=(if_pos hb2).symm.trans z0;cases z';exact(hts b hb2).2.2
    ·have z':=(if_neg hb2).symm.trans z0;cases z'
  ·by_cases hb:b=a
   ·exact .inl hb
   ·by_cases hb2:b∈ts
    ·exact .inr hb2
    ·exact absurd ((if_neg hb).trans (if_neg hb2)) z
theorem uH{l:W.OpenLaw}{n k:Nat}{q:Program}{loose:List Str}{XP:(Str->Option Value)->Heap->Prop}{YP:World->Heap->Prop}{d:DefRec}{K:Params->FG}{CX:World->CXT}{sp:World->Sp}{x:Str}
  (hq:importsNone q=true)(hn:l.most=some n)(hn2:n<=sizeLine)(hdf:d.params.defaults=[])(hr:er k callerA)
  (ts:List Addr)(hT:∀ w:World,∀ T∈ts,(∃ c,W.codeHdIn (K w.params) c T=true)/\(K w.params).lookup T=none)(hY:∀ (w:World) (h:Heap),YP w h->(K w.params).In h/\∀ T∈ts,h.get? T=some {cls:=.none,data:=.fields #[]})
  (F:∀ (w:World) (mg:Str->Option Value) (fa:Addr) (h:Heap),(K w.params).In h->h.Ns mainGlobals mg->mg d.name=some (.ref fa) ->
   ∃ fd:FuncData,(∀ (s:Shared) (u:Value),BindsTo s fd ⟨[u],[]⟩ [(x,u)]) /\
    ∀ base:Heap,(K w.params).In base->base.Ns mainGlobals mg->gu l.prog w (K w.params) mg base (CX w) k fa fd [x] (sp w))
  (hsp:∀ (w:World) (H:Hp) (a:Addr) (ns:List Int),ns.length<=n->vJ ts H->(∀ T∈ts,H T=some (.tbl #[]))->SqL (K w.params) H a (ns.map V.int)->sp w [.ref a] H (λ v _=>v=.bl true) λ _ _ _=>False)
  (hCX:∀ (w:World) (H:Hp) (s:Shared) (e:Value) (s':Shared),CX w [] H s (λ _ _ _=>False) e s'->False) :
  W.WalkO q loose XP YP l.row.toRowW d [] (λ f vs=>PySem.call f vs):=by
 refine Att.m8 hn hdf λ w s₀ s₁ mg mb fa o pm cd doc a vs ns G Y ho hd hcd hmg hobj hints hlen hg=>?_;obtain⟨KX,hTb⟩:=hY w _ Y;obtain⟨fd,hb,hF⟩:=F w mg fa _ KX G.T.g hmg;exact tD KX G.T.g G.T.b G.T.builtins G.T.nolimit (let ⟨bm,ob,b1,b2,b3,b4,b5,b6⟩:=G.T.bmain;let ⟨mm,hmm,_⟩:=(G.T.seer hq).mods; ⟨⟨bm,ob,b1,b2,b3,b4,b5,b6⟩,mm,hmm⟩) hg hobj hints (Nat.le_trans hlen hn2) hr ts (λ T h=>⟨(hT w T h).1,(hT w T h).2,hTb T h⟩) hF hb (λ H hO hB hS=>hsp w H a ns hlen hO hB hS) λ H e s'=>hCX w H s₁ e s'
end L2
namespace D
open L2
section
variable {P:Program}{w:World}{K:FG}{mg:Str->Option Value}{base:Heap}
theorem zB{x qual:Str}{st:Stmt}{f cd:Addr}{N ps:List Str}{k:Nat}{sp:SpD}{t:TSd}(F:Fun K x qual st f fd)(hcd:fd.code=.ref cd)(S:bA N ps (au st))(len:∀ ws M Q,sp ws M Q->ws.length=ps.length)
  (hbody:∀ (A:Around) (outer:List Env) (s:Shared) (H:Hp) (E:XK),er k (A.deeper (envOfC qual (au st) s.heap.objs.size f (.ref cd)))->mK (wD CX0 P w K mg base N qual (au st) f (.ref cd) A outer s H E).nox (bN st) t)
  (read:∀ ws M Q,sp ws M Q->t {nx:=λ _ M'=>Q (.d .none) M',rt:=Q} (cf N ws) M):gu P w K mg base CX0 (k+1) f fd ps (iu K sp):=by
 obtain⟨oc,od,kV,doc,pm,an,cdv,ct,osl,e,lk,hcdv⟩:=F.ex;subst e;have e2:cdv=.ref cd:=hcd;subst e2;refine zV lk hcdv S (λ vs H Q E h=>?_) (λ A outer s H vs Q E hr h=>?_)
 ·obtain⟨ws,M,Qd,r,_,q,_⟩:=h;rw[<- r.length];exact len _ _ _ q
 ·obtain⟨ws,M,Qd,r,m,q,kk⟩:=h;refine⟨_,(hbody A outer s H E hr).nox,cf N ws,M,_,l4 r m,read ws M Qd q,λ σ' H' τ' M' kp A' q'=>?_,λ v H' w' M' kp r' m' q'=>?_,λ σ' H' τ' M' kp A' q'=>q'.elim,λ σ' H' τ' M' kp A' q'=>q'.elim⟩
  ·exact kk _ H' _ M' kp (by simp[aC,ax]) A'.mem q'
  ·exact kk v H' w' M' kp r' m' q'
end
def M1T(T:Addr)(q:Str)(lpos:Pos):MH:=λ b=>if b=T then some (.code q lpos) else none
theorem qh{K:FG}{H:Hp}{a T:Addr}{q:Str}{lpos:Pos}{ns:List Int}{sp:SpD}(hl:ns.length<=63)(hO:L2.vJ [T] H)(hT:∀ x∈[T],H x=some (.tbl #[]))(hS:L2.SqL K H a (ns.map V.int))(h:∀ ns:List Int,ns.length<=63->sp [.d (.list (ns.map PyData.int))] (M1T T q lpos) (λ w _=>w=.d (.bool true))) :
  iu K sp [.ref a] H (λ v _=>v=.bl true) λ _ _ _=>False:=by
 refine⟨[.d (.list (ns.map PyData.int))],M1T T q lpos,_,.cons ?_ .nil,λ a o z=>?_,h ns hl,λ v H' w M' kp r m q=>?_⟩
 ·simp only[aC,ax];refine⟨a,_,rfl,?_,aS.ints ns⟩;rcases hS with (h | h) | h
  ·rcases hO a with z | ⟨ob,xs,z⟩ | ⟨_,z⟩
   ·rw[h] at z;cases z
   ·rw[h] at z;cases z
   ·rw[h] at z;cases z
  ·exact .inl h
  ·exact .inr h
 ·unfold M1T at z
  split at z
  ·cases z
   rename_i e
   subst e;exact⟨#[],hT _ (by simp),trivial,.inl rfl⟩
  ·cases z
 ·subst q;simp only[aC,ax] at r;exact r
def xa(sc scX:Scope)(x:Str)(N:List Str)(fr:List Nat):Bool:=
 (sc.kind==.function)&&!sc.isCoroutine&&!sc.isGenerator&&sc.names.all (λ y=>!(y.2==.cell))&&sc.names.all (λ y=>!(y.2==.free) || scX.names.lookup y.1==some .cell || scX.names.lookup y.1==some .free) &&
  (sc.names.lookup x==some .local)&&zp N sc fr
theorem acV(h:xa sc X.env.scope x X.N fr=true):lZ X sc x fr:=by
 simp only[xa,Bool.and_eq_true,Bool.not_eq_true'] at h;obtain⟨⟨⟨⟨⟨⟨h1,h2⟩,h3⟩,h4⟩,h5⟩,h6⟩,h7⟩:=h;refine⟨eq_of_beq h1,h2,h3,λ y hy e=>?_,λ y hy e=>?_,eq_of_beq h6,h7⟩
 ·have:=List.all_eq_true.mp h4 y hy;simp[e] at this
 ·have:=List.all_eq_true.mp h5 y hy;simp only[e,beq_self_eq_true,Bool.not_true,Bool.false_or,Bool.or_eq_true] at this;rcases this with z | z
  ·exact .inl (eq_of_beq z)
  ·exact .inr (eq_of_beq z)
section
variable {X:Cx}{K:FG}
variable {o e:Expr}{to:TE}{td te:TD}{apos cpos p pos:Pos}
end
end D
set_option maxHeartbeats 0
namespace D
open L2
section
variable {X:Cx}{a b:Expr}{rest:List Expr}{pos:Pos}{ta tb:TE}
end
section
variable {X:Cx}{K:FG}{e:Expr}{te:TE}{p pos kpos kp:Pos}{j:Nat}
end
section
variable {X:Cx}{a b o e:Expr}{rest:List Expr}{ta tb td te:TD}{apos cpos p pos kpos kp:Pos}{j:Nat}
end
section
variable {X:Cx}{K:FG}{pins:PN}{σ:St}{H:Hp}{s:Shared}
end
section
variable {K:FG}
end
abbrev PFn(K:FG)(x:Str)(st:Stmt):Prop:=∃ (f:Addr) (oc kV dc pm cd ct:Value) (od an:Option Addr) (sl:Array (Option Value)),W.nsIn K mainGlobals x=some (some (.ref f))/\K.lookup f=some ⟨oc,od,.func (W.fnOf x x (cv st) (bN st) (au st) .none kV dc pm an cd ct),sl⟩/\W.codeIn K cd x=true/\W.keepIn K (.ref f)=true
abbrev PMf(K:FG)(C:Addr)(m x:Str)(st:Stmt):Prop:=∃ (f:Addr) (oc kV dc pm cd ct:Value) (od an:Option Addr) (sl:Array (Option Value)),W.findIn K (.ref C) m=some (some (.ref f))/\W.isFn K (.ref f)=true/\K.lookup f=some ⟨oc,od,.func (W.fnOf m x (cv st) (bN st) (au st) .none kV dc pm an cd ct),sl⟩/\W.codeIn K cd x=true/\W.keepIn K (.ref f)=true
theorem abi{K:FG}{x:Str}{st:Stmt}{f:Addr}{oc kV dc pm cd ct:Value}{od an:Option Addr}{sl:Array (Option Value)}(a:W.nsIn K mainGlobals x=some (some (.ref f)))(l:K.lookup f=some ⟨oc,od,.func (W.fnOf x x (cv st) (bN st) (au st) .none kV dc pm an cd ct),sl⟩)(c:W.codeIn K cd x=true)(k:W.keepIn K (.ref f)=true):PFn K x st:=⟨_,_,_,_,_,_,_,_,_,_,a,l,c,k⟩
theorem aaI{K:FG}{C:Addr}{m x:Str}{st:Stmt}{f:Addr}{oc kV dc pm cd ct:Value}{od an:Option Addr}{sl:Array (Option Value)}(a:W.findIn K (.ref C) m=some (some (.ref f)))(i:W.isFn K (.ref f)=true)(l:K.lookup f=some ⟨oc,od,.func (W.fnOf m x (cv st) (bN st) (au st) .none kV dc pm an cd ct),sl⟩)(c:W.codeIn K cd x=true)(k:W.keepIn K (.ref f)=true):PMf K C m x st:=⟨_,_,_,_,_,_,_,_,_,_,a,i,l,c,k⟩
theorem PFn.fn{K:FG}{h:Heap}{mg:Str->Option Value}{x:Str}{st:Stmt}{ps:List Str}(p:PFn K x st)(X:K.In h)(G:h.Ns mainGlobals mg)
  (b:∀ (kV doc pm:Value) (an:Option Addr) (cdv ct:Value) (us:List Value),us.length=ps.length->bindArgs (W.fnOf x x (cv st) (bN st) (au st) .none kV doc pm an cdv ct) ⟨us,[]⟩=pure (ps.zip us)):∃ f fd,Fn K mg x st ps f fd:=
 let ⟨f,_,_,_,_,_,_,_,_,_,a,l,c,k⟩:=p; ⟨f,_,yb X G a l c k b⟩
abbrev ZZ(P:Program)(w:World)(K:FG)(mg:Str->Option Value)(base:Heap)(F:Addr->FuncData->Prop)(n:Nat)(ps:List Str)(sp:SpD):Prop:=∃ f fd,F f fd/\gu P w K mg base CX0 n f fd ps (iu K sp)
end D
namespace L2
section
variable {P:Program}{w:World}{K:FG}{mg:Str->Option Value}{base:Heap}
end
end L2
namespace D
open L2
section
variable {P:Program}{w:World}{K:FG}{mg:Str->Option Value}{base:Heap}
end
open XO
section
variable {X:Cx}{K:FG}
end
end D
namespace PySem.AutoSeq1
open PySem.MeetsSeq PySem.MeetsSeq2 PySem.MeetsSeq3 PyProof.Rows
end PySem.AutoSeq1
namespace D
open L2
section
variable {P:Program}{w:World}{K:FG}{mg:Str->Option Value}{base:Heap}
end
end D
namespace PySem.AutoSeq1
open PySem.MeetsSeq PySem.MeetsSeq2 PySem.MeetsSeq3 PyProof.Rows
end PySem.AutoSeq1
namespace D
open L2
section
variable {X:Cx}{K:FG}
end
end D
namespace XO
open PySem.W
section
variable {prog:Program}{w:World}{A:Around}{E:VP}{s:Shared}{K:Frag}{env:PySem.Env}{e h0 C0:Addr}{dct0:Option Addr}{vs0:Array Value}
end
end XO
namespace L2
open XO
section
variable {P:Program}{w:World}{K:FG}{mg:Str->Option Value}{base:Heap}{C f:Addr}{fd:FuncData}{qual:Str}{st:Stmt}
end
end L2
namespace D
open L2 XO
section
variable {X:Cx}{pos p cpos:Pos}{k:Nat}{f C:Addr}{fd:FuncData}{ps fs:List Str}{x:Str}{e:Expr}{es:List Expr}{t:TAd}{E:XE}
variable {body suite:List Stmt}{b0:Stmt}{hs:List ExceptHandler}{th rest:Addr->TSd}{np hpos:Pos}
end
section
variable {X:Cx}{pos p cpos:Pos}{k:Nat}{f C:Addr}{fd:FuncData}{ps fs:List Str}{x:Str}{e:Expr}{es:List Expr}{t:TAd}{E:XE}
variable {suite:List Stmt}{b0:Stmt}{hs:List ExceptHandler}{rest:Addr->TSd}{np hpos:Pos}
end
section
variable {X:Cx}{K:FG}
variable {o e:Expr}{td te:TD}{apos cpos:Pos}
end
section
variable {X:Cx}{o i:Expr}{td ti:TD}{tpos pos:Pos}
end
end D
namespace L2
section
variable {X:Cx}{CX:CXT}{k:Nat}{f C:Addr}{fd:FuncData}{ps:List Str}{sp:Sp}{E:XK}{pins:PN}{σ:St}{H:Hp}{s:Shared}{Q:VK}{us:List Value}{vs:List V}{dvs:List V}{ds:List Value}
end
end L2
namespace D
open L2 XO
section
variable {X:Cx}{pins:PN}{σ:St}{H:Hp}{s:Shared}{a:Addr}{kvs:List (Str×Addr)}
end
section
variable {X:Cx}{e:Expr}{a:Addr}{x:Str}{kvs:List (Str×Addr)}{pos p apos cpos:Pos}{ty:TE}{te:TD}
end
section
variable {X:Cx}{pos p apos:Pos}{k:Nat}{f C:Addr}{fd:FuncData}{ps:List Str}{sp:SpX}{x m dz:Str}{e o:Expr}{es:List Expr}{t:TAd}{td:TD}{E:XE}
end
section
variable {X:Cx}{e o i:Expr}{a:Addr}{x m dz:Str}{kvs:List (Str×Addr)}{pos p apos cpos tpos:Pos}{te td ti:TD}{k:Nat}{f C:Addr}{fd:FuncData}{ps:List Str}{sp:SpX}{es:List Expr}{t:TAd}{E:XE}
end
end D
namespace L2
section
variable {X:Cx}{CX:CXT}{k:Nat}{f C:Addr}{fd:FuncData}{ps:List Str}{sp:Sp}{E:XK}{pins:PN}{σ:St}{H:Hp}{s:Shared}{Q:VK}{us:List Value}{vs:List V}{v:V}{u:Value}{kn:Str}
end
end L2
namespace D
open L2 XO
section
variable {X:Cx}{pos p apos kpos:Pos}{k:Nat}{f C:Addr}{fd:FuncData}{ps:List Str}{sp:SpX}{m kn:Str}{e o g:Expr}{es:List Expr}{t:TAd}{td tk:TD}{E:XE}
end
section
variable {X:Cx}{pos p apos kpos:Pos}{k:Nat}{f C:Addr}{fd:FuncData}{ps:List Str}{sp:SpX}{m kn:Str}{e o g:Expr}{es:List Expr}{t:TAd}{td tk:TD}{E:XE}
end
open S
section
variable {X:Cx}{pins:PN}{σ:St}{H H':Hp}{s:Shared}{h':Heap}
end
section
variable {X:Cx}{o:Expr}{to:TE}{apos cpos p pos:Pos}
end
section
variable {X:Cx}{o:Expr}{td:TD}{apos cpos p pos:Pos}
end
end D
namespace L2
theorem er.m{j k:Nat}{A:PySem.Around}(r:er k A)(h:j<=k:=by decide):er j A:=r.mono h
end L2
namespace D
open L2
abbrev dS(z:Str):TD:=dC (.d (.str z))
abbrev dI(n:Int):TD:=dC (.d (.int n))
section
variable {prog:Program}{w:World}{A:Around}{E:VP}{s:Shared}{x y:Str}{t u v:Tok}{k:Int}{Q:VP}
end
section
variable {X:Cx}{K:FG}
variable {o e e':Expr}{td te tn:TD}{apos cpos:Pos}
end
section
variable {X:Cx}{e f:Expr}{a:Addr}{x:Str}{kvs:List (Str×PyData)}{pos p apos cpos:Pos}{ty tx:TE}{te tf:TD}
end
end D
namespace XO
open PySem.W
section
variable {M:Model}{A:Around}{E:VP}{s:Shared}{base:Heap}{env:PySem.Env}{outer:List PySem.Env}{L e C T:Addr}{dct:Option Addr}{vs:Array Value}
end
end XO
namespace D
open L2 XO
section
variable {X:Cx}{pins:PN}{σ:St}{H:Hp}{s:Shared}{a T:Addr}
end
section
variable {P:Program}{w:World}{K:FG}{mg:Str->Option Value}{base:Heap}
end
end D
namespace L2
open XO D
section
variable {prog:Program}{w:World}{A:Around}{E:VP}{R:Result->Shared->Prop}{s:Shared}
end
section
variable {X:Cx}{pins:PN}{σ:St}{H:Hp}{s:Shared}
end
section
variable {X:Cx}{pins:PN}{σ:St}{H:Hp}{s:Shared}{sc:Scope}{own:List Str}{fr:List Nat}{cl:List (Str×Addr)}{fp:List Addr}{it:Addr}{J:It}{tn:Nat->Heap->Prop}{g:TG}{tt:TT}{te:TE}{W:LcW}{Fin:List V->Hp->Prop}
 {elt tg iter:Expr}{ifs:List Expr}{pos:Pos}{E:VP}
end
end L2
namespace D
open L2 XO
section
variable {K:FG}
end
section
variable {X:Cx}{sc:Scope}{own:List Str}{fr:List Nat}{tg elt iter:Expr}{ifs:List Expr}{pos:Pos}{di:TId}{g:TGd}{tt:TTd}{te:XE->TD}{E:XE}
end
section
variable {P:Program}{w:World}{K:FG}{mg:Str->Option Value}{base:Heap}
end
variable {X:Cx}{sc:Scope}{own:List Str}{fr:List Nat}{tg elt iter:Expr}{ifs:List Expr}{pos:Pos}{di:TId}{g:TGd}{tt:TTd}{te:XE->TD}{E:XE}
end D
namespace D
open L2 S PySem.W
section
variable {X:Cx}{pins:PN}{σ:St}{f a kS:Addr}{xs:List V}{us:List Value}{e1:Nat}
end
section
variable {X:Cx}{pins:PN}{σ:St}{f d:Addr}
end
open PySem.W (kla_obj kla_fn)
section
variable {X:Cx}{K:FG}
variable {P cd:Addr}{q x:Str}{lpos pos p kpos:Pos}{params:Arguments}{body o:Expr}{sc:Scope}{fr:List Nat}{to tb:TD}{k:Nat}
end
section
variable {X:Cx}{K:FG}
end
open XO
section
variable {X:Cx}{pins:PN}{σ:St}{H:Hp}{s:Shared}{CX:List Env->Hp->Shared->XK->VP}{k:Nat}{f:Addr}{fd:FuncData}{ps:List Str}
end
section
variable {X:Cx}{pos p:Pos}{k:Nat}{f:Addr}{fd:FuncData}{ps:List Str}{sp:SpX}{x:Str}{e:Expr}{es:List Expr}{t:TAd}{E:XE}{d:Int}
end
section
variable {X:Cx}{K:FG}
end
section
variable {X:Cx}{K:FG}
end
section
variable {X:Cx}{o e:Expr}{td te:TD}{apos cpos:Pos}
end
section
variable {X:Cx}{K:FG}
end
section
variable {prog:Program}{w:World}{A:Around}{R:Result->Shared->Prop}{I:Addr}{fp wr:List Addr}{G:Array GenState->Array GenState->Prop}{ks:List Str}{P:Nat->Value->Prop}{St:Nat->Shared->Prop}
end
section
variable {prog:Program}{w:World}{A:Around}{E:VP}{s:Shared}
end
open L2
section
variable {X:Cx}{K:FG}{e:Expr}{to:TE}{td:TD}{p1 p2 pos1 pos2:Pos}
end
section
variable {prog:Program}{w:World}{A:Around}{E:VP}{s:Shared}{a₀:Array Keyed}
end
section
variable {X:Cx}{K:FG}
end
local macro_rules | `(tactic| walk_at "op_gallop")=>`(tactic| unfold $(Lean.mkIdent (Lean.mkPrivateNameCore `PySem.Builtin.List.W1All `PySem.Builtin.gallop)):ident)
section
variable {prog:Program}{w:World}{A:Around}{E:VP}{s:Shared}{st:SortSt}
end
section
variable {α:Type}{bf:α->α->Prop}{as bs out:List α}{ia ib:Nat}
end
end D
namespace Sw
open D
open L2 S PySem.W
local macro_rules | `(tactic| walk_at "op_setMinGallop")=>`(tactic| unfold $(Lean.mkIdent (Lean.mkPrivateNameCore `PySem.Builtin.List.W1All `PySem.Builtin.setMinGallop)):ident)
section
variable {it:Array Keyed}{l m:List Nat}{i k:Nat}
end
section
variable {prog:Program}{w:World}{A:Around}{E:VP}{s:Shared}{st:SortSt}{κ:SortKind}{it:Array Keyed}{lt:Nat->Nat->Bool}{N:Nat}
end
open L2 S PySem.W
local macro_rules | `(tactic| walk_at "op_mergeLo")=>`(tactic| unfold $(Lean.mkIdent (Lean.mkPrivateNameCore `PySem.Builtin.List.W1All `PySem.Builtin.mergeLo)):ident)
local macro_rules | `(tactic| walk_at "whr")=>`(tactic| ((repeat (extract_lets +onlyGivenNames -underBinder -merge a; (fail_if_success (have:_->_:=a));subst a)); (try dsimp (config:={zeta:=false,zetaHave:=false}) only); (repeat (extract_lets +onlyGivenNames -underBinder -merge a; (fail_if_success (have:_->_:=a));subst a))))
section
variable {it:Array Keyed}{lt:Nat->Nat->Bool}{N:Nat}{as bs:List Nat}{out:Array Keyed}{ia ib k:Nat}
end
section
variable {prog:Program}{w:World}{A:Around}{E:VP}{s:Shared}{st:SortSt}{κ:SortKind}{it:Array Keyed}{lt:Nat->Nat->Bool}{N:Nat}{as bs:List Nat}
end
open L2 S PySem.W
local macro_rules | `(tactic| walk_at "op_mergeHi")=>`(tactic| unfold $(Lean.mkIdent (Lean.mkPrivateNameCore `PySem.Builtin.List.W1All `PySem.Builtin.mergeHi)):ident)
local macro_rules | `(tactic| walk_at "whr")=>`(tactic| ((repeat (extract_lets +onlyGivenNames -underBinder -merge a; (fail_if_success (have:_->_:=a));subst a)); (try dsimp (config:={zeta:=false,zetaHave:=false}) only); (repeat (extract_lets +onlyGivenNames -underBinder -merge a; (fail_if_success (have:_->_:=a));subst a))))
section
variable {it:Array Keyed}{l:List Nat}{i k:Nat}
end
section
variable {it:Array Keyed}{lt:Nat->Nat->Bool}{N:Nat}{as bs:List Nat}{out:Array Keyed}{na nb k:Nat}
end
section
variable {prog:Program}{w:World}{A:Around}{E:VP}{s:Shared}{st:SortSt}{κ:SortKind}{it:Array Keyed}{lt:Nat->Nat->Bool}{N:Nat}{as bs:List Nat}
end
open L2 S PySem.W
section
variable {α:Type}{pre xs:Array α}{lo:Nat}
end
section
variable {prog:Program}{w:World}{A:Around}{E:VP}{s:Shared}{st:SortSt}{κ:SortKind}{f:Nat->Keyed}{lt:Nat->Nat->Bool}{N lo:Nat}{pre:Array Keyed}{p:Array Nat}
end
open L2 S PySem.W
local macro_rules | `(tactic| walk_at "whr")=>`(tactic| ((repeat (extract_lets +onlyGivenNames -underBinder -merge a; (fail_if_success (have:_->_:=a));subst a)); (try dsimp (config:={zeta:=false,zetaHave:=false}) only); (repeat (extract_lets +onlyGivenNames -underBinder -merge a; (fail_if_success (have:_->_:=a));subst a))))
section
variable {prog:Program}{w:World}{A:Around}{E:VP}{s:Shared}{st:SortSt}{κ:SortKind}{f:Nat->Keyed}{lt:Nat->Nat->Bool}{N lo:Nat}{pre:Array Keyed}{p:Array Nat}
end
open L2 S PySem.W
local macro_rules | `(tactic| walk_at "op_mergeAt")=>`(tactic| unfold $(Lean.mkIdent (Lean.mkPrivateNameCore `PySem.Builtin.List.W1All `PySem.Builtin.mergeAt)):ident)
local macro_rules | `(tactic| walk_at "whr")=>`(tactic| ((repeat (extract_lets +onlyGivenNames -underBinder -merge a; (fail_if_success (have:_->_:=a));subst a)); (try dsimp (config:={zeta:=false,zetaHave:=false}) only); (repeat (extract_lets +onlyGivenNames -underBinder -merge a; (fail_if_success (have:_->_:=a));subst a))))
section
variable {α:Type}
end
section
variable {prog:Program}{w:World}{A:Around}{E:VP}{s:Shared}{st:SortSt}{κ:SortKind}{it:Array Keyed}{lt:Nat->Nat->Bool}{N:Nat}{L as bs R:List Nat}
end
open L2 S PySem.W
section
variable {prog:Program}{w:World}{A:Around}{E:VP}{s:Shared}{st:SortSt}{κ:SortKind}{it:Array Keyed}{lt:Nat->Nat->Bool}{N:Nat}{rs:List (List Nat)}{T:List Nat}
end
open L2 S PySem.W
local macro_rules | `(tactic| walk_at "whr")=>`(tactic| ((repeat (extract_lets +onlyGivenNames -underBinder -merge a; (fail_if_success (have:_->_:=a));subst a)); (try dsimp (config:={zeta:=false,zetaHave:=false}) only); (repeat (extract_lets +onlyGivenNames -underBinder -merge a; (fail_if_success (have:_->_:=a));subst a))))
section
variable {prog:Program}{w:World}{A:Around}{E:VP}{s:Shared}{st:SortSt}{κ:SortKind}{it:Array Keyed}{lt:Nat->Nat->Bool}{N:Nat}{rs:List (List Nat)}{T:List Nat}
end
end Sw
namespace S
open PySem PySem.W PyProof.Rows
section
variable {prog:Program}{w:World}{A:Around}{E:VP}{s:Shared}
end
end S
namespace D
open L2 S
section
variable {X:Cx}{K:FG}
end
open PySem.W
section
variable {X:Cx}{pins:PN}{σ:St}{f a kS:Addr}{xs:List V}{us:List Value}{e1:Nat}
end
section
variable {X:Cx}{pins:PN}{σ:St}{f d:Addr}
end
open PySem.W (kla_obj kla_fn)
section
variable {X:Cx}{K:FG}
variable {P cd:Addr}{q x:Str}{lpos pos p kpos:Pos}{params:Arguments}{body o:Expr}{sc:Scope}{fr:List Nat}{to tb:TD}{k:Nat}
end
section
variable {X:Cx}{K:FG}
end
open Rc Stc
section
variable {R:Type}[DecidableEq R]
variable {M M':MH}{b:Addr}{C:R->Option (Addr×MO)}
end
def kf(N:List Str)(f:Str->W):List (Key×W):=N.map λ z=>(.inr z,f z)
def iB{α:Type}(f:Str->α)(z:Str)(v:α):Str->α:=λ y=>if y=z then v else f y
theorem i6(N:List Str)(f:Str->W):(kf N f).length=N.length:=by simp[kf]
theorem d3{f:Str->W}{z:Str}:∀ {N:List Str},z∈N->hG (kf N f) (.inr z)=some (f z)
 | [],h=>nomatch h
 | y::N,h=>by
  show hG ((.inr y,f y)::kf N f) (.inr z)=_;rw[f7]
  by_cases e:y=z
  ·subst e;rw[if_pos rfl]
  ·rw[if_neg λ k=>e (Sum.inr.inj k)];exact d3 (by simpa [Ne.symm e] using h)
theorem vM{f:Str->W}{z:Str}:∀ {N:List Str},z ∉ N->hG (kf N f) (.inr z)=none
 | [],_=>rfl
 | y::N,h=>by show hG ((.inr y,f y)::kf N f) (.inr z)=_;rw[f7,if_neg λ k=>h (by simp[Sum.inr.inj k])];exact vM λ k=>h (by simp[k])
theorem kL{f:Str->W}{z:Str}{N:List Str}(h:z ∉ N):qA (kf N f) (.inr z) (f z)=kf (N++[z]) f:=by
 unfold qA;rw[kQ,vM h];simp[kf]
theorem kK{f g:Str->W}{N:List Str}(h:∀ z∈N,f z=g z):kf N f=kf N g:=List.map_congr_left λ z hz=>by rw[h z hz]
theorem zF(N:List Str)(f:Str->W):(kf N f).map (·.1)=N.map Sum.inr:=by simp[kf]
theorem df{α:Type}{f:Str->α}{z:Str}{v:α}:iB f z v z=v:=if_pos rfl
theorem cH{α:Type}{f:Str->α}{z y:Str}{v:α}(h:y≠z):iB f z v y=f y:=if_neg h
abbrev nW(f:Str->Nat):Str->W:=λ z=>.d (.int (f z:Nat))
section
variable {prog:Program}{w:World}{A:Around}{s:Shared}{vs:List Value}{zs:List Str}
end
section
variable {X:Cx}{K:FG}
end
end D
namespace HT
open PySem PyProof.Rows
open PySem.SeqAt
def tG(A:Around)(s:Shared)(x y:Value)(b:Bool):Prop:=∀ (prog:Program) (w:World) (E Q:VP),Q (.bool b) s->wpAny (model prog w) A (richCompare .Lt x y) Q E s
inductive LxA(A:Around) (s:Shared) (fin:Bool):List (Value×Value)->Bool->Prop
 | nil:LxA A s fin [] fin
 | eq {x y r b}:EqAt A s x y true->LxA A s fin r b->LxA A s fin ((x,y)::r) b
 | ne {x y r b}:EqAt A s x y false->tG A s x y b->LxA A s fin ((x,y)::r) b
section
open PySem.MeetsSeq PySem.MeetsSeq2 PySem.MeetsSeq3
theorem lt_meets(l b:Addr)(items items2:Array Value)(n n2:Nat)(dd dd2:Option Addr)(sl sl2:Array (Option Value))(e:Bool) :
  Meets (Builtin.«tuple.__lt__» ⟨[.ref l,.ref b],[]⟩)
   (λ A R s=>s.heap.get? l=some {cls:=.type "tuple",dict:=dd,data:=.seq items n,slots:=sl}/\s.heap.get? b=some {cls:=.type "tuple",dict:=dd2,data:=.seq items2 n2,slots:=sl2} /\
    LxA A.in1 s (decide (items.size<items2.size)) (items.toList.zip items2.toList) e/\R (.ok (.ret (.bool e))) s):=
 .of_wp λ prog w A R s h=>by
  obtain⟨hp,g,d,tk,os⟩:=s;obtain⟨hl,hb,hx,hR⟩:=h;have f2:=AutoSeq1.sub_tuple_tuple
  wp_walk using wpAny_loadPart' hl,wpAny_loadPart' hb,wpAny_forIn_list _ (λ rest b s'=>b.1=none/\s'=⟨hp,g,d,tk,os⟩/\LxA A.in1 ⟨hp,g,d,tk,os⟩ (decide (items.size<items2.size)) rest e) _
  case turn =>
   rintro⟨y,x⟩ rest b s' ⟨hb',rfl,hx⟩;cases hx with
   | eq h1 h2 =>
    refine wpAny_bind (h1 prog w _ _ ?_)
    wp_walk
    exact⟨rfl,rfl,h2⟩
   | ne h1 h2 =>
    refine wpAny_bind (h1 prog w _ _ ?_);have h3:=h2 prog w
    wp_walk using h3
    exact⟨_,rfl,hR⟩
  case fin =>
   rintro⟨b1,b2⟩ s' ⟨hb',rfl,hx⟩;simp only at hb';subst hb';cases hx
   wp_walk
   exact⟨_,rfl,by simpa [Builtin.Tuple.tupleCompareSizes] using hR⟩
  case h=>exact⟨rfl,rfl,hx⟩
end
theorem tG.tuples{A:Around}{s:Shared}{l b:Addr}{items items2:Array Value}{e:Bool}(hl:s.heap.IsTuple l items)(hb:s.heap.IsTuple b items2)(hu:A.units<cLine)
  (hx:LxA A.in1 s (decide (items.size<items2.size)) (items.toList.zip items2.toList) e):tG A s (.ref l) (.ref b) e:=λ prog w E Q h=>by
 obtain⟨⟨cls,dd,data,sl⟩,ho,hc,n,hd⟩:=id hl;obtain⟨⟨cls2,dd2,data2,sl2⟩,ho2,hc2,n2,hd2⟩:=id hb;simp only at hc hd hc2 hd2;subst hc hd hc2 hd2;exact richCompare_meets_room (op:=.Lt) ⟨_,ho,rfl⟩ ⟨_,ho2,rfl⟩ PySem.F.slot_tuple_lt PySem.F.entry_tuple_lt (PySem.F.args_tuple_lt_2 _ _) (lt_meets l b items items2 n n2 dd dd2 sl sl2 e)
  ⟨ho,ho2,hx,show Value.bool e≠Value.notImplemented/\Q (.bool e) s from⟨(λ x=>nomatch x),h⟩⟩ hu
inductive LtL:List PyData->List PyData->Bool->Prop
 | nn:LtL [] [] false
 | nc {y ys}:LtL [] (y::ys) true
 | cn {x xs}:LtL (x::xs) [] false
 | eq {x xs ys b}:LtL xs ys b->LtL (x::xs) (x::ys) b
 | int {a c:Int} {xs ys}:a≠c->LtL (.int a::xs) (.int c::ys) (decide (a<c))
 | str {a c:Str} {xs ys}:a≠c->LtL (.str a::xs) (.str c::ys) (decide (a.cps.toList<c.cps.toList))
 | tup {as cs xs ys b}:PyData.eqvAll as cs=false->LtL as cs b->LtL (.tuple as::xs) (.tuple cs::ys) b
theorem xt{xs ys:List PyData}{b:Bool}(h:LtL xs ys b):∀ {A:Around} {s:Shared} {us vs:List Value} {as bs:List Addr},ReadsAll s.heap us xs as->ReadsAll s.heap vs ys bs ->
  PyData.canLayAll0 xs=true->PyData.canLayAll0 ys=true->A.units+PyData.depthAll xs+2<cLine->LxA A s (decide (us.length<vs.length)) (us.zip vs) b:=by
 have shift:∀ {A:Around} {s:Shared} {l:List (Value×Value)} {b:Bool} {n m:Nat},LxA A s (decide (n<m)) l b->LxA A s (decide (n+1<m+1)) l b:=λ h=>by simpa using h
 induction h with
 | nn=>intro A s us vs as bs r1 r2 _ _ _;cases r1;cases r2;exact .nil
 | nc=>intro A s us vs as bs r1 r2 _ _ _;cases r1;cases r2;exact .nil
 | cn=>intro A s us vs as bs r1 r2 _ _ _;cases r1;cases r2;exact .nil
 | @eq x xs ys b h ih =>
  intro A s us vs as bs r1 r2 c1 c2 hu;cases r1 with
  | cons p1 q1 =>
   cases r2 with
   | cons p2 q2 =>
    simp only[PyData.canLayAll0,Bool.and_eq_true,PyData.depthAll] at c1 c2 hu;have e:=eqAt_reads x x A s _ _ _ _ p1 p2 c1.1 c2.1 (by omega);rw[eqv_refl x c1.1] at e;exact .eq e (shift (ih q1 q2 c1.2 c2.2 (by omega)))
 | @int a c xs ys hne =>
  intro A s us vs as bs r1 r2 c1 c2 hu;cases r1 with
  | cons p1 q1 =>
   cases r2 with
   | cons p2 q2 =>
    cases p1 with
    | int _ t1 =>
     cases p2 with
     | int _ t2 =>
      have e:=EqAt.int_int (A:=A) (s:=s) a t1 c t2;rw[show(a==c)=false by simpa using hne] at e;exact .ne e λ prog w E Q q=>lt_int q
 | @str a c xs ys hne =>
  intro A s us vs as bs r1 r2 c1 c2 hu;cases r1 with
  | cons p1 q1 =>
   cases r2 with
   | cons p2 q2 =>
    cases p1 with
    | str _ t1 =>
     cases p2 with
     | str _ t2 =>
      have e:=EqAt.str_str (A:=A) (s:=s) a t1 c t2;rw[show(a==c)=false by simpa using hne] at e;exact .ne e λ prog w E Q q=>lt_str q
 | @tup as' cs xs ys b hne h ih =>
  intro A s us vs as bs r1 r2 c1 c2 hu;cases r1 with
  | cons p1 q1 =>
   cases r2 with
   | cons p2 q2 =>
    simp only[PyData.canLayAll0,Bool.and_eq_true,PyData.depthAll,PyData.depth] at c1 c2 hu;have e:=eqAt_reads _ _ A s _ _ _ _ p1 p2 c1.1 c2.1 (by simp only[PyData.depth];omega);rw[show PyData.eqv (.tuple as') (.tuple cs)=false from hne] at e;cases p1 with
    | tuple k1 k2 k3 k4 =>
     cases p2 with
     | tuple m1 m2 m3 m4 =>
      refine .ne e (tG.tuples ⟨_,k1,k2,_,k3⟩ ⟨_,m1,m2,_,m3⟩ (by omega) ?_);have:=ih (A:=A.in1) k4 m4 (by simpa [PyData.canLay0] using c1.1) (by simpa [PyData.canLay0] using c2.1) (by show A.units+1+_+2<_;omega)
      simpa using this
theorem vp{A:Around}{s:Shared}{xs ys:List PyData}{b:Bool}{u v:Value}{as bs:List Addr}(h:LtL xs ys b)(ra:Reads s.heap u (.tuple xs) as)(rb:Reads s.heap v (.tuple ys) bs)(ha:shaped (.tuple xs)=true)(hb:shaped (.tuple ys)=true)
  (hu:A.units+80<cLine):tG A s u v b:=by
 have d:=depth_of_shaped ha;simp only[PyData.depth] at d;cases ra with
 | tuple k1 k2 k3 k4 =>
  cases rb with
  | tuple m1 m2 m3 m4 =>
   refine tG.tuples ⟨_,k1,k2,_,k3⟩ ⟨_,m1,m2,_,m3⟩ (by omega) ?_;have:=xt h (A:=A.in1) k4 m4 (by simpa [PyData.canLay0] using canLay_of_shaped ha) (by simpa [PyData.canLay0] using canLay_of_shaped hb) (by show A.units+1+_+2<_;omega)
   simpa using this
open PySem.SeqAt
section
variable {prog:Program}{w:World}{A:Around}{R:Result->Shared->Prop}{I:Addr}{fp wr:List Addr}{n:Nat}{P:Nat->Value->Prop}{St:Nat->Heap->Prop}{h0:Heap}
abbrev Olds(h0 h:Heap):Prop:=∀ b o,h0.get? b=some o->h.get? b=some o
theorem ad8(W:Walks prog w A.in1 I fp wr n P St)(bt:Nat->Nat->Bool)(hcmp:∀ i j vi vj (s:Shared),Olds h0 s.heap->P i vi->P j vj->tG A.in1 s vi vj (bt i j))(S:Addr)(hSf:S ∉ fp)(hw:∀ b∈wr,h0.get? b=none)(hS0:h0.get? S=none) :
  ∀ (k j:Nat) (s:Shared) (vb:Value) (c:Nat),n-(j+1)=k->j+1<=n->St (j+1) s.heap->P (argBest bt j) vb->Olds h0 s.heap ->
  s.heap.get? S=some {cls:=.type "list",dict:=none,data:=.seq #[vb,vb] c,slots:=#[]} ->
  (∀ v h' tk,P (argBest bt (n-1)) v->(∀ b o,b ∉ wr->b≠S->s.heap.get? b=some o->h'.get? b=some o)->R (.ok (.ret v)) {s with heap:=h',toks:=tk}) ->
  codeAny (model prog w) A (.builtin "min.loop" ⟨[.ref I,.none,.ref S],[]⟩) R s:=by
 have hSw:S ∉ wr:=λ h=>hSf (W.sub _ h);have nm:(toString "min" ++ toString ".loop" : String) = "min.loop":= by decide
 have old:∀ {h h':Heap},Olds h0 h->(∀ b o,b ∉ wr->h.get? b=some o->h'.get? b=some o)->Olds h0 h':=λ p q b o e=>q b o (λ m=>by rw[hw b m] at e;cases e) (p b o e);intro k
 induction k with
 | zero =>
  intro j s vb c hk hj hst hPb ho hS hR;have hin:j+1=n:=by omega
  refine codeAny_builtin PySem.F.entry_min_loop ?_;rw[Around.under_plainId PySem.F.plain_min_loop _];show wpAny _ A.in1 (seqItems? (.ref S) >>= _) _ _ s;refine wpAny_bind (wpAny_seqItems hS rfl ?_);show wpAny _ A.in1 (tryCatch (pyNext (.ref I)) _ >>= _) _ _ s;refine wpAny_bind (wpAny_tryCatch (W.done s _ _ (hin ▸ hst) λ h' tk hk'=>?_));have hS':=hk' S _ hSw hS;show wpAny _ A.in1 (updateSeq S (λ _=>#[]) >>= _) _ _ _;refine wpAny_bind (wpAny_updateSeq hS' rfl (wpAny_bind (wpAny_letGo (wpAny_pure ?_))));exact hR vb _ tk (by rw[<- hin];exact hPb) λ b o hbw hbS e=>(Heap.get?_update_other _ _ (Ne.symm hbS)).trans (hk' b o hbw e)
 | succ k ih =>
  intro j s vb c hk hj hst hPb ho hS hR;have hlt:j+1<n:=by omega
  refine codeAny_builtin PySem.F.entry_min_loop ?_;rw[Around.under_plainId PySem.F.plain_min_loop _];show wpAny _ A.in1 (seqItems? (.ref S) >>= _) _ _ s;refine wpAny_bind (wpAny_seqItems hS rfl ?_);show wpAny _ A.in1 (tryCatch (pyNext (.ref I)) _ >>= _) _ _ s;refine wpAny_bind (wpAny_tryCatch (W.item (j+1) s _ _ hlt hst λ v h' tk hP hst' hk'=>?_));have hS':=hk' S _ hSw hS;have ho':=old ho hk';show wpAny _ A.in1 (tryCatch (holding [v,v] (richCompare .Lt v vb >>= _)) _ >>= _) _ _ _;refine wpAny_bind (wpAny_tryCatch (wpAny_holding (wpAny_bind (hcmp (j+1) (argBest bt j) v vb {s with heap:=h',toks:=tk} ho' hP hPb _ _ _ _ ?_))));refine wpAny_bind (wpAny_holding (wpAny_truthy_bool (wpAny_bind (wpAny_letGo (wpAny_pure ?_)))));cases hb:bt (j+1) (argBest bt j) with
  | true =>
   simp only[if_true];refine wpAny_bind (wpAny_updateSeq hS' rfl (wpAny_bind (wpAny_letGo ?_)));rw[nm];refine wpAny_pure ⟨plainId_quiet PySem.F.plain_min_loop _,ih (j+1) _ v _ (by omega) hlt (W.frame _ _ _ hst' λ b hbf o e=>?_) (by simp only[argBest,hb,if_true];exact hP) (λ b o e=>?_) (Heap.get?_update_self _ hS' rfl) λ v' h2 tk2 hP' hk2=>?_⟩
   ·exact(Heap.get?_update_other _ _ (λ h:S=b=>hSf (by rw[h];exact hbf))).trans e
   ·exact(Heap.get?_update_other _ _ (λ h:S=b=>by rw[<- h,hS0] at e;cases e)).trans (ho' b o e)
   ·exact hR v' h2 tk2 hP' λ b o hbw hbS e=>hk2 b o hbw hbS ((Heap.get?_update_other _ _ (Ne.symm hbS)).trans (hk' b o hbw e))
  | false =>
   simp only[Bool.false_eq_true,if_false];refine wpAny_bind (wpAny_letGo ?_);rw[nm];refine wpAny_pure ⟨plainId_quiet PySem.F.plain_min_loop _,ih (j+1) _ vb c (by omega) hlt hst' (by simp only[argBest,hb,Bool.false_eq_true,if_false];exact hPb) ho' hS' λ v' h2 tk2 hP' hk2=>?_⟩;exact hR v' h2 tk2 hP' λ b o hbw hbS e=>hk2 b o hbw hbS (hk' b o hbw e)
theorem abb(W:Walks prog w A.in1 I fp wr n P St)(bt:Nat->Nat->Bool)(hcmp:∀ i j vi vj (s:Shared),Olds h0 s.heap->P i vi->P j vj->tG A.in1 s vi vj (bt i j))(S:Addr)(hSf:S ∉ fp)(hw:∀ b∈wr,h0.get? b=none)(hS0:h0.get? S=none)(hn:0<n){s:Shared}{c:Nat}
  (hst:St 0 s.heap)(ho:Olds h0 s.heap)(hS:s.heap.get? S=some {cls:=.type "list",dict:=none,data:=.seq #[] c,slots:=#[]})
  (hR:∀ v h' tk,P (argBest bt (n-1)) v->(∀ b o,b ∉ wr->b≠S->s.heap.get? b=some o->h'.get? b=some o)->R (.ok (.ret v)) {s with heap:=h',toks:=tk}) :
  codeAny (model prog w) A (.builtin "min.loop" ⟨[.ref I,.none,.ref S],[]⟩) R s:=by
 have hSw:S ∉ wr:=λ h=>hSf (W.sub _ h);have nm:(toString "min" ++ toString ".loop" : String) = "min.loop":= by decide
 refine codeAny_builtin PySem.F.entry_min_loop ?_;rw[Around.under_plainId PySem.F.plain_min_loop _];show wpAny _ A.in1 (seqItems? (.ref S) >>= _) _ _ s;refine wpAny_bind (wpAny_seqItems hS rfl ?_);show wpAny _ A.in1 (tryCatch (pyNext (.ref I)) _ >>= _) _ _ s;refine wpAny_bind (wpAny_tryCatch (W.item 0 s _ _ hn hst λ v h' tk hP hst' hk'=>?_));have hS':=hk' S _ hSw hS;show wpAny _ A.in1 (updateSeq S (λ _=>#[v,v]) >>= _) _ _ _;refine wpAny_bind (wpAny_updateSeq hS' rfl ?_);rw[nm];refine wpAny_pure ⟨plainId_quiet PySem.F.plain_min_loop _,ad8 W bt hcmp S hSf hw hS0 _ 0 _ v _ rfl hn (W.frame _ _ _ hst' λ b hbf o e=>?_) hP (λ b o e=>?_) (Heap.get?_update_self _ hS' rfl) λ v' h2 tk2 hP' hk2=>?_⟩
 ·exact(Heap.get?_update_other _ _ (λ h:S=b=>hSf (by rw[h];exact hbf))).trans e
 ·exact(Heap.get?_update_other _ _ (λ h:S=b=>by rw[<- h,hS0] at e;cases e)).trans (hk' b o (λ m=>by rw[hw b m] at e;cases e) (ho b o e))
 ·exact hR v' h2 tk2 hP' λ b o hbw hbS e=>hk2 b o hbw hbS ((Heap.get?_update_other _ _ (Ne.symm hbS)).trans (hk' b o hbw e))
end
section
variable {prog:Program}{w:World}{A:Around}{E:VP}{s:Shared}{Q:VP}{bt:Nat->Nat->Bool}
theorem sZ{l:Addr}{items:Array Value}(hh:A.handled=none)(hl:s.heap.IsList l items)(hn:0<items.size)(hcmp:∀ i j vi vj (s':Shared),Olds s.heap s'.heap->items[i]? =some vi->items[j]? =some vj->tG A.in1 s' vi vj (bt i j))
  (h:∀ v h' tk,items[argBest bt (items.size-1)]? =some v->Olds s.heap h'->Q v {s with heap:=h',toks:=tk}):wpAny (model prog w) A (call (.builtin "min") [.ref l]) Q E s:=by
 have nm:(toString "min" ++ toString ".loop" : String) = "min.loop":= by decide
 refine call_function_tree PySem.F.kind_min PySem.F.plain_min PySem.F.entry_min (PySem.F.args_min1 _) ?_;show wpAny _ A.in1 (Builtin.Builtins.bindParams "min" ["key", "default"] 0 ⟨[],[]⟩ >>= _) _ _ s;refine wpAny_bind (wpAny_of_eq (show Builtin.Builtins.bindParams "min" ["key", "default"] 0 ⟨[],[]⟩=pure [none,none] from rfl) (wpAny_bind (wpAny_pure ?_)));obtain⟨ol,hol,_⟩:=id hl;have hll:l<s.heap.objs.size:=Heap.lt_size hol;refine wpAny_bind (wpAny_pyIter_list hl (wpAny_bind (wpAny_newList ?_ (Nat.zero_le _))));rw[nm];have k1:Olds s.heap (s.heap.push {cls:=.type "list_iterator",data:=.fields #[.ref l,.int 0 0]}):=λ b o e=>Heap.get?_push_of_some _ e;have fresh:∀ {b},s.heap.objs.size<=b->s.heap.get? b=none:=λ {b} hb=>by
  cases e:s.heap.get? b with
  | none=>rfl
  | some o=>exact absurd (Heap.lt_size e) (Nat.not_lt.mpr hb)
 have hS:(s.heap.push {cls:=.type "list_iterator",data:=.fields #[.ref l,.int 0 0]}).objs.size=s.heap.objs.size+1:=size_push' ..;rw[hS];have hlI:l≠s.heap.objs.size:=Nat.ne_of_lt hll;refine wpAny_pure ⟨plainId_quiet PySem.F.plain_min_loop _,abb (h0:=s.heap) (Walks.list (prog:=prog) (w:=w) (A:=A.in1) hh s.heap.objs.size l hlI items) bt hcmp (s.heap.objs.size+1) (λ m=>?_) (by simpa using fresh (Nat.le_refl _)) (fresh (Nat.le_succ _)) hn (c:=0) (s:={s with heap:=(s.heap.push {cls:=.type "list_iterator",data:=.fields #[.ref l,.int 0 0]}).push (seqObj "list" #[] 0)}) ⟨?_,?_⟩ ?_ ?_ λ v h' tk hP hk=>?_⟩
 ·simp only[List.mem_cons,List.not_mem_nil,or_false] at m;rcases m with e | e
  ·exact Nat.succ_ne_self _ e
  ·exact absurd hll (by rw[<- e];exact Nat.not_lt.mpr (Nat.le_succ _))
 ·exact⟨_,Heap.get?_push_of_some _ (Heap.get?_push_size _ rfl),rfl,rfl⟩
 ·exact hl.at λ o e=>Heap.get?_push_of_some _ (k1 l o e)
 ·exact λ b o e=>Heap.get?_push_of_some _ (k1 b o e)
 ·rw[<- hS];exact Heap.get?_push_size _ rfl
 ·refine h v h' tk hP λ b o e=>hk b o ?_ ?_ (Heap.get?_push_of_some _ (k1 b o e))
  ·simpa using Nat.ne_of_lt (Heap.lt_size e)
  ·exact Nat.ne_of_lt (Nat.lt_succ_of_lt (Heap.lt_size e))
theorem pU{a b:Value}(hh:A.handled=none)(hcmp:∀ i j vi vj (s':Shared),Olds s.heap s'.heap->#[a,b][i]? =some vi->#[a,b][j]? =some vj->tG A.in1 s' vi vj (bt i j))
  (h:∀ v h' tk,#[a,b][argBest bt 1]? =some v->Olds s.heap h'->Q v {s with heap:=h',toks:=tk}):wpAny (model prog w) A (call (.builtin "min") [a,b]) Q E s:=by
 have nm:(toString "min" ++ toString ".loop" : String) = "min.loop":= by decide
 refine call_function_tree PySem.F.kind_min PySem.F.plain_min PySem.F.entry_min (PySem.F.args_min2 _ _) ?_;show wpAny _ A.in1 (Builtin.Builtins.bindParams "min" ["key", "default"] 0 ⟨[],[]⟩ >>= _) _ _ s;refine wpAny_bind (wpAny_of_eq (show Builtin.Builtins.bindParams "min" ["key", "default"] 0 ⟨[],[]⟩=pure [none,none] from rfl) ?_);show wpAny _ A.in1 (newTuple [a,b] >>= _) _ _ s;refine wpAny_bind (wpAny_newObj_type ?_);have fresh:∀ {b},s.heap.objs.size<=b->s.heap.get? b=none:=λ {b} hb=>by
  cases e:s.heap.get? b with
  | none=>rfl
  | some o=>exact absurd (Heap.lt_size e) (Nat.not_lt.mpr hb)
 generalize hp:s.heap.push {cls:=.type "tuple",data:=.seq #[a,b]}=h1;have k1:Olds s.heap h1:=λ b o e=>by rw[<- hp];exact Heap.get?_push_of_some _ e
 have ht:h1.IsTuple s.heap.objs.size #[a,b]:=⟨_,by rw[<- hp];exact Heap.get?_push_size _ rfl,rfl,0,rfl⟩;have hz:h1.objs.size=s.heap.objs.size+1:=by rw[<- hp];exact size_push' ..
 refine wpAny_bind (wpAny_pyIter_tuple (s:={s with heap:=h1}) ht (wpAny_bind (wpAny_newList ?_ (Nat.zero_le _))));rw[nm];have hS:(h1.push {cls:=.type "tuple_iterator",data:=.fields #[.ref s.heap.objs.size,.int 0 0]}).objs.size=s.heap.objs.size+1+1:=by rw[<- hz];exact size_push' ..
 have k2:Olds s.heap (h1.push {cls:=.type "tuple_iterator",data:=.fields #[.ref s.heap.objs.size,.int 0 0]}):=λ b o e=>Heap.get?_push_of_some _ (k1 b o e);have g1:(h1.push {cls:=.type "tuple_iterator",data:=.fields #[.ref s.heap.objs.size,.int 0 0]}).get? (s.heap.objs.size+1)=some {cls:=.type "tuple_iterator",data:=.fields #[.ref s.heap.objs.size,.int 0 0]}:=by rw[<- hz];exact Heap.get?_push_size _ rfl
 dsimp only;rw[hz,hS];refine wpAny_pure ⟨plainId_quiet PySem.F.plain_min_loop _,abb (h0:=s.heap) (Walks.tuple (prog:=prog) (w:=w) (A:=A.in1) hh (s.heap.objs.size+1) s.heap.objs.size (Nat.ne_of_lt (Nat.lt_succ_self _)) #[a,b]) bt hcmp (s.heap.objs.size+1+1) (λ m=>?_) (by simpa using fresh (Nat.le_succ _)) (fresh (Nat.le_add_right _ 2)) (Nat.succ_pos 1) (c:=0)
  (s:={s with heap:=(h1.push {cls:=.type "tuple_iterator",data:=.fields #[.ref s.heap.objs.size,.int 0 0]}).push (seqObj "list" #[] 0)}) ⟨?_,?_⟩ ?_ ?_ λ v h' tk hP hk=>?_⟩
 ·simp only[List.mem_cons,List.not_mem_nil,or_false] at m;rcases m with e | e
  ·exact Nat.succ_ne_self _ e
  ·exact absurd e (Nat.ne_of_gt (Nat.lt_add_of_pos_right (by decide:0<2)))
 ·exact⟨_,Heap.get?_push_of_some _ g1,rfl,rfl⟩
 ·exact ht.at λ o e=>Heap.get?_push_of_some _ (Heap.get?_push_of_some _ e)
 ·exact λ b o e=>Heap.get?_push_of_some _ (k2 b o e)
 ·rw[<- hS];exact Heap.get?_push_size _ rfl
 ·refine h v h' tk hP λ b o e=>hk b o ?_ ?_ (Heap.get?_push_of_some _ (k2 b o e))
  ·simpa using Nat.ne_of_lt (Nat.lt_succ_of_lt (Heap.lt_size e))
  ·exact Nat.ne_of_lt (Nat.lt_succ_of_lt (Nat.lt_succ_of_lt (Heap.lt_size e)))
end
end HT
namespace D
open L2 HT
structure nZ(lt:List PyData->List PyData->Bool)(rows:List (List PyData)):Prop where
 cmp:∀ a∈rows,∀ b∈rows,LtL a b (lt a b)
 asym:∀ a∈rows,∀ b∈rows,lt a b=true->lt b a=false
 tr:∀ a∈rows,∀ b∈rows,∀ c∈rows,lt b a=false->lt c b=false->lt c a=false
 ok:∀ a∈rows,lM (.tuple a)=true
section
variable {lt:List PyData->List PyData->Bool}{rows:List (List PyData)}
abbrev rw0(rows:List (List PyData))(i:Nat):List PyData:=rows.getD i []
theorem cG{i:Nat}(h:i<rows.length):rw0 rows i∈rows:=by simp[rw0,List.getD_eq_getElem?_getD,h]
theorem sH(L:nZ lt rows):∀ k,k<rows.length->argBest (λ i j=>lt (rw0 rows i) (rw0 rows j)) k<=k/\∀ j,j<=k->lt (rw0 rows j) (rw0 rows (argBest (λ i j=>lt (rw0 rows i) (rw0 rows j)) k))=false
 | 0,h=>⟨Nat.le_refl _,λ j hj=>by
   have:j=0:=by omega
   subst this;cases e:lt (rw0 rows 0) (rw0 rows 0) with
   | false=>exact e
   | true=>have:=L.asym _ (cG h) _ (cG h) e;rw[e] at this;cases this⟩
 | k+1,h=>by
  obtain⟨h1,h2⟩:=sH L k (by omega);simp only[argBest];generalize hb:argBest (λ i j=>lt (rw0 rows i) (rw0 rows j)) k=b at h1 h2 ⊢
  by_cases e:lt (rw0 rows (k+1)) (rw0 rows b)=true
  ·simp only[if_pos e];refine⟨Nat.le_refl _,λ j hj=>?_⟩;have q:=L.asym _ (cG h) _ (cG (show b<rows.length by omega)) e
   by_cases z:j=k+1
   ·subst z;cases e2:lt (rw0 rows (k+1)) (rw0 rows (k+1)) with
    | false=>rfl
    | true=>have:=L.asym _ (cG h) _ (cG h) e2;rw[e2] at this;cases this
   ·exact L.tr _ (cG h) _ (cG (show b<rows.length by omega)) _ (cG (show j<rows.length by omega)) q (h2 j (by omega))
  ·simp only[if_neg e];refine⟨by omega,λ j hj=>?_⟩
   by_cases z:j=k+1
   ·subst z;simpa using e
   ·exact h2 j (by omega)
end
section
variable {X:Cx}{K:FG}{pins:PN}{σ:St}{H:Hp}{s:Shared}
theorem rY{k:Nat}{A:Around}(hu:gR k A)(I:Inv X pins σ H s){a b:List PyData}{x y:V}{u v:Value}{e:Bool}(h:LtL a b e)(ra:ax X.K H (.tuple a) x)(rb:ax X.K H (.tuple b) y)(ru:RelV x u)(rv:RelV y v)(oa:lM (.tuple a)=true)(ob:lM (.tuple b)=true)
  {s':Shared}(ho:Olds s.heap s'.heap):tG A.in1 s' u v e:=by
 simp only[lM,Bool.and_eq_true,Bool.not_eq_true'] at oa ob;obtain⟨as,r1⟩:=cX I _ ra ru oa.2;obtain⟨bs,r2⟩:=cX I _ rb rv ob.2;exact vp h (Reads.keeps ho r1) (Reads.keeps ho r2) oa.1 ob.1 (by have:=hu.un;show A.units+1+80<_;omega)
theorem fe{k:Nat}(hr:er k X.A):eC X (.builtin "min") (λ xs H Q=>∃ p vs rows lt,xs=[.ref p]/\SqL X.K H p vs/\aS X.K H (rows.map PyData.tuple) vs/\rows≠[]/\nZ lt rows /\
  ∀ i,i<rows.length->(∀ x∈rows,lt x (rw0 rows i)=false)->Q (vs.getD i .non) H):=by
 intro pins s σ H xs us Q I r h;obtain⟨p,vs,rows,lt,rfl,hq,ra,hne,L,q⟩:=h;obtain⟨u,rfl,rx⟩:=vals1 r;cases rx;obtain⟨its,rv,pl,hz⟩:=I.list hq;have hl:=rv.length;have hl2:=ra.length;rw[List.length_map] at hl2;have hpos:0<rows.length:=List.length_pos_iff.mpr hne;have get:∀ i,i<rows.length->∃ v u,vs[i]? =some v/\its[i]? =some u/\RelV v u/\ax X.K H (.tuple (rw0 rows i)) v:=λ i hi=>by
  obtain⟨v,e1,e2⟩:=ra.get (i:=i) (d:=.tuple (rw0 rows i)) (by rw[List.getElem?_map,List.getElem?_eq_getElem hi];simp[rw0,List.getD_eq_getElem?_getD,List.getElem?_eq_getElem hi])
  obtain⟨u,e3,e4⟩:=rv.get e1;exact⟨v,u,e1,e3,e4,e2⟩
 refine sZ (bt:=λ i j=>lt (rw0 rows i) (rw0 rows j)) hr.hd pl.isList (by simp;omega) (λ i j vi vj s' ho hi hj=>?_) λ v h' tk hv ho=>?_
 ·have li:i<rows.length:=by have:=(List.getElem?_eq_some_iff.mp (show its[i]? =some vi by simpa using hi)).1;omega
  have lj:j<rows.length:=by have:=(List.getElem?_eq_some_iff.mp (show its[j]? =some vj by simpa using hj)).1;omega
  obtain⟨x,u,a1,a2,a3,a4⟩:=get i li;obtain⟨y,w,b1,b2,b3,b4⟩:=get j lj;have e1:u=vi:=by
   have:its[i]? =some vi:=by simpa using hi
   rw[a2] at this;exact Option.some.inj this
  have e2:w=vj:=by
   have:its[j]? =some vj:=by simpa using hj
   rw[b2] at this;exact Option.some.inj this
  subst e1 e2;exact rY hr.h I (L.cmp _ (cG li) _ (cG lj)) a4 b4 a3 b3 (L.ok _ (cG li)) (L.ok _ (cG lj)) ho
 ·have hs:its.toArray.size-1=rows.length-1:=by simp;omega
  rw[hs] at hv;obtain⟨b1,b2⟩:=sH L (rows.length-1) (by omega);generalize argBest (λ i j=>lt (rw0 rows i) (rw0 rows j)) (rows.length-1)=b at hv b1 b2;obtain⟨x,u,a1,a2,a3,a4⟩:=get b (by omega);have e1:u=v:=by
   have:its[b]? =some v:=by simpa using hv
   rw[a2] at this;exact Option.some.inj this
  subst e1;have:=q b (by omega) λ x hx=>by
   obtain⟨j,hj,rfl⟩:=List.getElem_of_mem hx;have:=b2 j (by omega)
   simpa [rw0,List.getD_eq_getElem?_getD,List.getElem?_eq_getElem hj] using this
  rw[List.getD_eq_getElem?_getD,a1] at this;exact⟨x,H,I.kept ho,a3,this⟩
def jb(ws:List W)(M:MH)(Q:QD):Prop:=∃ w rows lt,ws=[w]/\wI M w (rows.map PyData.tuple)/\rows≠[]/\nZ lt rows/\∀ r,r∈rows->(∀ x∈rows,lt x r=false)->Q (.d (.tuple r)) M
theorem jo:eQ K (λ xs H Q=>∃ p vs rows lt,xs=[.ref p]/\SqL K H p vs/\aS K H (rows.map PyData.tuple) vs/\rows≠[]/\nZ lt rows /\
  ∀ i,i<rows.length->(∀ x∈rows,lt x (rw0 rows i)=false)->Q (vs.getD i .non) H) jb:=by
 intro vs H ws M Qd Q r m ⟨w,rows,lt,e,g,hne,L,q⟩ k;subst e;obtain⟨v,e1,r1⟩:=eG r;obtain⟨p,ys,ev,hq,ra⟩:=g.sound r1 m;subst ev;refine⟨p,ys,rows,lt,e1,hq,ra,hne,L,λ i hi hb=>?_⟩;obtain⟨v,e2,e3⟩:=ra.get (i:=i) (d:=.tuple (rw0 rows i)) (by rw[List.getElem?_map,List.getElem?_eq_getElem hi];simp[rw0,List.getD_eq_getElem?_getD,List.getElem?_eq_getElem hi])
 rw[List.getD_eq_getElem?_getD,e2];exact k _ H (.d (.tuple (rw0 rows i))) M (Kp.refl H) e3 m (q _ (cG hi) hb)
theorem qd{k:Nat}(hr:er k X.A):eC X (.builtin "min") (λ xs H Q=>∃ x y a b lt,xs=[x,y]/\ax X.K H (.tuple a) x/\ax X.K H (.tuple b) y/\nZ lt [a,b]/\Q (if lt b a then y else x) H):=by
 intro pins s σ H xs us Q I r h;obtain⟨x,y,a,b,lt,rfl,ra,rb,L,q⟩:=h;obtain⟨u,v,rfl,ru,rv⟩:=vals2 r;have nn:∀ i w,#[u,v][i]? =some w->∃ c z,(i=0\/i=1)/\rw0 [a,b] i=c/\c∈[a,b]/\ax X.K H (.tuple c) z/\RelV z w:=λ i w e=>by
  match i,e with
  | 0,e=>cases (show some u=some w from e);exact⟨a,x,.inl rfl,rfl,by simp,ra,ru⟩
  | 1,e=>cases (show some v=some w from e);exact⟨b,y,.inr rfl,rfl,by simp,rb,rv⟩
  | i+2,e=>simp at e
 refine pU (bt:=λ i j=>lt (rw0 [a,b] i) (rw0 [a,b] j)) hr.hd (λ i j vi vj s' ho hi hj=>?_) λ w h' tk hw ho=>?_
 ·obtain⟨c,z,_,e1,m1,r1,v1⟩:=nn i vi hi;obtain⟨d,z',_,e2,m2,r2,v2⟩:=nn j vj hj;rw[e1,e2];exact rY hr.h I (L.cmp _ m1 _ m2) r1 r2 v1 v2 (L.ok _ m1) (L.ok _ m2) ho
 ·have e:argBest (λ i j=>lt (rw0 [a,b] i) (rw0 [a,b] j)) 1=if lt b a then 1 else 0:=rfl;rw[e] at hw;cases eb:lt b a with
  | true =>
   rw[eb] at hw q;cases (show some v=some w from hw);exact⟨y,H,I.kept ho,rv,q⟩
  | false =>
   rw[eb] at hw q;cases (show some u=some w from hw);exact⟨x,H,I.kept ho,ru,q⟩
def sC(ws:List W)(M:MH)(Q:QD):Prop:=∃ a b lt,ws=[.d (.tuple a),.d (.tuple b)]/\nZ lt [a,b]/\Q (.d (.tuple (if lt b a then b else a))) M
theorem uE:eQ K (λ xs H Q=>∃ x y a b lt,xs=[x,y]/\ax K H (.tuple a) x/\ax K H (.tuple b) y/\nZ lt [a,b]/\Q (if lt b a then y else x) H) sC:=by
 intro vs H ws M Qd Q r m ⟨a,b,lt,e,L,q⟩ k;subst e;obtain⟨x,y,e1,r1,r2⟩:=qM r;refine⟨x,y,a,b,lt,e1,r1,r2,L,?_⟩;cases eb:lt b a with
 | true=>rw[eb] at q;exact k _ H (.d (.tuple b)) M (Kp.refl H) r2 m q
 | false=>rw[eb] at q;exact k _ H (.d (.tuple a)) M (Kp.refl H) r1 m q
end
open PySem.W (kla_fn)
section
variable {X:Cx}{pins:PN}{σ:St}{H:Hp}{s:Shared}{l f it S:Addr}{xs:List V}{R:Result->Shared->Prop}{k:Nat}
theorem nC(lt:List PyData->List PyData->Bool)(kd:Nat->List PyData)(W:Nat->Hp->Prop)(hh:X.A.handled=none)(hu:gR k X.A)(L:nZ lt ((List.range xs.length).map kd))(hl:∀ i H,W i H->SqL X.K H l xs)(hSI:S≠it)
  (fI:∀ H:Hp,H it=none->iA X pins H it)(fS:∀ H:Hp,H S=none->iA X pins H S)
  (turn:∀ (i:Nat) (v:V) (u:Value) (pl:PN) (H:Hp) (s:Shared),xs[i]? =some v->RelV v u->W i H->Inv (qB X) pl σ H s->wpAny (model X.prog X.w) X.A.in1 (call (.ref f) [u]) (EP (qB X) pl σ λ y H'=>ax X.K H' (.tuple (kd i)) y/\Kp H H'/\W (i+1) H') (λ _ _=>False) s)
  (fin:∀ (i:Nat) (v:V) (u:Value) (H:Hp) (s:Shared),xs[i]? =some v->RelV v u->(∀ j,j<xs.length->lt (kd j) (kd i)=false)->W xs.length H->Inv X pins σ H s->R (.ok (.ret u)) s) :
  ∀ (r j i:Nat) (H:Hp) (s:Shared) (v ky:V) (u ku:Value) (c:Nat),xs.length-(j+1)=r->j+1<=xs.length->Inv X pins σ H s->W (j+1) H->H it=none->H S=none ->
   s.heap.get? S=some (seqObj "list" #[u,ku] c)->s.heap.IsListIter it l (j+1)->xs[i]? =some v->RelV v u->ax X.K H (.tuple (kd i)) ky->RelV ky ku->i<=j->(∀ m,m<=j->lt (kd m) (kd i)=false) ->
   codeAny (model X.prog X.w) X.A (.builtin "min.loop" ⟨[.ref it,.ref f,.ref S],[(Str.ofString "default",.none)]⟩) R s:=by
 have nm:(toString "min" ++ toString ".loop" : String) = "min.loop":= by decide
 have mem:∀ i,i<xs.length->kd i∈(List.range xs.length).map kd:=λ i h=>List.mem_map.mpr ⟨i,List.mem_range.mpr h,rfl⟩;intro r
 induction r with
 | zero =>
  intro j i H s v ky u ku c hr hj J hW nI nS gS gI hv ru rk rku hij best;have hin:j+1=xs.length:=by omega
  obtain⟨its,rl,pl,hz⟩:=J.list (hl _ _ hW);have sz:its.toArray.size=xs.length:=by rw[List.size_toArray,rl.length]
  have Wk:=Walks.list (prog:=X.prog) (w:=X.w) (A:=X.A.in1) hh it l (oM pl.isList gI) its.toArray;refine codeAny_builtin PySem.F.entry_min_loop ?_;rw[Around.under_plainId PySem.F.plain_min_loop _];show wpAny _ X.A.in1 (seqItems? (.ref S) >>= _) _ _ _;refine wpAny_bind (wpAny_seqItems gS rfl ?_);show wpAny _ X.A.in1 (tryCatch (pyNext (.ref it)) _ >>= _) _ _ _;refine wpAny_bind (wpAny_tryCatch (Wk.done _ _ _ ⟨by rw[sz,<- hin];exact gI,pl.isList⟩ λ h' tk' hk'=>?_));have J1:=J.nj (t':=tk') (fI H nI) λ b o hb e=>hk' b o (by simpa using hb) e;have gS':=hk' S _ (by simpa using hSI) gS;have s1:=Heap.SameBut.update h' S (Obj.mapSeq λ _=>(#[]:Array Value));show wpAny _ X.A.in1 (updateSeq S (λ _=>#[]) >>= _) _ _ _;refine wpAny_bind (wpAny_updateSeq gS' rfl (wpAny_bind (wpAny_letGo (wpAny_pure ?_))));exact fin i v u H _ hv ru (λ m hm=>best m (by omega)) (by rw[<- hin];exact hW) (J1.nj (t':=tk') (fS H nS) λ b o hb e=>(s1.2 b hb).trans e)
 | succ r ih =>
  intro j i H s v ky u ku c hr hj J hW nI nS gS gI hv ru rk rku hij best;have hlt:j+1<xs.length:=by omega
  obtain⟨its,rl,pl,hz⟩:=J.list (hl _ _ hW);have sz:its.toArray.size=xs.length:=by rw[List.size_toArray,rl.length]
  have Wk:=Walks.list (prog:=X.prog) (w:=X.w) (A:=X.A.in1) hh it l (oM pl.isList gI) its.toArray;refine codeAny_builtin PySem.F.entry_min_loop ?_;rw[Around.under_plainId PySem.F.plain_min_loop _];show wpAny _ X.A.in1 (seqItems? (.ref S) >>= _) _ _ _;refine wpAny_bind (wpAny_seqItems gS rfl ?_);show wpAny _ X.A.in1 (tryCatch (pyNext (.ref it)) _ >>= _) _ _ _;refine wpAny_bind (wpAny_tryCatch (Wk.item (j+1) _ _ _ (by rw[sz];exact hlt) ⟨gI,pl.isList⟩ λ u2 h' tk' hP hst hk'=>?_));have J1:=J.nj (t':=tk') (fI H nI) λ b o hb e=>hk' b o (by simpa using hb) e;have gS1:=hk' S _ (by simpa using hSI) gS;obtain⟨oI,goI,coI,doI⟩:=id hst.1;obtain⟨v2,hv2⟩:∃ v2,xs[j+1]? =some v2:=⟨_,List.getElem?_eq_getElem hlt⟩;obtain⟨u3,hu3,ru2⟩:=rl.get hv2;have eu:u3=u2:=by
   have hP':its[j+1]? =some u2:=by simpa using hP
   rw[hu3] at hP';exact Option.some.inj hP'
  subst eu;show wpAny _ X.A.in1 (tryCatch (holding [u3] (call (.ref f) [u3])) _ >>= _) _ _ _;have JP:=J1.adK (fS H nS) (fI H nI) gS1 goI (λ _ z=>nomatch z) (λ _ z=>by rw[doI] at z;cases z);refine wpAny_bind (wpAny_tryCatch (wpAny_holding (wpAny_mono (turn (j+1) v2 u3 _ H _ hv2 ru2 hW JP.in1) (λ x s2 he=>?_) λ _ _ hF=>hF.elim)));obtain⟨y,H2,J2,ry,ey,kp2,hW2⟩:=he;obtain⟨J3,⟨gS2,nS2⟩,goI2,nI2⟩:=J2.adE.wK;have gI2:s2.heap.IsListIter it l (j+1+1):=⟨oI,goI2,coI,doI⟩;have rk2:=ax.keep kp2 rk;have li:i<xs.length:=by omega
  show wpAny _ X.A.in1 (tryCatch (holding [u3,x] (richCompare .Lt x ku >>= _)) _ >>= _) _ _ _;refine wpAny_bind (wpAny_tryCatch (wpAny_holding (wpAny_bind (rY hu J3 (L.cmp _ (mem _ hlt) _ (mem _ li)) ey rk2 ry rku (L.ok _ (mem _ hlt)) (L.ok _ (mem _ li)) (λ _ _ e=>e) _ _ _ _ ?_))));refine wpAny_bind (wpAny_holding (wpAny_truthy_bool (wpAny_bind (wpAny_letGo (wpAny_pure ?_)))))
  by_cases hb':lt (kd (j+1)) (kd i)=true
  ·have s1:=Heap.SameBut.update s2.heap S (Obj.mapSeq λ _=>#[u3,x]);obtain⟨c2,hc2⟩:∃ c2,(s2.heap.update S (Obj.mapSeq λ _=>#[u3,x])).get? S=some (seqObj "list" #[u3,x] c2):=⟨_,get?_update_seq gS2 λ _=>#[u3,x]⟩;simp only[hb',if_true];refine wpAny_bind (wpAny_updateSeq gS2 rfl (wpAny_bind (wpAny_letGo ?_)));rw[nm];have J4:=J3.nj (t':=s2.toks) (h':=s2.heap.update S (Obj.mapSeq λ _=>#[u3,x])) (fS H2 nS2) λ b o hb e=>(s1.2 b hb).trans e;refine wpAny_pure ⟨plainId_quiet PySem.F.plain_min_loop _,ih (j+1) (j+1) H2 _ v2 y u3 x c2 (by omega) hlt J4 hW2 nI2 nS2 hc2 ⟨oI,(s1.2 it hSI.symm).trans goI2,coI,doI⟩ hv2 ru2 ey ry (Nat.le_refl _) λ m hm=>?_⟩
   by_cases e:m=j+1
   ·subst e;cases e2:lt (kd (j+1)) (kd (j+1)) with
    | false=>rfl
    | true=>have:=L.asym _ (mem _ hlt) _ (mem _ hlt) e2;rw[e2] at this;cases this
   ·exact L.tr _ (mem _ hlt) _ (mem _ li) _ (mem m (by omega)) (L.asym _ (mem _ hlt) _ (mem _ li) hb') (best m (by omega))
  ·have hb2:lt (kd (j+1)) (kd i)=false:=by simpa using hb'
   simp only[hb2,Bool.false_eq_true,if_false];refine wpAny_bind (wpAny_letGo ?_);rw[nm];refine wpAny_pure ⟨plainId_quiet PySem.F.plain_min_loop _,ih (j+1) i H2 s2 v ky u ku c (by omega) hlt J3 hW2 nI2 nS2 gS2 gI2 hv ru rk2 rku (by omega) λ m hm=>?_⟩
   by_cases e:m=j+1
   ·subst e;exact hb2
   ·exact best m (by omega)
theorem pI(a v d:Value):argsOk "min" ⟨[a],[(Str.ofString "key",v),(Str.ofString "default",d)]⟩:=by unfold argsOk;kernel_rfl
theorem uT{Q:VP}{E:VP}(lt:List PyData->List PyData->Bool)(kd:Nat->List PyData)(W:Nat->Hp->Prop)(hh:X.A.handled=none)(hu:gR k X.A)(L:nZ lt ((List.range xs.length).map kd))(I:Inv X pins σ H s)(hW:W 0 H)
  (hl:∀ i H,W i H->SqL X.K H l xs)
  (turn:∀ (i:Nat) (v:V) (u:Value) (pl:PN) (H:Hp) (s:Shared),xs[i]? =some v->RelV v u->W i H->Inv (qB X) pl σ H s->wpAny (model X.prog X.w) X.A.in1 (call (.ref f) [u]) (EP (qB X) pl σ λ y H'=>ax X.K H' (.tuple (kd i)) y/\Kp H H'/\W (i+1) H') (λ _ _=>False) s)
  (fin:∀ (i:Nat) (v:V) (u:Value) (H:Hp) (s:Shared),xs[i]? =some v->RelV v u->(∀ j,j<xs.length->lt (kd j) (kd i)=false)->W xs.length H->Inv X pins σ H s->Q u s)
  (none:∀ (H:Hp) (s:Shared),xs=[]->W 0 H->Inv X pins σ H s->Q .none s) :
  wpAny (model X.prog X.w) X.A (call (.builtin "min") [.ref l] [(Str.ofString "key",.ref f),(Str.ofString "default",.none)]) Q E s:=by
 have nm:(toString "min" ++ toString ".loop" : String) = "min.loop":= by decide
 obtain⟨its,rl,pl,hz⟩:=I.list (hl _ _ hW);have sz:its.toArray.size=xs.length:=by rw[List.size_toArray,rl.length]
 obtain⟨ol,hol,_⟩:=id pl.isList;have hll:l<s.heap.objs.size:=Heap.lt_size hol;refine kmk_tree PySem.F.kind_min PySem.F.plain_min PySem.F.entry_min (pI _ _ _) ?_;show wpAny _ X.A.in1 (Builtin.Builtins.bindParams "min" ["key", "default"] 0 ⟨[],[(Str.ofString "key",.ref f),(Str.ofString "default",.none)]⟩ >>= _) _ _ s;refine wpAny_bind (wpAny_of_eq (show Builtin.Builtins.bindParams "min" ["key", "default"] 0 ⟨[],[(Str.ofString "key",.ref f),(Str.ofString "default",.none)]⟩=pure [some (.ref f),some .none] from rfl) (wpAny_bind (wpAny_pure ?_)));refine wpAny_bind (wpAny_pyIter_list pl.isList (wpAny_bind (wpAny_newList ?_ (Nat.zero_le _))));rw[nm];generalize hit:s.heap.objs.size=it;have hS:(s.heap.push {cls:=.type "list_iterator",data:=.fields #[.ref l,.int 0 0]}).objs.size=it+1:=by rw[<- hit];exact size_push' ..
 rw[hS];have nI:H it=Option.none:=I.hok.fresh (by rw[hit];exact Nat.le_refl _);have nS:H (it+1)=Option.none:=I.hok.fresh (by rw[hit];exact Nat.le_succ _);have fI:∀ H:Hp,H it=Option.none->iA X pins H it:=λ H n=>I.qo (by rw[hit];exact Nat.le_refl _) n;have fS:∀ H:Hp,H (it+1)=Option.none->iA X pins H (it+1):=λ H n=>I.qo (by rw[hit];exact Nat.le_succ _) n;have gI:((s.heap.push {cls:=.type "list_iterator",data:=.fields #[.ref l,.int 0 0]}).push (seqObj "list" #[] 0)).get? it=some {cls:=.type "list_iterator",data:=.fields #[.ref l,.int 0 0]}:=Heap.get?_push_of_some _ (by rw[<- hit];exact Heap.get?_push_size _ rfl);have gS:((s.heap.push {cls:=.type "list_iterator",data:=.fields #[.ref l,.int 0 0]}).push (seqObj "list" #[] 0)).get? (it+1)=some (seqObj "list" #[] 0):=by rw[<- hS];exact Heap.get?_push_size _ rfl
 refine wpAny_pure ⟨plainId_quiet PySem.F.plain_min_loop _,?_⟩;generalize hH:(s.heap.push {cls:=.type "list_iterator",data:=.fields #[.ref l,.int 0 0]}).push (seqObj "list" #[] 0)=hp at gI gS;have kp:∀ b o,s.heap.get? b=some o->hp.get? b=some o:=λ b o e=>by rw[<- hH];exact Heap.get?_push_of_some _ (Heap.get?_push_of_some _ e)
 have J:=I.kept (t':=s.toks) kp;have hlI:l≠it:=by rw[<- hit];exact Nat.ne_of_lt hll
 have hlst:hp.IsList l its.toArray:=pl.isList.at λ o e=>kp l o e;have Wk:=Walks.list (prog:=X.prog) (w:=X.w) (A:=X.A.in1) hh it l hlI its.toArray;refine codeAny_builtin PySem.F.entry_min_loop ?_;rw[Around.under_plainId PySem.F.plain_min_loop _];show wpAny _ X.A.in1 (seqItems? (.ref (it+1)) >>= _) _ _ _;refine wpAny_bind (wpAny_seqItems gS rfl ?_);show wpAny _ X.A.in1 (tryCatch (pyNext (.ref it)) _ >>= _) _ _ _
 by_cases h0:0<xs.length
 ·refine wpAny_bind (wpAny_tryCatch (Wk.item 0 _ _ _ (by rw[sz];exact h0) ⟨⟨_,gI,rfl,rfl⟩,hlst⟩ λ u2 h' tk' hP hst hk'=>?_));have J1:=J.nj (t':=tk') (fI H nI) λ b o hb e=>hk' b o (by simpa using hb) e;have gS1:=hk' (it+1) _ (by simp) gS;obtain⟨oI,goI,coI,doI⟩:=id hst.1;obtain⟨v2,hv2⟩:∃ v2,xs[0]? =some v2:=⟨_,List.getElem?_eq_getElem h0⟩;obtain⟨u3,hu3,ru2⟩:=rl.get hv2;have eu:u3=u2:=by
   have hP':its[0]? =some u2:=by simpa using hP
   rw[hu3] at hP';exact Option.some.inj hP'
  subst eu;show wpAny _ X.A.in1 (tryCatch (holding [u3] (call (.ref f) [u3])) _ >>= _) _ _ _;have JP:=J1.adK (fS H nS) (fI H nI) gS1 goI (λ _ z=>nomatch z) (λ _ z=>by rw[doI] at z;cases z);refine wpAny_bind (wpAny_tryCatch (wpAny_holding (wpAny_mono (turn 0 v2 u3 _ H _ hv2 ru2 hW JP.in1) (λ x s2 he=>?_) λ _ _ hF=>hF.elim)));obtain⟨y,H2,J2,ry,ey,kp2,hW2⟩:=he;obtain⟨J3,⟨gS2,nS2⟩,goI2,nI2⟩:=J2.adE.wK;have s1:=Heap.SameBut.update s2.heap (it+1) (Obj.mapSeq λ _=>#[u3,x]);obtain⟨c2,hc2⟩:∃ c2,(s2.heap.update (it+1) (Obj.mapSeq λ _=>#[u3,x])).get? (it+1)=some (seqObj "list" #[u3,x] c2):=⟨_,get?_update_seq gS2 λ _=>#[u3,x]⟩;show wpAny _ X.A.in1 (updateSeq (it+1) (λ _=>#[u3,x]) >>= _) _ _ _;refine wpAny_bind (wpAny_updateSeq gS2 rfl ?_);rw[nm];have J4:=J3.nj (t':=s2.toks) (h':=s2.heap.update (it+1) (Obj.mapSeq λ _=>#[u3,x])) (fS H2 nS2) λ b o hb e=>(s1.2 b hb).trans e;have m0:kd 0∈(List.range xs.length).map kd:=List.mem_map.mpr ⟨0,List.mem_range.mpr h0,rfl⟩;refine wpAny_pure ⟨plainId_quiet PySem.F.plain_min_loop _,nC lt kd W hh hu L hl (by simp) fI fS turn fin _ 0 0 H2 _ v2 y u3 x c2 rfl h0 J4 hW2 nI2 nS2 hc2 ⟨oI,(s1.2 it (by simp)).trans goI2,coI,doI⟩ hv2 ru2 ey ry (Nat.le_refl _) λ m hm=>?_⟩;have e:m=0:=by omega
  subst e;cases e2:lt (kd 0) (kd 0) with
  | false=>rfl
  | true=>have:=L.asym _ m0 _ m0 e2;rw[e2] at this;cases this
 ·have e0:xs=[]:=List.length_eq_zero_iff.mp (by omega);have e1:its=[]:=List.length_eq_zero_iff.mp (by rw[<- rl.length,e0];rfl);refine wpAny_bind (wpAny_tryCatch (Wk.done _ _ _ ⟨by rw[List.size_toArray,e1];exact⟨_,gI,rfl,rfl⟩,hlst⟩ λ h' tk' hk'=>?_));show wpAny _ X.A.in1 (rule _ >>= _) _ _ _;exact wpAny_bind (wpAny_rule (wpAny_pure (none H _ e0 hW (J.nj (t':=tk') (fI H nI) λ b o hb e=>hk' b o (by simpa using hb) e))))
end
def tj(P:Addr)(q:Str)(lpos:Pos)(to tb:TD)(fr:List Nat)(τ:DS)(M:MH)(Q:QD):Prop:=to τ M λ w M1=>∃ ds kd lt,w=.d (.list ds)/\M1 P=some (.code q lpos) /\
 (∀ i d,ds[i]? =some d->tb (xn (.d d) fr τ) M1 λ y M2=>y=.d (.tuple (kd i))/\M2=M1)/\nZ lt ((List.range ds.length).map kd)/\(ds=[]->Q (.d .none) M1)/\∀ i d,ds[i]? =some d->(∀ j,j<ds.length->lt (kd j) (kd i)=false)->Q (.d d) M1
section
variable {X:Cx}{P cd:Addr}{q x:Str}{lpos pos p kpos kpos2 kp:Pos}{j:Nat}{params:Arguments}{body o:Expr}{sc:Scope}{fr:List Nat}{to tb:TD}{k:Nat}
theorem tO(hr:er (k+2) X.A)(hc:X.calm=true)(hg:Gl X "min")(hm:X.mg "min" = none)(L:lZ X sc x fr)(hcode:X.env.code=.ref cd)(hcd:W.codeHdIn X.K cd P=true)(hq:X.env.qual ++ "<lambda>" = q)
  (hb:∀ cl pm cdv ctv u,bindArgs (kla_fn "<lambda>" q params body sc cl pm cdv ctv) ⟨[u],[]⟩=pure [(x,u)])(ho:PD X o to)
  (he:∀ cl f c s H pl,er k (um (qB X) q sc (qG X x fr) cl f c s H pl).A->PD (um (qB X) q sc (qG X x fr) cl f c s H pl) body tb)(hso:jE o=false:=by rfl)(hdef:defaultsOf params X.env=([],[]):=by rfl) :
  PD X (.Call (.Name "min" p) [o] [⟨some "key",.Lambda params body sc lpos,kpos⟩,⟨some "default",.Constant .none j kp,kpos2⟩] pos) (tj P q lpos to tb fr):=by
 intro pins s σ H Q I h;subst hq;have hst:starEach [o] X.env=(false,eval o X.env)::starEach [] X.env:=fY o [] X.env hso;have pa:PA X [o] (uk (up X.K to) acf):=rg ho wO hst;have pk:PK X [⟨some "key",.Lambda params body sc lpos,kpos⟩,⟨some "default",.Constant .none j kp,kpos2⟩] (uk (adP X P (X.env.qual ++ "<lambda>") params body sc lpos) (uk (tC .non) acf)):=sM (abF L hcode hcd hdef) (sM wY ab5);obtain⟨τ,M,Qd,A,h,kk⟩:=h;refine wpAny_Call_Name_kw (nV I hg hm hZ (callWith_kw (he:=by rw[hst];rfl) (hplain:=gw pos X.env [o] (by simp[hso])) ?_));refine thn (pa pos pins s σ H (λ vs H1=>∃ v w M1,vs=[v]/\Kp H H1/\aC X.K H1 w v/\cO X.K H1 M1/\∃ ds kd lt,w=.d (.list ds)/\M1 P=some (.code (X.env.qual ++ "<lambda>") lpos) /\
  (∀ i d,ds[i]? =some d->tb (xn (.d d) fr τ) M1 λ y M2=>y=.d (.tuple (kd i))/\M2=M1)/\nZ lt ((List.range ds.length).map kd)/\(ds=[]->Qd (.d .none) M1)/\∀ i d,ds[i]? =some d->(∀ j,j<ds.length->lt (kd j) (kd i)=false)->Qd (.d d) M1) I
  ⟨τ,M,_,A,h,λ x H1 w M1 kp r m z=>⟨x,w,M1,rfl,kp,r,m,z⟩⟩) λ us s1 ⟨vs,H1,I1,r1,hx⟩=>?_
 obtain⟨v,w,M1,ev,kp1,rw1,m1,ds,kd,lt,ew,hP,hkey,hlt,hno,hfin⟩:=hx;subst ev ew;simp only[aC,ax] at rw1;obtain⟨a,xs,ea,hs,ra⟩:=rw1;subst ea;obtain⟨u,rfl,ru⟩:=vals1 r1;cases (show u=Value.ref a from ru);obtain⟨ps,hT,ht,hcA⟩:=m1 P _ hP;refine thn (pk pos pins s1 σ H1 (λ ks H2=>∃ f cl,ks=[.ref f,.non]/\Kp H1 H2/\cO X.K H2 M1/\acO X sc cl/\zN H2 (X.env.qual ++ "<lambda>") x params body sc cl ((X.mg "__name__").getD .none) f) I1 ?_) λ kus s2 ⟨ks,H2,I2,r2,f,cl,ek,kp2,m2,hcl,hlam⟩=>?_
 ·refine⟨ps,hT,ht,?_⟩;rcases hcA with hn | ⟨c,oc,vs,t,e1,e2,e3,e4⟩
  ·refine .inl ⟨hn,λ c f oc vs t ctv cl hcl hc0 hf0 hcf hd hv=>?_⟩;obtain⟨k3,m3⟩:=pH m1 hP hT ht hn hc0 hd hv;have fP:f≠P:=Ne.symm (aE hT hf0);have cP:c≠P:=Ne.symm (aE hT hc0);have hf1:upd (upd H1 c (.frz oc (.own 0))) P (.tbl (kI ps lpos c)) f=none:=by rw[aj fP,aj (Ne.symm hcf)];exact hf0
   exact⟨f,cl,rfl,k3.trans (Kp.new hf1),m3.new hf1,hcl,c,ctv,oc,vs,t,aq,by rw[aj hcf,aj cP,aq],hd,hv⟩
  ·exact .inr ⟨c,oc,vs,t,e1,e2,e3,e4,λ f ctv cl hcl hf0=>⟨f,cl,rfl,Kp.new hf0,m1.new hf0,hcl,c,ctv,oc,vs,t,aq,by rw[aj (aE e2 hf0)];exact e2,e3,e4⟩⟩
 subst ek;obtain⟨ku,nu,rfl,rk,rn⟩:=vals2 r2;cases (show ku=Value.ref f from rk);cases (show nu=Value.none from rn);show wpAny _ _ (call (.builtin "min") [.ref a] [(Str.ofString "key",.ref f),(Str.ofString "default",.none)]) _ _ s2;have hlen:=ra.length;have L':lZ (qB X) sc x fr:=⟨L.kind,L.co,L.gen,L.cell,L.free,L.own,L.fr⟩;have A2:∀ {H'},Kp H2 H'->cO X.K H' M1->Abs X.K H' σ τ M1:=λ kp m=>A.go (kp1.trans (kp2.trans kp)) m;refine uT (k:=k+2) (xs:=xs) lt kd (λ i H'=>Kp H2 H'/\cO X.K H' M1) hr.hd hr.h (by rw[hlen];exact hlt) I2 ⟨Kp.refl _,m2⟩ (λ i H' hW=>(SqF.keep (kp2.trans hW.1) hs).sq) (λ i v u pl H' s' hv ru hW J=>?_) (λ i v u H' s' hv ru hbest hW J=>?_) λ H' s' e0 hW J=>?_
 ·obtain⟨d,hd,rd⟩:=(ra.keep (kp2.trans hW.1)).get' hv;refine yG (X:=qB X) (k:=k) (hr.in1) hc L' hcl.1 hcl.2 (hb cl _) (te:=up X.K tb) (λ c s H pl hr'=>he cl f c s H pl hr') J (D.zN.keep hlam hW.1) ru ?_;refine⟨_,M1,_,xp (A2 hW.1 hW.2) (w:=.d d) rd fr,hkey i d hd,λ y H3 w3 M3 kp3 r3 m3 z=>?_⟩;obtain⟨e1,e2⟩:=z;subst e1 e2;exact⟨r3,kp3,hW.1.trans kp3,m3⟩
 ·obtain⟨d,hd,rd⟩:=(ra.keep (kp2.trans hW.1)).get' hv;exact⟨v,H',J,ru,kk v H' (.d d) M1 (kp1.trans (kp2.trans hW.1)) rd hW.2 (hfin i d hd λ j hj=>hbest j (by omega))⟩
 ·exact⟨.non,H',J,rfl,kk .non H' (.d .none) M1 (kp1.trans (kp2.trans hW.1)) (by simp[aC,ax]) hW.2 (hno (List.length_eq_zero_iff.mp (by rw[<- hlen,e0];rfl)))⟩
end
theorem uc{X:Cx}{P cd:Addr}{q x:Str}{lpos pos p kpos kpos2 kp:Pos}{j:Nat}{params:Arguments}{body o:Expr}{sc:Scope}{fr:List Nat}{to tb:TD}{k:Nat}(hr:er (k+2) X.A)(hc:X.calm=true)(hg:Gl X "min")(hm:X.mg "min" = none)(L:lZ X sc x fr)(hcode:X.env.code=.ref cd)(hcd:W.codeHdIn X.K cd P=true)(hq:X.env.qual ++ "<lambda>" = q)
  (hb:∀ cl pm cdv ctv u,bindArgs (kla_fn "<lambda>" q params body sc cl pm cdv ctv) ⟨[u],[]⟩=pure [(x,u)])(ho:Jd (PD X o to))
  (he:∀ cl f c s H pl,er k (um (qB X) q sc (qG X x fr) cl f c s H pl).A->Jd (PD (um (qB X) q sc (qG X x fr) cl f c s H pl) body tb))(hso:jE o=false:=by rfl)(hdef:defaultsOf params X.env=([],[]):=by rfl) :
  Jd (PD X (.Call (.Name "min" p) [o] [⟨some "key",.Lambda params body sc lpos,kpos⟩,⟨some "default",.Constant .none j kp,kpos2⟩] pos) (tj P q lpos to tb fr)):=⟨D.tO hr hc hg hm L hcode hcd hq hb ho.h (λ cl f c s H pl h=>(he cl f c s H pl h).h) hso hdef⟩
end D
namespace L2
def aei(t:TS):TS:=λ D σ H=>∃ p u,H p=some u/\Fz u/\∀ o,t D σ (upd H p (.frz o u))
theorem xm{X:Cx}{st:Stmt}{t:TS}(h:PS X st t):PS X st (aei t):=λ pins s σ H D I ⟨p,u,e,f,q⟩ =>
 let ⟨o,I1⟩:=I.freeze e f
 h pins s σ _ _ I1 (q o)
end L2
namespace D
open L2
def aan(i:Nat)(t:TSd)(D:Ed)(τ:DS)(M:MH):Prop:=∃ a ds,τ[i]? =some (some (.m a))/\M a=some (.lst (ds.map W.d))/\t D (τ.set i (some (.d (.list ds)))) (iY M a)
theorem rH{X:Cx}{st:Stmt}{t:TSd}{i:Nat}(h:Jd (PSd X st t)):Jd (PSd X st (aan i t)):=⟨have h:=h.h;nY (xm h) λ D σ H hq91=>by
 obtain⟨τ,M,Dd,A,⟨a,ds,hi,hm,q⟩,k1,k2,k3,k4⟩:=hq91;obtain⟨vs,e,ra⟩:=A.mem _ _ hm;refine⟨a,_,e,trivial,λ ob=>?_⟩;have kp:Kp H (upd H a (.frz ob (.lst vs))):=Kp.set e (λ _ z=>nomatch z) (λ _ _ z=>nomatch z);obtain⟨v,hv,r1⟩:=A.val i _ hi;refine⟨_,_,Dd,⟨?_,λ j w hj=>?_,A.mem.del kp⟩,q,λ σ' H' τ' M' kp' A' q'=>k1 _ _ _ _ (kp.trans kp') A' q',λ v H' w M' kp' r' m' q'=>k2 _ _ _ _ (kp.trans kp') r' m' q',
  λ σ' H' τ' M' kp' A' q'=>k3 _ _ _ _ (kp.trans kp') A' q',λ σ' H' τ' M' kp' A' q'=>k4 _ _ _ _ (kp.trans kp') A' q'⟩
 ·rw[List.length_set];exact A.len
 ·by_cases z:j=i
  ·subst z;rw[List.getElem?_set_self (by have:=List.getElem?_eq_some_iff.mp hi;exact this.1)] at hj;cases hj;refine⟨v,hv,?_⟩;simp only[aC,ax];exact⟨a,vs,r1,.inl ⟨ob,aq⟩,ra.data.keep kp⟩
  ·rw[List.getElem?_set_ne (Ne.symm z)] at hj;obtain⟨v',h1,h2⟩:=A.val j w hj;exact⟨v',h1,h2.keep kp⟩⟩
end D
namespace L2
section
variable {M:Model}{A:Around}{E:VP}{s:Shared}
theorem zi{scope:Scope}{globals:Addr}{closure:List (Str×Addr)}{qual:Str}{outer:Env}{bn:Addr}{Q:Env->Shared->Prop}
  (hQ:Q (newEnv scope s.heap.objs.size globals (cellsFrom (s.heap.objs.size+1) scope.names closure) qual none .none (some outer) bn) {s with heap:=pushCells (s.heap.push {cls:=.type "dict",data:=.dict #[]}) scope.names}) :
  wpAny M A (newFunctionEnv scope globals closure [] qual none .none (some outer) bn) Q E s:=by
 simp only[newFunctionEnv,Option.isSome_some,if_true];refine wpAny_bind (wpAny_alloc (wpAny_bind (wpAny_layCells _ (λ name kind cells=>by cases hkc:kind==NameKind.cell<;>simp[hkc]) _ _ _ _ ?_)));rw[show({s with heap:=s.heap.push {cls:=.type "dict",data:=.dict #[]}}:Shared).heap.objs.size=s.heap.objs.size+1 from Heap.size_push ..];refine wpAny_bind ?_;rw[List.forIn_nil];exact wpAny_pure (wpAny_pure hQ)
end
theorem bK:∀ (names:List (Str×NameKind)) (n:Nat) (acc:List (Str×Addr)),cellsFrom n names acc=cellsFrom n names []++acc
 | [],_,_=>rfl
 | (x,k)::r,n,acc=>by
  unfold cellsFrom
  split
  ·rw[bK r (n+1) ((x,n)::acc),bK r (n+1) [(x,n)]];simp
  ·exact bK r n acc
theorem jg:∀ {names:List (Str×NameKind)} {n:Nat} {x:Str} {c:Addr},(x,c)∈cellsFrom n names []->(x,NameKind.cell)∈names
 | [],n,x,c,h=>nomatch h
 | (y,k)::r,n,x,c,h=>by
  unfold cellsFrom at h
  split at h
  ·rename_i hk
   rw[bK] at h;rcases List.mem_append.mp h with h | h
   ·exact List.mem_cons_of_mem _ (jg h)
   ·have:(x,c)=(y,n):=by simpa using h
    cases this;rw[eq_of_beq hk];exact List.mem_cons_self
  ·exact List.mem_cons_of_mem _ (jg h)
theorem fm:∀ {names:List (Str×NameKind)} {n:Nat} {x:Str},(x,NameKind.cell)∈names->∃ c,(x,c)∈cellsFrom n names []
 | (y,k)::r,n,x,h=>by
  unfold cellsFrom;rcases List.mem_cons.mp h with e | h
  ·cases e;rw[if_pos (by decide),bK];exact⟨n,by simp⟩
  ·split
   ·obtain⟨c,hc⟩:=fm (n:=n+1) h;rw[bK];exact⟨c,List.mem_append_left _ hc⟩
   ·exact fm h
theorem lookup_some:∀ {l:List (Str×Addr)} {x:Str} {c:Addr},(x,c)∈l->∃ c',l.lookup x=some c'
 | (y,d)::r,x,c,h=>by
  rw[List.lookup_cons];cases e:x==y with
  | true=>exact⟨d,rfl⟩
  | false =>
   rcases List.mem_cons.mp h with z | z
   ·cases z;simp at e
   ·exact lookup_some z
theorem dm{l r:List (Str×Addr)}{x:Str}:(l++r).lookup x=(l.lookup x).or (r.lookup x):=by
 induction l with
 | nil=>rfl
 | cons p l ih =>
  obtain⟨y,d⟩:=p;simp only[List.cons_append,List.lookup_cons];cases x==y with
  | true=>rfl
  | false=>exact ih
structure lX(X:Cx)(sc:Scope)(own:List Str)(fr:List Nat):Prop where
 kind:sc.kind=.function
 free:∀ y∈sc.names,y.2=.free->(X.env.kindOf y.1=some .cell\/X.env.kindOf y.1=some .free)
 names:∀ y∈sc.names,y.2=.local->sc.names.lookup y.1=some .local
 uni:∀ y∈sc.names,y.2=.cell->sc.names.lookup y.1=some .cell
 fr:zp X.N sc fr=true
def lU(X:Cx)(sc:Scope)(N':List Str)(cl:List (Str×Addr))(C:Addr)(s:Shared)(H:Hp)(ex:List Addr)(pins:PN):Cx:=
 {blk X sc N' cl C s H ex pins with fn:=λ x=>sc.names.lookup x==some .cell}
structure u9(X:Cx)(sc:Scope)(cl:List (Str×Addr))(C:Addr)(cc:List (Str×Addr))(h:Heap):Prop where
 one:∀ n c,cc.lookup n=some c->(X.env.cells.lookup n=some c/\sc.names.lookup n≠some .cell)\/(C<c/\sc.names.lookup n=some .cell/\h.IsCell c none)
 inj:∀ x y c,sc.names.lookup x=some .cell->sc.names.lookup y=some .cell->cc.lookup x=some c->cc.lookup y=some c->x=y
 has:∀ x,(x,NameKind.cell)∈sc.names\/(x,NameKind.free)∈sc.names->∃ c,cc.lookup x=some c
 old:∀ n c,sc.names.lookup n≠some .cell->cl.lookup n=some c->cc.lookup n=some c
section
variable {X:Cx}{pins:PN}{σ:St}{H:Hp}{s:Shared}{sc:Scope}{own:List Str}{fr:List Nat}{cl cc:List (Str×Addr)}{fp:List Addr}{C:Addr}
theorem acH{h:Heap}(L:lX X sc own fr)(c1:∀ n c,cl.lookup n=some c->X.env.cells.lookup n=some c)(c2:∀ n,(n,NameKind.free)∈sc.names->∃ c,cl.lookup n=some c) :
  u9 X sc cl h.objs.size (cellsFrom (h.objs.size+1) sc.names cl) (pushCells (h.push {cls:=.type "dict",data:=.dict #[]}) sc.names):=by
 have ok:=cellsFrom_ok sc.names (h.push {cls:=.type "dict",data:=.dict #[]}) (h.objs.size+1) [] ⟨λ _ _ hm=>(nomatch hm),List.Pairwise.nil⟩ (by rw[Heap.size_push];exact Nat.le_refl _);rw[Heap.size_push] at ok;have own:∀ {n c},(cellsFrom (h.objs.size+1) sc.names []).lookup n=some c->sc.names.lookup n=some .cell:=λ {n c} e=>L.uni _ (jg (PySem.mem_of_lookup e)) rfl;have no:∀ {n},sc.names.lookup n≠some .cell->(cellsFrom (h.objs.size+1) sc.names []).lookup n=none:=λ {n} e=>by
  cases q:(cellsFrom (h.objs.size+1) sc.names []).lookup n with
  | none=>rfl
  | some c=>exact absurd (own q) e
 have at_own:∀ {n c c'},(cellsFrom (h.objs.size+1) sc.names []).lookup n=some c->(cellsFrom (h.objs.size+1) sc.names cl).lookup n=some c'->c=c':=λ {n c c'} q e=>by rw[bK,dm,q] at e;exact Option.some.inj e
 refine⟨λ n c e=>?_,λ x y c hx hy ex ey=>?_,λ x hx=>?_,λ n c h1 h2=>?_⟩
 ·cases q:(cellsFrom (h.objs.size+1) sc.names []).lookup n with
  | none =>
   rw[bK,dm,q] at e;refine .inl ⟨c1 _ _ e,λ z=>?_⟩;obtain⟨d,hd⟩:=fm (n:=h.objs.size+1) (PySem.mem_of_lookup z);obtain⟨d',hd'⟩:=lookup_some hd;rw[q] at hd';cases hd'
  | some d =>
   have:=at_own q e;subst this;obtain⟨a,b⟩:=ok.empty n d (PySem.mem_of_lookup q);exact .inr ⟨b,own q,a⟩
 ·have own2:∀ {z},sc.names.lookup z=some .cell->(cellsFrom (h.objs.size+1) sc.names cl).lookup z=some c->(z,c)∈cellsFrom (h.objs.size+1) sc.names []:=λ {z} hz e=>by obtain⟨d,hd⟩:=fm (n:=h.objs.size+1) (PySem.mem_of_lookup hz);obtain⟨d',hd'⟩:=lookup_some hd;have:=at_own hd' e;subst this;exact PySem.mem_of_lookup hd'
  exact name_of_addr ok.apart (own2 hx ex) (own2 hy ey)
 ·rcases hx with hx | hx
  ·obtain⟨d,hd⟩:=fm (n:=h.objs.size+1) hx;obtain⟨d',hd'⟩:=lookup_some hd;exact⟨d',by rw[bK,dm,hd'];rfl⟩
  ·obtain⟨c,hc⟩:=c2 x hx;cases q:(cellsFrom (h.objs.size+1) sc.names []).lookup x with
   | none=>exact⟨c,by rw[bK,dm,q];exact hc⟩
   | some d=>exact⟨d,by rw[bK,dm,q];rfl⟩
 ·rw[bK,dm,no h1];exact h2
end
theorem fg{env:Env}{x:Str}:∀ {names:List (Str×NameKind)},(names.map λ(n,k)=>if (k==NameKind.free&&env.scope.kind==.function&&env.kindOf n==some .cell) then (n,NameKind.cell) else (n,k)).lookup x=some .cell \/
  (names.map λ(n,k)=>if (k==NameKind.free&&env.scope.kind==.function&&env.kindOf n==some .cell) then (n,NameKind.cell) else (n,k)).lookup x=some .free->(x,NameKind.cell)∈names\/(x,NameKind.free)∈names
 | [],h=>by simp at h
 | (n,k)::r,h=>by
  by_cases hk:(k==NameKind.free&&env.scope.kind==.function&&env.kindOf n==some .cell)=true
  ·simp only[List.map_cons,if_pos hk,List.lookup_cons] at h;cases hx:x==n with
   | true =>
    rw[eq_of_beq hx];simp only[Bool.and_eq_true] at hk;rw[eq_of_beq hk.1.1];exact .inr List.mem_cons_self
   | false =>
    rw[hx] at h;exact(fg h).imp (List.mem_cons_of_mem _) (List.mem_cons_of_mem _)
  ·simp only[List.map_cons,if_neg hk,List.lookup_cons] at h;cases hx:x==n with
   | true =>
    rw[hx] at h;rw[eq_of_beq hx];rcases h with h | h
    ·cases h;exact .inl List.mem_cons_self
    ·cases h;exact .inr List.mem_cons_self
   | false =>
    rw[hx] at h;exact(fg h).imp (List.mem_cons_of_mem _) (List.mem_cons_of_mem _)
section
variable {X:Cx}{pins:PN}{σ:St}{H:Hp}{s:Shared}{sc:Scope}{own:List Str}{fr:List Nat}{cl cc:List (Str×Addr)}{fp:List Addr}{C:Addr}{h1:Heap}
theorem zu(L:lX X sc own fr)(I:Inv X pins σ H s)(hf:∀ b∈fp,iA X pins H b)(hb:∀ b∈fp,b<s.heap.objs.size)(hC:s.heap.objs.size<=C)(Wc:u9 X sc cl C cc h1):(lU X sc (lcN X own fr) cc C s H fp pins).Ok where
 mod:=I.ok.mod
 kind:=L.kind
 glob:=I.ok.glob
 blt:=I.ok.blt
 above:=hC
 inj:=λ x y c a b=>by
  rcases Wc.one _ _ a with ⟨a1,a2⟩ | ⟨a1,a2,a3⟩<;>rcases Wc.one _ _ b with ⟨b1,b2⟩ | ⟨b1,b2,b3⟩
  ·exact I.ok.inj x y c a1 b1
  ·obtain⟨v,z⟩:=I.cell _ _ a1;exact absurd z.lt (Nat.not_lt.mpr (Nat.le_trans hC (Nat.le_of_lt b1)))
  ·obtain⟨v,z⟩:=I.cell _ _ b1;exact absurd z.lt (Nat.not_lt.mpr (Nat.le_trans hC (Nat.le_of_lt a1)))
  ·exact Wc.inj x y c a2 b2 a b
 has:=λ x hx=>Wc.has x (fg hx)
 cab:=λ x c z e=>by
  rcases Wc.one _ _ e with ⟨a1,a2⟩ | ⟨a1,_,_⟩
  ·exact absurd (eq_of_beq z) a2
  ·exact Nat.le_trans hC (Nat.le_of_lt a1)
 hd:=I.ok.hd
 frames:=I.ok.frames
 stk:=.inl rfl
 exf:=λ b z=>⟨Nat.ne_of_lt (Nat.lt_of_lt_of_le (hb b z) hC),λ x c e=>by
  rcases Wc.one _ _ e with ⟨a1,_⟩ | ⟨a1,_,_⟩
  ·exact(hf b z).2.2.2.2.1 x c a1
  ·exact Nat.ne_of_gt (Nat.lt_of_lt_of_le (hb b z) (Nat.le_trans hC (Nat.le_of_lt a1)))⟩
 bs:=I.bs
 bsz:=Nat.le_trans I.ok.bsz I.sz
 noex:=λ b o e z=>by
  rcases(hf b z).2.2.2.1 with q | q
  ·exact I.ok.noex b o e q
  ·exact absurd (Nat.lt_of_lt_of_le (Heap.lt_size e) (Nat.le_trans I.ok.bsz q)) (Nat.lt_irrefl _)
 exfs:=λ b z q=>by
  rcases List.mem_cons.mp (I.eI b q) with e | e
  ·exact(hf b z).2.1 e
  ·exact(hf b z).2.2.1 e
 mH:=I.stack
 frf:=I.kg
end
section
variable {X:Cx}{pins:PN}{σ:St}{H:Hp}{s:Shared}{sc:Scope}{own:List Str}{fr:List Nat}{cl cc:List (Str×Addr)}{fp:List Addr}{C:Addr}{h1:Heap}
theorem u7(L:lX X sc own fr)(I:Inv X pins σ H s)(hf:∀ b∈fp,iA X pins H b)(hb:∀ b∈fp,b<s.heap.objs.size)(hC:s.heap.objs.size<=C)
  (Wc:u9 X sc cl C cc h1)(c2:∀ n,(n,NameKind.free)∈sc.names->∃ c,cl.lookup n=some c)(c1:∀ n c,cl.lookup n=some c->X.env.cells.lookup n=some c)
  {tk:Nat}{m:Str->Option Value}(hn:h1.Ns C m)(k:∀ b o,s.heap.get? b=some o->h1.get? b=some o) :
  Inv (lU X sc (lcN X own fr) cc C s H fp pins) [] (lcS own.length fr σ) H {s with heap:=h1,toks:=tk}:=by
 have ok:=zu L I hf hb hC Wc;refine⟨ok,rfl,I.bare,Un.kept k,⟨m,hn,λ i x v e1 e2 e3=>?_⟩,λ x c e=>?_,I.hok.fresh hC,λ x c e=>?_,λ p hp=>?_,I.hok.kept k,?_⟩
 ·-- one of the names around
  have hi:¬ i<own.length:=λ hi=>by
   unfold lcS at e2;rw[List.getElem?_append_left (by simpa using hi),List.getElem?_replicate] at e2
   split at e2<;>cases e2
  have e1':(lcN X own fr)[i]? =some x:=e1;unfold lcN at e1';unfold lcS at e2;rw[List.getElem?_append_right (by omega),List.getElem?_map] at e1';rw[List.getElem?_append_right (by simpa using hi),List.getElem?_map,List.length_replicate] at e2;cases q:fr[i-own.length]? with
  | none=>rw[q] at e1';cases e1'
  | some j =>
   rw[q] at e1' e2;obtain⟨y,hy,hyf⟩:=kH L.fr (List.mem_of_getElem? q);have ex:y=x:=by have:=Option.some.inj e1';rw[<- this];simp[List.getD,hy]
   subst ex;have ev:σ[j]? =some (some v):=by
    have z:(σ[j]?).getD none=some v:=Option.some.inj e2;cases w:σ[j]? with
    | none=>rw[w] at z;cases z
    | some o=>rw[w] at z;exact congrArg some z
   have hm:(y,NameKind.free)∈sc.names:=PySem.mem_of_lookup hyf;have hk:=L.free _ hm rfl;have vis:Vis X.env.scope y:=by
    rcases hk with z | z
    ·exact .inr (.inl z)
    ·exact .inr (.inr z)
   obtain⟨m0,hn0,hl⟩:=I.loc;obtain⟨u,r,l⟩:=hl j y v hy ev vis;refine⟨u,r,.inr ⟨?_,?_⟩⟩
   ·exact cz (env:=X.env) hyf
   ·obtain⟨c,hc⟩:=c2 y hm;rcases l with ⟨z,_⟩ | ⟨_,c',hc',hcell⟩
    ·rcases hk with q | q
     ·exact absurd (show X.env.kindOf y=some .local from z) (by rw[q];decide)
     ·exact absurd (show X.env.kindOf y=some .local from z) (by rw[q];decide)
    ·have:c=c':=Option.some.inj ((c1 _ _ hc).symm.trans hc');subst this;obtain⟨o,ho,hd⟩:=hcell;exact⟨c,Wc.old _ _ (by rw[hyf];decide) hc,o,k _ _ ho,hd⟩
 ·rcases Wc.one _ _ e with ⟨e,_⟩ | ⟨_,_,e⟩
  ·obtain⟨v,o,ho,hd⟩:=I.cell x c e;exact⟨v,o,k _ _ ho,hd⟩
  ·exact⟨_,e⟩
 ·rcases Wc.one _ _ e with ⟨e,_⟩ | ⟨e,_,_⟩
  ·exact I.freeC x c e
  ·exact I.hok.fresh (Nat.le_trans hC (Nat.le_of_lt e))
 ·have hp':p∈X.pn++pins:=by simpa [lU,blk] using hp
  obtain⟨a1,a2,a3,a4,a5⟩:=I.pin p hp';refine⟨k _ _ a1,a2,Nat.ne_of_lt (Nat.lt_of_lt_of_le (Heap.lt_size a1) hC),λ q=>?_,a5⟩;rcases List.mem_cons.mp (I.eI _ q) with e | e
  ·exact a3 e
  ·exact a4 e
 ·show(lcS own.length fr σ).length=(lcN X own fr).length;simp[lcS,lcN]
end
section
variable {X:Cx}{pins:PN}{σ:St}{H:Hp}{s:Shared}{sc:Scope}{own:List Str}{fr:List Nat}{cl:List (Str×Addr)}{fp:List Addr}{it:Addr}{J:It}{tn:Nat->Heap->Prop}{g:TG}{tt:TT}{te:TE}{W:LcW}{Fin:List V->Hp->Prop}
 {elt tg iter:Expr}{ifs:List Expr}{pos:Pos}{E:VP}
theorem uD{RR:Value->Addr->Result->Shared->Prop}(hc:X.calm=true)(L:lX X sc own fr)(hcl1:∀ n c,cl.lookup n=some c->X.env.cells.lookup n=some c)(hcl2:∀ n,(n,NameKind.free)∈sc.names->∃ c,cl.lookup n=some c)
  (hg:∀ cl C s H ex pl,PG (lU X sc (lcN X own fr) cl C s H ex pl) tg g)(ht:∀ cl C s H ex pl,PTs (lU X sc (lcN X own fr) cl C s H ex pl) ifs tt)(he:∀ cl C s H ex pl,PE (lU X sc (lcN X own fr) cl C s H ex pl) elt te)
  (I:Inv X pins σ H s)(T:Turn X.prog X.w X.K tg J fp it tn)(st:tn 0 s.heap)(hf:∀ b∈fp,iA X pins H b)(w0:∃ m,W 0 m [] (lcS own.length fr σ) H)(turn:sU J g tt te W Fin)
  (hRR:∀ (D C:Addr) (s':Shared) (H':Hp) (ys:List V) (us:List Value) (n:Nat) (m:Str->Option Value),Inv X pins σ H' s'->s'.heap.get? D=some {cls:=.type "list",data:=.seq us.toArray n}->Vals ys us->ys.length<=sizeLine->H' D=none->H' C=none ->
   s.heap.objs.size<=D->s.heap.objs.size<=C->D≠C->s'.heap.Ns C m->Fin ys H'->RR (.ref D) C (.ok .next) s') :
  wpAny (model X.prog X.w) X.A (newList []) (λ acc s₃=>wpAny (model X.prog X.w) X.A (newFunctionEnv sc X.env.globals cl [] X.env.qual none .none (some X.env)) (λ cenv s₄ =>
   codeAny (model X.prog X.w) X.A (.compStart (.ListComp elt [⟨tg,iter,ifs,0⟩] sc pos) 0 (.ref it) acc {cenv with scope:=relabel sc X.env}) (RR acc cenv.locals) s₄) E s₃) E s:=by
 refine wpAny_newObj_type (zi ?_);dsimp only;generalize hH2:s.heap.push {cls:=.type "list",dict:=none,data:=.seq ([]:List Value).toArray}=H2;generalize hh1:pushCells (H2.push {cls:=.type "dict",data:=.dict #[]}) sc.names=h₁;have hns₁:h₁.Ns H2.objs.size λ _=>none:=by rw[<- hh1];exact(Heap.Ns.new H2 (.type "dict")).keeps (pushCells_keeps _ _)
 have hk1:∀ b o,H2.get? b=some o->h₁.get? b=some o:=λ b o e=>by rw[<- hh1];exact pushCells_keeps _ _ _ _ (Heap.get?_push_of_some _ e)
 have hCs:H2.objs.size=s.heap.objs.size+1:=by rw[<- hH2,Heap.size_push]
 have hD0:s.heap.objs.size≠H2.objs.size:=by rw[hCs];exact Nat.ne_of_lt (Nat.lt_succ_self _)
 have hCle:s.heap.objs.size<=H2.objs.size:=by rw[hCs];exact Nat.le_succ _
 have below:∀ b,b<s.heap.objs.size->b≠H2.objs.size/\b≠s.heap.objs.size:=λ b hb=>⟨by rw[hCs];exact Nat.ne_of_lt (Nat.lt_succ_of_lt hb),Nat.ne_of_lt hb⟩;have old:∀ b o,s.heap.get? b=some o->h₁.get? b=some o:=λ b o e=>hk1 b o (hH2 ▸ Heap.get?_push_of_some _ e);have hacc:h₁.get? s.heap.objs.size=some {cls:=.type "list",data:=.seq ([]:List Value).toArray 0}:=hk1 _ _ (hH2 ▸ Heap.get?_push_size _ rfl);have hfb:∀ b∈fp,b<s.heap.objs.size:=λ b hb=>by obtain⟨o,e,_⟩:=T.obj 0 _ st b hb;exact Heap.lt_size e
 have Wc:u9 X sc cl H2.objs.size (cellsFrom (H2.objs.size+1) sc.names cl) h₁:=by rw[<- hh1];exact acH L hcl1 hcl2
 generalize hcc:cellsFrom (H2.objs.size+1) sc.names cl=cc at Wc;have hcl1':=hcl1;have hcl1:∀ n c,cc.lookup n=some c->X.env.cells.lookup n=some c\/H2.objs.size<c:=λ n c e=>(Wc.one n c e).imp (λ z=>z.1) λ z=>z.1;have I1:Inv (lU X sc (lcN X own fr) cc H2.objs.size s H fp pins) [] (lcS own.length fr σ) H {s with heap:=h₁}:=u7 (tk:=s.toks) L I hf hfb hCle Wc hcl2 hcl1' hns₁ old;have st1:tn 0 h₁:=T.keep 0 _ _ st λ b _ o e=>old b o e;generalize hY:lU X sc (lcN X own fr) cc H2.objs.size s H fp pins=Y at I1;have hYp:Y.prog=X.prog:=by rw[<- hY];rfl
 have hYw:Y.w=X.w:=by rw[<- hY];rfl
 have hYK:Y.K=X.K:=by rw[<- hY];rfl
 have hYA:Y.A=X.A:=by rw[<- hY];rfl
 have hYc:Y.calm=true:=by rw[<- hY];exact hc
 have hYe:Y.env=compEnvC sc cc H2.objs.size X.env:=by rw[<- hY];rfl
 have hYx:Y.xe=λ _ _=>False:=by rw[<- hY];rfl
 have hYpn:Y.pn=X.pn++pins:=by rw[<- hY];rfl
 have hYs:Y.s₀=s:=by rw[<- hY];rfl
 have hYH:Y.H₀=H:=by rw[<- hY];rfl
 have hYex:Y.ex=fp:=by rw[<- hY];rfl
 have hYfs:Y.fs=frs X.stack:=by rw[<- hY];rfl
 have gY:=hg cc H2.objs.size s H fp pins;have tY:=ht cc H2.objs.size s H fp pins;have eY:=he cc H2.objs.size s H fp pins;rw[hY] at gY tY eY;have D_pin:∀ p∈Y.pn++([]:PN),p.1≠s.heap.objs.size:=λ p hp=>by rw[hYpn,List.append_nil] at hp;exact(below _ (Heap.lt_size (I.pin p hp).1)).2
 have D_cell:∀ x c,Y.env.cells.lookup x=some c->c≠s.heap.objs.size:=λ x c e=>by
  rw[hYe] at e;rcases hcl1 _ _ e with e | e
  ·obtain⟨v,z⟩:=I.cell x c e;exact(below _ z.lt).2
  ·exact Nat.ne_of_gt (Nat.lt_of_le_of_lt hCle e)
 have D_loc:s.heap.objs.size≠Y.env.locals:=by rw[hYe];exact hD0
 have D_fs:s.heap.objs.size ∉ Y.fs:=by
  rw[hYfs];intro z;rcases List.mem_cons.mp (I.eI _ z) with e | e
  ·exact absurd I.lt (by rw[<- e];exact Nat.lt_irrefl _)
  ·exact I.acI (Nat.le_refl _) e
 have fpY:∀ {H':Hp} (pl:PN),(∀ b∈fp,H' b=none)->(∀ p∈pl,p.1=s.heap.objs.size)->∀ b∈fp,iA Y pl H' b:=λ {H'} pl hn hp b hb=>by
  obtain⟨_,f1,f2,f3,f4,f5⟩:=hf b hb;refine⟨hn b hb,by rw[hYe];exact(below b (hfb b hb)).1,?_,.inl (by rw[hYex];exact hb),λ x c e=>?_,λ p q=>?_⟩
  ·rw[hYfs];intro z;rcases List.mem_cons.mp (I.eI _ z) with e | e
   ·exact f1 e
   ·exact f2 e
  ·rw[hYe] at e;rcases hcl1 _ _ e with e | e
   ·exact f4 x c e
   ·exact Nat.ne_of_gt (Nat.lt_of_lt_of_le (hfb b hb) (Nat.le_trans hCle (Nat.le_of_lt e)))
  ·rcases List.mem_append.mp q with z | z
   ·rw[hYpn] at z;exact f5 p z
   ·rw[hp p z];exact Ne.symm (below b (hfb b hb)).2
 have loop:∀ s₃:Shared,s₃={s with heap:=h₁} ->
   codeAny (model X.prog X.w) X.A (.compLoop (.ListComp elt [⟨tg,iter,ifs,0⟩] sc pos) 0 (.ref it) (.ref s.heap.objs.size) (compEnvC sc cc H2.objs.size X.env)) (RR (.ref s.heap.objs.size) H2.objs.size) s₃:=by
  rintro s₃ rfl;obtain⟨m0,w0⟩:=w0;refine hV (λ n s'=>∃ i ys τ H' us k,Inv Y [] τ H' s'/\tn i s'.heap/\(∀ b∈fp,H' b=none)/\H' s.heap.objs.size=none/\s'.heap.get? s.heap.objs.size=some {cls:=.type "list",data:=.seq us.toArray k}/\Vals ys us/\ys.length<=sizeLine/\W i n ys τ H') ?_ m0
   ⟨0,[],_,H,[],0,I1,st1,λ b hb=>(hf b hb).1,I.hok.fresh (Nat.le_refl _),hacc,.nil,Nat.zero_le _,w0⟩
  rintro n s' ⟨i,ys,τ,H',us,k,I',st',hn',hD',ha',hv',hz',w'⟩;have Ip:Inv Y [(s.heap.objs.size,{cls:=.type "list",data:=.seq us.toArray k})] τ H' s':=I'.cV λ p hp=>by
   have e:p=(s.heap.objs.size,{cls:=.type "list",data:=.seq us.toArray k}):=by simpa using hp
   subst e;exact⟨ha',hD',D_loc,D_fs,λ v z=>nomatch (show Data.seq _ _=Data.cell v from z)⟩
  have onlyD:∀ p∈[((s.heap.objs.size,{cls:=.type "list",data:=.seq us.toArray k}):Addr×Obj)],p.1=s.heap.objs.size:=λ p hp=>by
   have e:p=(s.heap.objs.size,{cls:=.type "list",data:=.seq us.toArray k}):=by simpa using hp
   subst e;rfl
  rcases turn i n ys τ H' w' with ⟨stop,fin⟩ | ⟨go,hlen,step⟩
  ·have q:=T.done Y hYp hYw hYK hYc i _ s' τ H' (λ _ _=>False) Ip (fpY _ hn' onlyD) st' stop;rw[hYA] at q;refine thn q λ r s4 hq92=>?_;obtain⟨hr,I4⟩:=hq92;subst hr;have un:Un (frs X.stack) fp H H' s.heap s4.heap:=by have z:=I4.base;rw[hYfs,hYex,hYH,hYs] at z;exact z
   have os4:s4.os=s.os:=by have z:=I4.os;rw[hYs] at z;exact z
   have hok4:HOk X.prog X.w H' s4.heap:=by have z:=I4.hok;rw[hYp,hYw] at z;exact z
   have hch:∀ b∈fp,(b∈X.ex\/X.s₀.heap.objs.size<=b)/\b≠X.env.locals/\(∀ x c,X.env.cells.lookup x=some c->c≠b)/\∀ p∈X.pn++pins,p.1≠b:=λ b hb=>by obtain⟨_,f1,f2,f3,f4,f5⟩:=hf b hb;exact⟨f3,f1,f4,f5⟩
   have IX:Inv X pins σ H' s4:=I.yf os4 un hok4 I4.bare hch;obtain⟨mC,hmC,_⟩:=I4.loc;have hCf:=I4.free;rw[hYe] at hmC hCf;have pD:=I4.pin (s.heap.objs.size,{cls:=.type "list",data:=.seq us.toArray k}) (List.mem_append_right _ (List.mem_singleton.mpr rfl));exact hRR _ _ s4 H' ys us k mC IX pD.1 hv' hz' pD.2.1 hCf (Nat.le_refl _) hCle hD0 hmC fin
  ·have q:=T.item Y hYp hYw hYK hYc i _ s' τ H' (λ _ _=>False) Ip (fpY _ hn' onlyD) st' go;rw[hYA] at q;refine thn q λ r s4 hq93=>?_;obtain⟨u,hr,h4⟩:=hq93;subst hr;refine thn h4 λ _ s5 hq94=>?_;obtain⟨x,H5,I5,r5,y5,st5,fr5⟩:=hq94;have I5':=I5.pinned (fpY _ fr5 onlyD) (T.obj _ _ st5);have g5:=gY _ s5 τ H5 x u _ I5' r5 (step x H5 y5);rw[hYp,hYw,hYA,hYe,hYx] at g5;refine thn g5 λ _ s6 hq95=>?_;obtain⟨σ6,H6,I6,q6⟩:=hq95;have t6:=tY _ s6 σ6 H6 _ I6 q6;rw[hYp,hYw,hYA,hYe,hYx] at t6;refine thn t6 λ ok s7 hq96=>?_;obtain⟨H7,I7,q7⟩:=hq96;have keepD:∀ {σ8:St} {H8:Hp} {s8:Shared},Inv Y ([(s.heap.objs.size,{cls:=.type "list",data:=.seq us.toArray k})]++gD fp s5.heap) σ8 H8 s8->s8.heap.get? s.heap.objs.size=some {cls:=.type "list",data:=.seq us.toArray k}/\H8 s.heap.objs.size=none:=
    λ {σ8 H8 s8} I8=>by have pD:=I8.pin (s.heap.objs.size,{cls:=.type "list",data:=.seq us.toArray k}) (List.mem_append_right _ (List.mem_append_left _ (List.mem_singleton.mpr rfl)));exact⟨pD.1,pD.2.1⟩
   have keepI:∀ {σ8:St} {H8:Hp} {s8:Shared},Inv Y ([(s.heap.objs.size,{cls:=.type "list",data:=.seq us.toArray k})]++gD fp s5.heap) σ8 H8 s8->tn (i+1) s8.heap/\∀ b∈fp,H8 b=none:=
    λ {σ8 H8 s8} I8=>by refine⟨T.keep _ _ _ st5 λ b hb o e=>(I8.pin (b,o) (List.mem_append_right _ (List.mem_append_right _ (cB hb e)))).1,λ b hb=>?_⟩;obtain⟨o,e,d⟩:=T.obj _ _ st5 b hb;exact(I8.pin (b,o) (List.mem_append_right _ (List.mem_append_right _ (cB hb e)))).2.1
   cases ok with
   | false =>
    rw[if_neg Bool.false_ne_true] at q7 ⊢;obtain⟨m',hm',w7⟩:=q7;obtain⟨a7,b7⟩:=keepD I7;obtain⟨c7,d7⟩:=keepI I7;exact⟨m',hm',i+1,ys,σ6,H7,us,k,I7.cV (λ p hp=>(nomatch hp)),c7,d7,b7,a7,hv',hz',w7⟩
   | true =>
    rw[if_pos rfl] at q7 ⊢;have e7:=eY _ s7 σ6 H7 _ I7 q7;rw[hYp,hYw,hYA,hYe,hYx] at e7;refine thn e7 λ v s8 hq97=>?_;obtain⟨y,H8,I8,r8,m',hm',w8⟩:=hq97;obtain⟨a8,b8⟩:=keepD I8;obtain⟨c8,d8⟩:=keepI I8;have hl:=hv'.length;refine call_meets F.slot_list_append ⟨_,a8,rfl⟩ F.entry_list_append (F.args_list_append_2 _ _) (PySem.list_append s.heap.objs.size us.toArray k v (by rw[List.size_toArray];omega)) ⟨a8,?_⟩;have qu:=PySem.IsL.update a8 (λ xs=>xs.push v);have I9:=(I8.cV (pins':=[]) λ p hp=>nomatch hp).turned (it:=s.heap.objs.size) (t':=s8.toks) (h':=s8.heap.update s.heap.objs.size (Obj.mapSeq λ xs=>xs.push v)) (λ b o hb e=>(Heap.get?_update_other s8.heap _ (Ne.symm hb)).trans e) b8 D_loc (.inr (by rw[hYs];exact Nat.le_refl _)) D_cell D_pin;have ep:us.toArray.push v=(us++[v]).toArray:=by simp
    rw[ep] at qu;refine⟨m',hm',i+1,ys++[y],σ6,H8,us++[v],(if (us++[v]).toArray.size==us.toArray.size then k else k+1),I9,T.keep _ _ _ c8 λ b hb o e=>(Heap.get?_update_other s8.heap _ (Ne.symm (below b (hfb b hb)).2)).trans e,d8,b8,?_,hv'.append (.cons r8 .nil),?_,w8⟩
    ·exact qu
    ·rw[List.length_append,List.length_singleton];omega
 exact codeAny_compStart_list (loop _ rfl) (T.self _ 0 _ _ _ st1 (loop _ rfl))
theorem aaA{wi:TI}(hc:X.calm=true)(L:lX X sc own fr)(hi:PI X tg iter wi)
  (hg:∀ cl C s H ex pl,PG (lU X sc (lcN X own fr) cl C s H ex pl) tg g)(ht:∀ cl C s H ex pl,PTs (lU X sc (lcN X own fr) cl C s H ex pl) ifs tt)(he:∀ cl C s H ex pl,PE (lU X sc (lcN X own fr) cl C s H ex pl) elt te)
  (hs:∀ x,foldedSetIterable iter X.env x=pure x:=by intro _;rfl):PE X (.ListComp elt [⟨tg,iter,ifs,0⟩] sc pos) (tLC wi g tt te own.length fr):=by
 intro pins s σ H Q I h;obtain⟨cl,hcl,c1,c2⟩:=fc (scope:=sc) (env:=X.env) λ x hx hf=>I.ok.has x.1 (L.free x hx hf);rw[eval_ListComp];refine wpAny_comprehension_free (use:=none) (g:=⟨tg,iter,ifs,0⟩) (gs:=[]) rfl hs hcl L.kind L.names ?_;refine thn (hi pins s σ H _ I h) λ v s1 h1=>thn h1 λ itv s2 h2=>?_;obtain⟨it,fp,tn,J,H2,e,I2,T,st2,f2,W,w0,turn⟩:=h2;subst e;refine uD (cl:=cl) hc L c1 c2 hg ht he I2 T st2 f2 w0 turn λ D C s' H' ys us n m I' a' hv hz hD hC dD dC hDC hns fin=>?_;refine⟨m,hns,λ h' sb=>?_⟩;have far:∀ b,s2.heap.objs.size<=b->(X.s₀.heap.objs.size<=b)/\b≠X.env.locals/\(∀ x c,X.env.cells.lookup x=some c->c≠b)/\∀ p∈X.pn++pins,p.1≠b:=λ b hb=>by obtain⟨_,f1,_,f3,f4,f5⟩:=I2.qo (H':=λ _=>none) hb rfl;refine⟨Nat.le_trans I2.sz hb,f1,f4,f5⟩
 obtain⟨z1,z2,z3,z4⟩:=far C dC;obtain⟨y1,y2,y3,y4⟩:=far D dD;have I3:Inv X pins σ H' {s' with heap:=h'}:=I'.turned (t':=s'.toks) (λ b o hb e=>sb.extBut b o hb e) hC z2 (.inr z1) z3 z4;exact⟨.ref D,_,I3.yo (sb.extBut _ _ hDC a') hD hv hz y1 y2 y3 y4,rfl,fin D hD⟩
end
end L2
namespace D
open L2
section
variable {X:Cx}{sc:Scope}{own:List Str}{fr:List Nat}{di:TId}{g:TGd}{tt:TTd}{te:TD}{tg iter elt:Expr}{ifs:List Expr}{pos:Pos}
theorem yR(hc:X.calm=true)(L:lX X sc own fr)(hi:PId X tg iter di)
  (hg:∀ cl C s H ex pl,PGd (lU X sc (lcN X own fr) cl C s H ex pl) tg g)(ht:∀ cl C s H ex pl,rL (lU X sc (lcN X own fr) cl C s H ex pl) ifs tt)(he:∀ cl C s H ex pl,PD (lU X sc (lcN X own fr) cl C s H ex pl) elt te)
  (hs:∀ x,foldedSetIterable iter X.env x=pure x:=by intro _;rfl):PD X (.ListComp elt [⟨tg,iter,ifs,0⟩] sc pos) (dLC di g tt te own.length fr):=
 iq (mD (aaA hc L hi hg ht he hs)) λ σ H Q h=>rX h
def wM(sc scX:Scope)(N:List Str)(fr:List Nat):Bool:=
 (sc.kind==.function)&&sc.names.all (λ y=>!(y.2==.cell) || sc.names.lookup y.1==some .cell)&&sc.names.all (λ y=>!(y.2==.free) || scX.names.lookup y.1==some .cell || scX.names.lookup y.1==some .free) &&
  sc.names.all (λ y=>!(y.2==.local) || sc.names.lookup y.1==some .local)&&zp N sc fr
theorem ac7{X:Cx}{sc:Scope}{own:List Str}{fr:List Nat}(h:wM sc X.env.scope X.N fr=true):lX X sc own fr:=by
 simp only[wM,Bool.and_eq_true] at h;obtain⟨⟨⟨⟨h1,h2⟩,h3⟩,h4⟩,h5⟩:=h;refine⟨eq_of_beq h1,λ y hy e=>?_,λ y hy e=>?_,λ y hy e=>?_,h5⟩
 ·have:=List.all_eq_true.mp h3 y hy;simp only[e,beq_self_eq_true,Bool.not_true,Bool.false_or,Bool.or_eq_true] at this;rcases this with z | z
  ·exact .inl (eq_of_beq z)
  ·exact .inr (eq_of_beq z)
 ·have:=List.all_eq_true.mp h4 y hy;simp only[e,beq_self_eq_true,Bool.not_true,Bool.false_or] at this;exact eq_of_beq this
 ·have:=List.all_eq_true.mp h2 y hy;simp only[e,beq_self_eq_true,Bool.not_true,Bool.false_or] at this;exact eq_of_beq this
end
theorem yj{X:Cx}{sc:Scope}{own:List Str}{fr:List Nat}{di:TId}{g:TGd}{tt:TTd}{te:TD}{tg iter elt:Expr}{ifs:List Expr}{pos:Pos}(hc:X.calm=true)(L:lX X sc own fr)(hi:Jd (PId X tg iter di))
  (hg:∀ cl C s H ex pl,Jd (PGd (lU X sc (lcN X own fr) cl C s H ex pl) tg g))(ht:∀ cl C s H ex pl,Jd (rL (lU X sc (lcN X own fr) cl C s H ex pl) ifs tt))(he:∀ cl C s H ex pl,Jd (PD (lU X sc (lcN X own fr) cl C s H ex pl) elt te))
  (hs:∀ x,foldedSetIterable iter X.env x=pure x:=by intro _;rfl):Jd (PD X (.ListComp elt [⟨tg,iter,ifs,0⟩] sc pos) (dLC di g tt te own.length fr)):=
 ⟨D.yR hc L hi.h (λ cl C s H ex pl=>(hg cl C s H ex pl).h) (λ cl C s H ex pl=>(ht cl C s H ex pl).h) (λ cl C s H ex pl=>(he cl C s H ex pl).h) hs⟩
end D
namespace K36
open L2 D Rc Stc
abbrev c5:Addr:=18
abbrev aP:Addr:=16
abbrev lW:List Str:=["_law_bag_here", "_law_berths", "_law_demands", "_law_found", "_law_number", "_law_k", "_law_machine", "_law_many", "_law_kind", "_law_here", "_law_laid"]
def l6(aD:SpD):TSd:=
  bo (bP (mj (aF)) (gN 3)) <|
  bo (bP (dI 0) (gN 4)) <|
  bo (ik (ip (ae (dOp fF (bI aD (ae (af 0) (ae (dI 25) (aF)))) (dCB w6 (ae (dI 1) (ae (dCB gC (ae (af 1) (aF))) (aF))))) (aF))) (gN 5)
   (bo (bP (dOp dB (af 1) (bI aD (ae (af 0) (ae (dCB gC (ae (af 1) (aF))) (aF))))) (gT 2 (aT (gN 6) (aT (gN 7) (gz))))) <|
   bo (bP (dOp dB (fV (dCB rE (ae (af 2) (aF)))) (bI aD (ae (af 0) (ae (dCB wb (ae (af 2) (aF))) (aF))))) (gN 8)) <|
   bo (iP (bP (dLC (kR (af 3)) (gN 0) (aG (dOp fU (dOp dB (af 0) (dI 2)) (af 1))) (af 0) 1 [6]) (gN 9))) <|
   bo (iP (bP (dLC (kR (af 3)) (gN 0) (aG (dOp fU (dOp dB (af 0) (dI 1)) (af 1))) (af 0) 1 [8]) (gN 10))) <|
   dIf (qx (aG (dOp zR (dCB gC (ae (af 9) (aF))) (af 7))) (qx (aG (dOp fU (dLC (bG (af 9)) (gN 0) (aG (dOp fU (dOp dB (af 0) (dI 1)) (af 1))) (af 0) 1 [8]) (mZ (aF)))) (aG (dOp zR (dCB gC (ae (af 10) (aF))) (gp (af 2) (af 8))))))
    (bo (bP (dOp dj (dOp dj (af 4) (dI 1)) (bI aD (ae (af 0) (ae (dI 3) (aF))))) (gN 4)) <|
    nk (fW (af 3) (iV (ae (af 4) (ae (af 8) (ae (af 6) (aF)))))))
    (cN))) <|
  fJ (af 3)
abbrev sF:List Str:=["_law_lying_here", "_law_machine", "_law_kind"]
def tp:TSd:=
  fJ (dOp dy (dLC (bG (af 0)) (gN 0) (qx (aG (dOp fU (dOp dB (af 0) (dI 1)) (af 1))) (aG (dOp fU (dOp dB (af 0) (dI 2)) (af 2)))) (af 0) 1 [2,1]) (mZ (aF)))
abbrev oD:List Str:=["_law_berths", "_law_lying_here"]
def oy:TSd:=
  fJ (dLC (bG (af 0)) (gT 2 (aT (gN 0) (aT (gN 1) (gz)))) (aG (dOp zR (dCB gC (ae (dLC (bG (af 2)) (gN 0) (aG (dOp fU (dOp dB (af 0) (dI 2)) (af 1))) (af 0) 1 [0]) (aF))) (af 1))) (af 0) 2 [1])
abbrev j1:List Str:=["_law_berths", "_law_lying_here", "_law_ways", "_law_found", "_law_one", "_law_number", "_law_kind", "_law_machine", "_law_others"]
def jG(aM:SpD):TSd:=
  bo (bP (mZ (aF)) (gN 3)) <|
  bo (ik (bG (af 2)) (gN 4)
   (ik (bG (af 1)) (gT 3 (aT (gN 5) (aT (gN 6) (aT (gN 7) (gz)))))
    (dIf (aG (dOp fU (af 7) (dOp dB (af 4) (dUn vT (dI 1)))))
     (bo (bP (dLC (bG (af 0)) (gT 2 (aT (gN 0) (aT (gN 1) (gz)))) (qx (aG (dOp (xW true) (af 0) (af 2))) (zm (aG (bI aM (ae (af 3) (ae (af 0) (ae (af 4) (aF)))))))) (af 0) 2 [4,1,6]) (gN 8)) <|
     bP (yE (af 3) (dLC (bG (af 8)) (gN 0) (u5) (dOp pj (af 1) (iV (ae (af 2) (ae (af 0) (aF))))) 1 [4,5])) (gN 3))
     (cN)))) <|
  fJ (af 3)
abbrev tJ:List Str:=["_law_berths", "_law_lying_here", "_law_kind", "_law_ways", "_law_free_here", "_law_turn", "_law_done"]
def qE(aM bL bT:SpD):TSd:=
  bo (bP (dLC (bG (af 0)) (gT 2 (aT (gN 0) (aT (gN 1) (gz)))) (zm (aG (bI aM (ae (af 2) (ae (af 0) (ae (af 3) (aF))))))) (iV (ae (af 0) (aF))) 2 [1,2]) (gN 3)) <|
  bo (bP (bI bL (ae (af 0) (ae (af 1) (aF)))) (gN 4)) <|
  bo (ik (ip (ae (dCB gC (ae (af 0) (aF))) (aF))) (gN 5)
   (bo (bP (bI bT (ae (af 0) (ae (af 1) (ae (af 3) (aF))))) (gN 3)) <|
   bo (bP (dLC (bG (af 3)) (gN 0) (aG (dOp (tW false) (dOp dB (af 0) (dUn vT (dI 1))) (af 1))) (af 0) 1 [4]) (gN 6)) <|
   dIf (aG (dOp dy (af 6) (mZ (aF))))
    (fJ (dCB jb (ae (af 6) (aF))))
    (cN))) <|
  fJ (dC (.d .none))
abbrev gf:List Str:=["ways", "lying", "kinds", "reached", "further", "number", "kind", "machine", "other", "way"]
def gi:TSd:=
  bo (bP (mO) (gN 4)) <|
  bo (ik (bG (af 1)) (gT 3 (aT (gN 5) (aT (gN 6) (aT (gN 7) (gz)))))
   (dIf (aG (ack (af 7) (af 0)))
    (ik (mN (af 2)) (gN 8)
     (dIf (qx (aG (iZ (af 8) (af 3))) (aG (dOp (tW true) (af 6) (gp (af 2) (af 8)))))
      (bo (bP (dOp pj (gp (af 0) (af 7)) (iV (ae (af 5) (ae (af 8) (aF))))) (gN 9)) <|
      qb (af 4) (af 8) (dCB sC (ae (yk (af 4) (af 8) (af 9)) (ae (af 9) (aF)))))
      (cN)))
    (cN))) <|
  fJ (af 4)
abbrev jO:List Str:=["start", "lying", "kinds", "free", "reached", "ways", "ends", "machine"]
def jP(aV:SpD):TSd:=
  bo (bP (oK [(af 0,dC (.d (.bool true)))]) (gN 4)) <|
  bo (bP (oK [(af 0,iV (ae (af 0) (aF)))]) (gN 5)) <|
  bo (wd (acj (af 5))
   (bo (bP (bI aV (ae (af 5) (ae (af 1) (ae (af 2) (ae (af 4) (aF)))))) (gN 5)) <|
   bo (fT (bP (dLC (ju (af 5)) (gN 0) (aG (dOp (tW false) (af 0) (af 2))) (gp (af 1) (af 0)) 1 [5,3]) (gN 6))) <|
   bo (dIf (acj (af 6))
    (fJ (dCB jb (ae (af 6) (aF))))
    (cN)) <|
   fT (ik (ju (af 5)) (gN 7)
    (qb (af 4) (af 7) (dC (.d (.bool true))))))) <|
  fJ (dC (.d .none))
abbrev mw:List Str:=["berths", "lying", "kind", "kinds", "number", "other", "machine", "free", "ways", "start", "way"]
abbrev eZ:Str:=(("way_for" : Str) ++ ".<locals>." ++ "<lambda>")
def l7(bQ:SpD):TSd:=
  bo (bP (dDC (bG (af 0)) (gT 2 (aT (gN 0) (aT (gN 1) (gz)))) (u5) (af 0) (mj (aF)) 2 []) (gN 3)) <|
  bo (ik (bG (af 1)) (gT 3 (aT (gN 4) (aT (gN 5) (aT (gN 6) (gz)))))
   (nk (fW (gp (af 3) (af 6)) (af 5)))) <|
  bo (bP (dLC (bG (af 0)) (gT 2 (aT (gN 0) (aT (gN 1) (gz)))) (aG (dOp zR (dCB gC (ae (gp (af 2) (af 0)) (aF))) (af 1))) (af 0) 2 [3]) (gN 7)) <|
  bo (bP (mj (aF)) (gN 8)) <|
  bo (fT (ik (mN (af 3)) (gN 9)
   (dIf (aG (dOp (tW true) (af 2) (gp (af 3) (af 9))))
    (bo (bP (bI bQ (ae (af 9) (ae (af 1) (ae (af 3) (ae (af 7) (aF)))))) (gN 10)) <|
    dIf (aG (dOp (yV true) (af 10) (dC (.d .none))))
     (nk (fW (af 8) (af 10)))
     (cN))
    (cN)))) <|
  fJ (tj aP eZ ⟨13,25,13,55⟩ (fV (af 8)) (iV (ae (dCB gC (ae (af 0) (aF))) (ae (af 0) (aF)))) [])
abbrev og:List Str:=["_law_berths", "_law_lying_here", "_law_start", "_law_steps_here", "_law_found", "_law_turn", "_law_some", "_law_number", "_law_kind", "_law_machine", "_law_others"]
def ot(aM:SpD):TSd:=
  bo (bP (iV (ae (af 2) (aF))) (gN 4)) <|
  bo (ik (ip (ae (dCB gC (ae (af 0) (aF))) (aF))) (gN 5)
   (bo (bP (mZ (aF)) (gN 6)) <|
   bo (ik (bG (af 1)) (gT 3 (aT (gN 7) (aT (gN 8) (aT (gN 9) (gz)))))
    (dIf (aG (dOp fU (af 9) (dOp dB (af 4) (dUn vT (dI 1)))))
     (bo (fT (bP (dLC (ju (af 3)) (gN 0) (qx (zm (aG (bI aM (ae (af 1) (ae (af 0) (ae (af 2) (aF))))))) (aG (dOp (xW true) (af 0) (af 3)))) (af 0) 1 [1,8,4]) (gN 10))) <|
     bP (yE (af 6) (dLC (bG (af 10)) (gN 0) (u5) (iV (ae (gp (af 1) (af 0)) (ae (af 2) (ae (af 0) (aF))))) 1 [3,7])) (gN 6))
     (cN))) <|
   bo (dIf (aG (dOp fU (af 6) (mZ (aF))))
    (fJ (dC (.d .none)))
    (cN)) <|
   bo (bP (dOp pj (af 4) (dSl (dCB jb (ae (af 6) (aF))) (km (dI 1)) (e9))) (gN 4)) <|
   dIf (aG (dOp fU (dOp dB (dCB jb (ae (af 6) (aF))) (dI 0)) (dI 0)))
    (fJ (af 4))
    (cN))) <|
  fJ (dC (.d .none))
abbrev lp:List Str:=["_law_berths", "_law_lying_here", "_law_start", "_law_found", "_law_far", "_law_number", "_law_kind", "_law_machine", "_law_near"]
def ly(bL aM:SpD):TSd:=
  bo (bP (dCB kj (ae (dLC (bG (bI bL (ae (af 0) (ae (af 1) (aF))))) (gN 0) (aG (dOp dy (af 0) (af 1))) (iV (ae (af 0) (ae (dI 0) (aF)))) 1 [2]) (aF))) (gN 3)) <|
  bo (ik (ip (ae (dCB gC (ae (af 0) (aF))) (aF))) (gN 4)
   (ik (bG (af 1)) (gT 3 (aT (gN 5) (aT (gN 6) (aT (gN 7) (gz)))))
    (bo (fT (bP (dLC (ju (af 3)) (gN 0) (qx (aG (dOp fU (gp (af 1) (af 0)) (af 2))) (zm (aG (bI aM (ae (af 3) (ae (af 0) (ae (af 4) (aF)))))))) (af 0) 1 [3,4,1,6]) (gN 8))) <|
    dIf (qx (aG (iZ (af 7) (af 3))) (qx (aG (dOp dy (af 7) (af 2))) (aG (dOp dy (af 8) (mZ (aF))))))
     (qb (af 3) (af 7) (dOp dj (af 4) (dI 1)))
     (cN)))) <|
  fJ (af 3)
abbrev lK:List Str:=["_law_lying_here", "_law_ways", "_law_kind", "_law_some", "_law_machine"]
def lz(aM:SpD):TSd:=
  bo (bP (mj (aF)) (gN 3)) <|
  bo (fT (ik (ju (af 1)) (gN 4)
   (dIf (qx (aG (dOp (yV true) (gp (af 1) (af 4)) (dC (.d .none)))) (zm (aG (bI aM (ae (af 0) (ae (af 4) (ae (af 2) (aF))))))))
    (nk (fW (af 3) (iV (ae (dCB gC (ae (gp (af 1) (af 4)) (aF))) (ae (gp (af 1) (af 4)) (aF))))))
    (cN)))) <|
  fJ (acS (aG (dOp dy (af 3) (mZ (aF)))) (dOp dB (dCB jb (ae (af 3) (aF))) (dI 1)) (dC (.d .none)))
abbrev fh:List Str:=["_law_bag_here", "_law_berths", "_law_kinds", "_law_lying_here", "_law_number", "_law_machine", "_law_many", "_law_turn", "_law_kind", "_law_ways", "_law_due_here"]
def ff(aD c4 cE cC aL:SpD):TSd:=
  bo (bP (dLC (ip (ae (dOp dj (dI 6) (bI aD (ae (af 0) (ae (dI 3) (aF))))) (aF))) (gN 0) (u5) (iV (ae (dOp dj (dS "m") (dOp tX (dOp dB (dS "abcdefgh") (af 0)) (dOp dj (dI 1) (dOp dX (af 0) (dI 2))))) (ae (dOp dj (dI 1) (bI aD (ae (af 1) (ae (dI 6) (aF))))) (aF)))) 1 [0]) (gN 1)) <|
  bo (bP (dSl (mZ (ae (dS "a") (ae (dS "back") (ae (dS "ma") (ae (dS "front") (ae (dS "mbb") (ae (dS "side") (ae (dS "w") (ae (dS "zz") (aF)))))))))) (e9) (km (dOp dj (dI 4) (bI aD (ae (af 0) (ae (dI 5) (aF))))))) (gN 2)) <|
  bo (ady 3 4 (ae (mj (aF)) (ae (dI 0) (aF)))) <|
  bo (ik (bG (af 1)) (gT 2 (aT (gN 5) (aT (gN 6) (gz))))
   (bo (bP (bI aD (ae (af 0) (ae (dCB gC (ae (af 2) (aF))) (aF)))) (gN 7)) <|
   ik (bG (dSl (yE (dSl (af 2) (km (af 7)) (e9)) (dSl (af 2) (e9) (km (af 7)))) (e9) (km (dOp aae (af 6) (dCB abA (ae (dOp fU (bI aD (ae (af 0) (ae (dI 5) (aF)))) (dI 0)) (aF))))))) (gN 8)
    (bo (bP (dOp dj (dOp dj (af 4) (dI 1)) (bI aD (ae (af 0) (ae (dI 2) (aF))))) (gN 4)) <|
    nk (fW (af 3) (iV (ae (af 4) (ae (af 8) (ae (af 5) (aF))))))))) <|
  bo (aan 3 (bP (mO) (gN 9))) <|
  bo (ik (bG (af 1)) (gT 2 (aT (gN 5) (aT (gN 6) (gz))))
   (qb (af 9) (af 5) (bI c4 (ae (af 1) (ae (af 3) (ae (af 5) (ae (bI cE (ae (af 1) (ae (af 3) (ae (af 5) (aF))))) (aF)))))))) <|
  bo (ik (bG (yE (af 2) (mZ (ae (dS "other") (aF))))) (gN 8)
   (bo (bP (bI cC (ae (af 3) (ae (af 9) (ae (af 8) (aF))))) (gN 10)) <|
   dIf (aG (dOp dy (dCB cA (ae (bI aL (ae (fV (dCB cJ (ae (af 1) (aF)))) (ae (fV (dCB cJ (ae (af 3) (aF)))) (ae (af 8) (aF))))) (aF))) (dCB cA (ae (af 10) (aF)))))
    (fJ (dC (.d (.bool false))))
    (cN))) <|
  fJ (dC (.d (.bool true)))
abbrev abq:List Str:=["_law_script", "_law_bag_here", "_law_k", "_law_many", "_law_berths", "_law_kinds", "_law_lying_here", "_law_kind", "_law_due_here", "_law_handed", "_law_turn", "_law_told"]
def aa2(dM aD cD cL aL aI:SpD):TSd:=
  bo (bP (bI dM (ae (af 0) (aF))) (gN 1)) <|
  bo (ik (ip (ae (dI 2) (aF))) (gN 2)
   (bo (bP (bI aD (ae (af 1) (ae (dI 6) (aF)))) (gN 3)) <|
   bo (bP (dLC (ip (ae (af 3) (aF))) (gN 0) (u5) (iV (ae (dOp dj (dS "m") (dOp tX (dOp dB (dS "abcde") (af 0)) (dOp dj (dI 1) (dOp dX (af 0) (dI 2))))) (ae (bI aD (ae (af 1) (ae (dOp dB (mZ (ae (dI 4) (ae (dI 3) (aF)))) (dOp qt (af 2) (dI 5))) (aF)))) (aF)))) 1 [1,3]) (gN 4)) <|
   bo (bP (dSl (mZ (ae (dS "back") (ae (dS "ma") (ae (dS "mbb") (ae (dS "side") (ae (dS "zz") (aF))))))) (e9) (km (dOp dj (dI 2) (bI aD (ae (af 1) (ae (dI 4) (aF))))))) (gN 5)) <|
   bo (bP (fV (bI cD (ae (af 1) (ae (af 4) (ae (dCB kj (ae (dLC (bG (af 5)) (gN 0) (u5) (iV (ae (af 0) (ae (af 1) (aF)))) 1 [3]) (aF))) (aF)))))) (gN 6)) <|
   ik (bG (yE (af 5) (mZ (ae (dS "other") (aF))))) (gN 7)
    (bo (bP (bI cL (ae (af 4) (ae (af 6) (ae (af 7) (aF))))) (gN 8)) <|
    bo (bP (iV (ae (fV (dCB cJ (ae (af 4) (aF)))) (ae (fV (dCB cJ (ae (af 6) (aF)))) (aF)))) (gN 9)) <|
    ik (ip (ae (dI 2) (aF))) (gN 10)
     (bo (bP (bI aL (ae (dOp dB (af 9) (dI 0)) (ae (dOp dB (af 9) (dI 1)) (ae (af 7) (aF))))) (gN 11)) <|
     dIf (dOr (aG (dOp dy (af 11) (af 8))) (dOr (aG (dOp dy (dCB cA (ae (af 11) (aF))) (dCB cA (ae (af 8) (aF))))) (aG (dOp dy (af 9) (iV (ae (af 4) (ae (af 6) (aF))))))))
      (fJ (dC (.d (.bool false))))
      (cN))))) <|
  fJ (yI (bI aI (ae (af 1) (aF))) (bI aI (ae (af 1) (aF))))
theorem cT{α:Type}{gt:TGd}{tt:TTd}{te:TD}{Q:List PyData->DS->MH->Prop}{τ0:DS}{M0:MH}(L:List α)(g:α->W)(f:α->PyData)(pr:α->Bool)(S:DS->Prop)(J:MH->Prop)(hL:L.length<=900000)(h0:S τ0)(j0:J M0)
  (step:∀ a∈L,∀ τ M,S τ->J M->∀ R:Option PyData->DS->MH->Prop,(∀ τ2 M2,S τ2->J M2->R (if pr a=true then some (f a) else none) τ2 M2)->gt (g a) τ M λ τ2 M2=>tt τ2 M2 λ b M3=>if b=true then te τ2 M3 λ y M4=>∃ d,y=.d d/\R (some d) τ2 M4 else R none τ2 M3)
  (q:∀ τ M,J M->Q ((L.filter pr).map f) τ M) :
  ∃ P:Nat->List PyData->DS->MH->Prop,P 0 [] τ0 M0 /\
   (∀ i w acc τ M,(L.map g)[i]? =some w->P i acc τ M->acc.length<sizeLine/\gt w τ M λ τ2 M2=>tt τ2 M2 λ b M3=>if b=true then te τ2 M3 λ y M4=>∃ d,y=.d d/\P (i+1) (acc++[d]) τ2 M4 else P (i+1) acc τ2 M3) /\
   ∀ acc τ M,P (L.map g).length acc τ M->Q acc τ M:=by
 refine⟨λ i acc τ M=>acc=((L.take i).filter pr).map f/\S τ/\J M,⟨rfl,h0,j0⟩,?_,?_⟩
 ·rintro i w acc τ M hw ⟨rfl,hs,hj⟩;obtain⟨a,e,rfl⟩:=dA hw;have hi:=(List.getElem?_eq_some_iff.mp e).1;refine⟨?_,?_⟩
  ·have h1:=List.length_filter_le pr (L.take i);rw[List.length_map];rw[List.length_take] at h1;have:1000000<=sizeLine:=by decide
   omega
  ·have et:((L.take (i+1)).filter pr).map f=((L.take i).filter pr).map f++(if pr a=true then [f a] else []):=by
    rw[List.take_succ,e,List.filter_append,List.map_append];congr 1
    by_cases z:pr a=true
    ·simp[z]
    ·simp[z]
   refine step a (List.mem_of_getElem? e) τ M hs hj (λ o τ2 M2=>match o with
    | some d=>((L.take i).filter pr).map f++[d]=((L.take (i+1)).filter pr).map f/\S τ2/\J M2
    | none=>((L.take i).filter pr).map f=((L.take (i+1)).filter pr).map f/\S τ2/\J M2) λ τ2 M2 h2 j2=>?_
   by_cases z:pr a=true
   ·rw[if_pos z] at et ⊢;exact⟨et.symm,h2,j2⟩
   ·rw[if_neg z] at et ⊢;exact⟨by rw[et,List.append_nil],h2,j2⟩
 ·rintro acc τ M ⟨rfl,hs,hj⟩;rw[List.length_map,List.take_length];exact q τ M hj
abbrev Stp:=Int×Str
def dg(ps:List Stp):List PyData:=ps.flatMap λ p=>[.int p.1,.str p.2]
def aU(s:Str)(ps:List Stp):List PyData:=.str s::dg ps
def shE(n:Nat):List Bool:=(List.replicate n [false,true]).flatten
theorem wa(n:Nat):shE (n+1)=false::true::shE n:=by simp[shE,List.replicate_succ]
theorem iS(p:Stp)(ps:List Stp):dg (p::ps)=.int p.1::.str p.2::dg ps:=rfl
theorem sI(ps qs:List Stp):dg (ps++qs)=dg ps++dg qs:=by simp[dg]
theorem br:∀ ps:List Stp,S.Shape (shE ps.length) (dg ps)
 | []=>trivial
 | p::ps=>by rw[List.length_cons,wa,iS];exact⟨⟨_,rfl⟩,⟨_,rfl⟩,br ps⟩
theorem aJ(s:Str)(ps:List Stp):S.Shape (true::shE ps.length) (aU s ps):=⟨⟨_,rfl⟩,br ps⟩
theorem mQ:∀ {ps qs:List Stp},dg ps=dg qs->ps=qs
 | [],[],_=>rfl
 | (a,x)::ps,(b,y)::qs,h=>by
  rw[iS,iS] at h
  injection h with h1 h2
  injection h2 with h2 h3
  injection h1 with h1
  injection h2 with h2
  have h1:a=b:=h1;have h2:x=y:=h2;rw[h1,h2,mQ h3]
 | [],_::_,h=>by cases h
 | _::_,[],h=>by cases h
theorem xT{s t:Str}{ps qs:List Stp}(h:aU s ps=aU t qs):s=t/\ps=qs:=by
 injection h with h1 h2
 injection h1 with h1
 exact⟨h1,mQ h2⟩
theorem mU:∀ {sh:List Bool} {xs ys as bs:List PyData},S.Shape sh xs->S.Shape sh ys->(xs=ys/\S.bH (xs++as) (ys++bs)=S.bH as bs)\/(xs≠ys/\S.bH (xs++as) (ys++bs)=S.bH xs ys)
 | [],[],[],as,bs,_,_=>.inl ⟨rfl,rfl⟩
 | t::sh,x::xs,y::ys,as,bs,hx,hy=>by
  obtain⟨h1,h2,_⟩:=S.c6 hx hy
  by_cases e:x=y
  ·subst e;have hs:S.sEq x x=true:=by
    cases t with
    | true=>obtain⟨⟨z,rfl⟩,_⟩:=hx;simp[S.sEq]
    | false=>obtain⟨⟨z,rfl⟩,_⟩:=hx;simp[S.sEq]
   have e1:S.bH (x::xs++as) (x::ys++bs)=S.bH (xs++as) (ys++bs):=by show S.bH (x::(xs++as)) (x::(ys++bs))=_;simp[S.bH,hs]
   have e2:S.bH (x::xs) (x::ys)=S.bH xs ys:=by simp[S.bH,hs]
   rw[e1,e2];rcases mU (as:=as) (bs:=bs) h1 h2 with ⟨z,q⟩ | ⟨z,q⟩
   ·exact .inl ⟨by rw[z],q⟩
   ·exact .inr ⟨λ k=>z (List.cons.inj k).2,q⟩
  ·have hs:S.sEq x y=false:=by
    cases t with
    | true =>
     obtain⟨⟨a,rfl⟩,_⟩:=hx;obtain⟨⟨b,rfl⟩,_⟩:=hy;simp only[S.sEq];exact beq_eq_false_iff_ne.mpr λ q=>e (by rw[q])
    | false =>
     obtain⟨⟨a,rfl⟩,_⟩:=hx;obtain⟨⟨b,rfl⟩,_⟩:=hy;simp only[S.sEq];exact beq_eq_false_iff_ne.mpr λ q=>e (by rw[q])
   refine .inr ⟨λ q=>e (List.cons.inj q).1,?_⟩;show S.bH (x::(xs++as)) (y::(ys++bs))=_;simp[S.bH,hs]
 | [],_::_,_,_,_,h,_=>by cases h
 | [],[],_::_,_,_,_,h=>by cases h
 | t::_,[],_,_,_,h,_=>by cases t<;>cases h
 | t::_,_::_,[],_,_,_,h=>by cases t<;>cases h
abbrev leD(x y:List PyData):Prop:=S.bH y x=false
structure Gr where
 rows:List (Int×Str×Str)
 names:List Str
def Gr.has(G:Gr)(m k:Str):Bool:=G.rows.any λ r=>r.2.1==k&&r.2.2==m
def Gr.gQ(G:Gr)(p:Str)(e:Stp):Prop:=∃ k,(e.1,k,p)∈G.rows/\e.2∈G.names/\G.has e.2 k=false
def Gr.walk(G:Gr):Str->List Stp->Prop
 | _,[]=>True
 | s,e::ps=>G.gQ s e/\G.walk e.2 ps
def fin:Str->List Stp->Str
 | s,[]=>s
 | _,e::ps=>fin e.2 ps
theorem bS:∀ (s:Str) (ps qs:List Stp),fin s (ps++qs)=fin (fin s ps) qs
 | _,[],_=>rfl
 | _,e::ps,qs=>bS e.2 ps qs
theorem aZ{G:Gr}:∀ {s:Str} {ps qs:List Stp},G.walk s (ps++qs) ↔ G.walk s ps/\G.walk (fin s ps) qs
 | s,[],qs=>by simp[Gr.walk,fin]
 | s,e::ps,qs=>by show G.gQ s e/\G.walk e.2 (ps++qs) ↔ (G.gQ s e/\G.walk e.2 ps)/\G.walk (fin e.2 ps) qs;rw[aZ,and_assoc]
theorem fj{ps:List Stp}{n:Nat}(h:ps.length=n+1):∃ qs e,ps=qs++[e]/\qs.length=n:=by refine⟨ps.dropLast,ps.getLast (by intro z;rw[z] at h;cases h),(List.dropLast_concat_getLast _).symm,by rw[List.length_dropLast,h];rfl⟩
def Gr.lev(G:Gr)(s:Str)(d:Nat)(m:Str):Prop:=(∃ ps,G.walk s ps/\ps.length=d/\fin s ps=m)/\∀ ps,G.walk s ps->fin s ps=m->d<=ps.length
def Gr.best(G:Gr)(s:Str)(d:Nat)(m:Str)(ps:List Stp):Prop:=G.walk s ps/\ps.length=d/\fin s ps=m/\∀ qs,G.walk s qs->qs.length=d->fin s qs=m->leD (dg ps) (dg qs)
theorem dN{G:Gr}{s m:Str}:G.lev s 0 m ↔ m=s:=by
 constructor
 ·rintro⟨⟨ps,_,h,e⟩,_⟩;cases ps with
  | nil=>exact e.symm
  | cons a b=>cases h
 ·rintro rfl;exact⟨⟨[],trivial,rfl,rfl⟩,λ _ _ _=>Nat.zero_le _⟩
theorem iC{G:Gr}{s m:Str}{d e:Nat}(h1:G.lev s d m)(h2:G.lev s e m):d=e:=by obtain⟨⟨ps,a1,a2,a3⟩,a4⟩:=h1;obtain⟨⟨qs,b1,b2,b3⟩,b4⟩:=h2;have:=a4 qs b1 b3;have:=b4 ps a1 a3;omega
theorem fD{G:Gr}{s:Str}{d:Nat}{ps:List Stp}{e:Stp}(h:G.lev s (d+1) e.2)(w:G.walk s (ps++[e]))(hl:ps.length=d):G.lev s d (fin s ps):=by obtain⟨w1,w2⟩:=aZ.mp w;refine⟨⟨ps,w1,hl,rfl⟩,λ qs hq he=>?_⟩;have:=h.2 (qs++[e]) (aZ.mpr ⟨hq,by rw[he];exact w2⟩) (by rw[bS];rfl);rw[List.length_append,List.length_singleton] at this;omega
theorem uy{G:Gr}{s p:Str}{d:Nat}{e:Stp}(hp:G.lev s d p)(he:G.gQ p e)(no:∀ d',d'<=d->¬ G.lev s d' e.2):G.lev s (d+1) e.2:=by
 obtain⟨⟨ps,a1,a2,a3⟩,_⟩:=hp;refine⟨⟨ps++[e],aZ.mpr ⟨a1,by rw[a3];exact⟨he,trivial⟩⟩,by simp[a2],by rw[bS];rfl⟩,?_⟩;have main:∀ n qs,qs.length=n->n<=d->G.walk s qs->fin s qs=e.2->False:=by
  intro n
  induction n using Nat.strongRecOn with
  | ind n ih =>
   intro qs hn hd hw hf;refine no n hd ⟨⟨qs,hw,hn,hf⟩,λ rs hr he'=>?_⟩;apply Classical.byContradiction;intro z;exact ih rs.length (by omega) rs rfl (by omega) hr he'
 intro qs hw hf;apply Classical.byContradiction;intro z;exact main qs.length qs rfl (by omega) hw hf
theorem lI{G:Gr}{s m:Str}{d:Nat}{ps:List Stp}(h:G.lev s (d+1) m)(hw:G.walk s ps)(hl:ps.length=d+1)(hf:fin s ps=m)
  (least:∀ p n qs,G.best s d p qs->G.gQ p (n,m)->leD (dg ps) (dg (qs++[(n,m)])))
  (ex:∀ p,G.lev s d p->∃ qs,G.best s d p qs):G.best s (d+1) m ps:=by
 refine⟨hw,hl,hf,λ rs hr hrl hrf=>?_⟩;obtain⟨r0,e,rfl,h0⟩:=fj hrl;have he:e.2=m:=by rw[bS] at hrf;exact hrf
 obtain⟨w1,w2⟩:=aZ.mp hr;subst he;have hp:=fD h hr h0;obtain⟨qs,hq⟩:=ex _ hp;have l1:=least _ e.1 qs hq w2.1;have l2:=hq.2.2.2 r0 w1 h0 rfl;have sq:S.Shape (shE d) (dg qs):=by rw[<- hq.2.1];exact br qs
 have sr:S.Shape (shE d) (dg r0):=by rw[<- h0];exact br r0
 have a1:S.Shape (shE (d+1)) (dg ps):=by rw[<- hl];exact br ps
 have a2:S.Shape (shE (d+1)) (dg (qs++[(e.1,e.2)])):=by
  have:=br (qs++[(e.1,e.2)])
  rwa[List.length_append,hq.2.1] at this
 have a3:S.Shape (shE (d+1)) (dg (r0++[e])):=by
  have:=br (r0++[e])
  rwa[List.length_append,h0] at this
 refine S.dr a1 a2 a3 l1 ?_;show S.bH (dg (r0++[e])) (dg (qs++[(e.1,e.2)]))=false;rw[sI,sI];rcases mU (as:=dg [e]) (bs:=dg [(e.1,e.2)]) sr sq with ⟨_,q⟩ | ⟨_,q⟩
 ·rw[q];exact S.fi _ (br [e])
 ·rw[q];exact l2
theorem min_list{sh:List Bool}:∀ {l:List (List Stp)},l≠[]->(∀ x∈l,S.Shape sh (dg x))->∃ x∈l,∀ y∈l,leD (dg x) (dg y)
 | [x],_,h=>⟨x,by simp,λ y hy=>by rw[List.mem_singleton.mp hy];exact S.fi _ (h x (by simp))⟩
 | x::z::l,_,h=>by
  obtain⟨b,hb,q⟩:=min_list (l:=z::l) (by simp) λ y hy=>h y (by simp[hy]);have sx:=h x (by simp);have sb:=h b (by simp[hb]);cases e:S.bH (dg b) (dg x) with
  | true =>
   refine⟨b,by simp[hb],λ y hy=>?_⟩;rcases List.mem_cons.mp hy with e' | hy
   ·subst e';exact S.gr sb sx e
   ·exact q y hy
  | false =>
   refine⟨x,by simp,λ y hy=>?_⟩;rcases List.mem_cons.mp hy with e' | hy'
   ·subst e';exact S.fi _ sx
   ·exact S.dr sx sb (h y hy) e (q y hy')
theorem mx{G:Gr}{s m:Str}{d:Nat}{ps qs:List Stp}(h:G.best s d m ps)(h':G.best s d m qs):ps=qs:=by have l1:=h.2.2.2 qs h'.1 h'.2.1 h'.2.2.1;have l2:=h'.2.2.2 ps h.1 h.2.1 h.2.2.1;have s1:=br ps;have s2:=br qs;rw[h.2.1] at s1;rw[h'.2.1] at s2;exact mQ (S.gm s1 s2 l2 l1)
theorem pg{G:Gr}{s m:Str}{n:Int}{d:Nat}{p:Str}{qs:List Stp}(h:G.lev s (d+1) m)(hq:G.best s d p qs)(he:G.gQ p (n,m)):G.lev s d p:=by
 have:=fD (e:=(n,m)) h (aZ.mpr ⟨hq.1,by rw[hq.2.2.1];exact⟨he,trivial⟩⟩) hq.2.1
 rwa[hq.2.2.1] at this
open Classical in
theorem jh{G:Gr}{s:Str}:∀ {d:Nat} {m:Str},G.lev s d m->∃ ps,G.best s d m ps
 | 0,m,h=>by
  have:=dN.mp h;subst this;exact⟨[],trivial,rfl,rfl,λ qs _ hq _=>by have:qs=[]:=List.length_eq_zero_iff.mp hq;subst this;rfl⟩
 | d+1,m,h=>by
  have ih:∀ p,G.lev s d p->∃ ps,G.best s d p ps:=λ p hp=>jh hp
  let c:Int×Str×Str->Option (List Stp):=λ r=>if z:G.lev s d r.2.2/\G.gQ r.2.2 (r.1,m) then some (choose (ih _ z.1)++[(r.1,m)]) else none
  have mem:∀ {p n qs},G.best s d p qs->G.gQ p (n,m)->qs++[(n,m)]∈G.rows.filterMap c:=λ {p n qs} hq he=>by obtain⟨k,hk,h1,h2⟩:=id he;have hp:=pg h hq he;refine List.mem_filterMap.mpr ⟨(n,k,p),hk,?_⟩;have z:G.lev s d (n,k,p).2.2/\G.gQ (n,k,p).2.2 ((n,k,p).1,m):=⟨hp,he⟩;show(if z:G.lev s d (n,k,p).2.2/\G.gQ (n,k,p).2.2 ((n,k,p).1,m) then some (choose (ih _ z.1)++[((n,k,p).1,m)]) else none)=_;rw[dif_pos z,mx (choose_spec (ih _ z.1)) hq]
  have of:∀ {x},x∈G.rows.filterMap c->G.walk s x/\x.length=d+1/\fin s x=m:=λ {x} hx=>by
   obtain⟨r,hr,e⟩:=List.mem_filterMap.mp hx
   by_cases z:G.lev s d r.2.2/\G.gQ r.2.2 (r.1,m)
   ·have e':c r=some (choose (ih _ z.1)++[(r.1,m)]):=dif_pos z;rw[e'] at e;have e:=Option.some.inj e;subst e;obtain⟨b1,b2,b3,_⟩:=choose_spec (ih _ z.1);exact⟨aZ.mpr ⟨b1,by rw[b3];exact⟨z.2,trivial⟩⟩,by simp[b2],by rw[bS];rfl⟩
   ·have e':c r=none:=dif_neg z;rw[e'] at e;cases e
  have ne:G.rows.filterMap c≠[]:=by obtain⟨⟨ps,a1,a2,a3⟩,_⟩:=id h;obtain⟨qs,e,rfl,hq⟩:=fj a2;obtain⟨w1,w2⟩:=aZ.mp a1;rw[bS] at a3;have a3:e.2=m:=a3;subst a3;have hp:=fD h a1 hq;obtain⟨rs,hr⟩:=ih _ hp;exact List.ne_nil_of_mem (mem hr w2.1)
  obtain⟨x,hx,least⟩:=min_list (sh:=shE (d+1)) ne λ x hx=>by rw[<- (of hx).2.1];exact br x
  obtain⟨x1,x2,x3⟩:=of hx;exact⟨x,lI h x1 x2 x3 (λ p n qs hq he=>least _ (mem hq he)) ih⟩
def eN(P:Str->List Stp->Prop)(s:Str)(ps:List Stp):Prop:=P s ps/\∀ t qs,P t qs->ps.length<=qs.length/\(qs.length=ps.length->leD (aU s ps) (aU t qs))
theorem qe{P:Str->List Stp->Prop}{s t:Str}{ps qs:List Stp}(h:eN P s ps)(h':eN P t qs):s=t/\ps=qs:=by
 obtain⟨a1,a2⟩:=h.2 _ _ h'.1;obtain⟨b1,b2⟩:=h'.2 _ _ h.1;have e:qs.length=ps.length:=by omega
 have l1:=a2 e;have l2:=b2 e.symm;have s1:=aJ s ps;have s2:=aJ t qs;rw[e] at s2;exact xT (S.gm s1 s2 l2 l1)
def Gr.to(G:Gr)(free:List Str)(s:Str)(ps:List Stp):Prop:=G.walk s ps/\fin s ps∈free/\fin s ps≠s
theorem uZ{G:Gr}{free:List Str}{s m:Str}{d:Nat}{ps:List Stp}(hd:0<d)(hm:m∈free)(hl:G.lev s d m)(hb:G.best s d m ps)
  (no:∀ d' m',0<d'->d'<d->G.lev s d' m'->m' ∉ free)(least:∀ m' qs,m'∈free->G.lev s d m'->G.best s d m' qs->leD (aU s ps) (aU s qs)):eN (λ t qs=>t=s/\G.to free t qs) s ps:=by
 have ne:∀ {d' m'},0<d'->G.lev s d' m'->m'≠s:=λ {d' m'} h0 h1 e=>by have:=iC h1 (dN.mpr e);omega
 have lv:∀ (qs:List Stp),G.walk s qs->∃ d',d'<=qs.length/\G.lev s d' (fin s qs):=by
  intro qs hq;have:∃ n,(∃ rs,G.walk s rs/\rs.length=n/\fin s rs=fin s qs)/\n<=qs.length:=⟨_,⟨qs,hq,rfl,rfl⟩,Nat.le_refl _⟩;have main:∀ n,(∃ rs,G.walk s rs/\rs.length=n/\fin s rs=fin s qs)->n<=qs.length->∃ d',d'<=qs.length/\G.lev s d' (fin s qs):=by
   intro n
   induction n using Nat.strongRecOn with
   | ind n ih =>
    intro hn hle
    by_cases z:∃ k,k<n/\∃ rs,G.walk s rs/\rs.length=k/\fin s rs=fin s qs
    ·obtain⟨k,hk,hr⟩:=z;exact ih k hk hr (by omega)
    ·refine⟨n,hle,hn,λ rs hr he=>?_⟩;apply Classical.byContradiction;intro y;exact z ⟨rs.length,by omega,rs,hr,rfl,he⟩
  obtain⟨n,h1,h2⟩:=this;exact main n h1 h2
 refine⟨⟨rfl,hb.1,by rw[hb.2.2.1];exact hm,by rw[hb.2.2.1];exact ne hd hl⟩,?_⟩;rintro t qs ⟨rfl,hq,hf,hne⟩;obtain⟨d',h1,h2⟩:=lv qs hq;have h0:0<d':=by
  rcases Nat.eq_zero_or_pos d' with z | z
  ·subst z;exact absurd (dN.mp h2) hne
  ·exact z
 have hdd:d<=d':=by
  apply Classical.byContradiction;intro z;exact no d' _ h0 (by omega) h2 hf
 refine⟨by rw[hb.2.1];omega,λ e=>?_⟩;have ed:d'=d:=by rw[hb.2.1] at e;omega
 subst ed;obtain⟨rs,hr⟩:=jh h2;have l1:=least _ rs hf h2 hr;have l2:=hr.2.2.2 qs hq (by rw[e];exact hb.2.1) rfl;have a1:=aJ t ps;have a2:=aJ t rs;have a3:=aJ t qs;rw[hb.2.1] at a1;rw[hr.2.1] at a2;rw[e,hb.2.1] at a3;refine S.dr a1 a2 a3 l1 ?_;show S.bH (.str t::dg qs) (.str t::dg rs)=false
 simpa [S.bH,S.sEq] using l2
abbrev Row3:=Int×Str×Str
def dZ(r:Row3):PyData:=.tuple [.int r.1,.str r.2.1,.str r.2.2]
abbrev bx(R:List Row3):PyData:=.list (R.map dZ)
structure OkR(R:List Row3):Prop where
 len:R.length<=200
 num:∀ r∈R,0<=r.1/\r.1<10000
 word:∀ r∈R,gc r.2.1=true/\gc r.2.2=true/\r.2.1.length<=8/\r.2.2.length<=8
def hasB(R:List Row3)(m k:Str):Bool:=R.any λ r=>r.2.1==k&&r.2.2==m
def aM:SpD:=λ ws M Q=>∃ (R:List Row3) (m k:Str),ws=[.d (bx R),.d (.str m),.d (.str k)]/\OkR R/\Q (.d (.bool (hasB R m k))) M
theorem rD:∀ ws M Q,aM ws M Q->ws.length=3:=by rintro ws M Q ⟨R,m,k,rfl,_⟩;rfl
theorem aa5{R:List Row3}(h:OkR R)(c:Row3->Bool):okD 3 (.list ((R.filter c).map dZ))=true:=by refine cI λ d hd=>?_;obtain⟨r,hr,rfl⟩:=List.mem_map.mp hd;obtain⟨w1,w2,w3,w4⟩:=h.word r (List.mem_filter.mp hr).1;have:=h.num r (List.mem_filter.mp hr).1;simp[dZ,okD,okA,w1,w2];omega
theorem qa:∀ ws M Q,aM ws M Q->tp {nx:=λ _ M'=>Q (.d .none) M',rt:=Q} (cf sF ws) M:=by
 rintro ws M Q ⟨R,m,k,rfl,ok,q⟩;refine⟨_,rfl,_,rfl,?_⟩;rw[List.map_map];refine cT R (W.d ∘ dZ) dZ (λ r=>r.2.1==k&&r.2.2==m) (λ τ=>∃ x,τ=[x,some (.d (.str k)),some (.d (.str m))]) (λ M'=>M'=M) (by have:=ok.len;omega) ⟨_,rfl⟩ rfl (λ r hr τ M' hτ hM R' h=>?_) λ τ M' hM=>?_
 ·obtain⟨x,rfl⟩:=hτ;subst hM;refine⟨_,rfl,1,_,rfl,rfl,rfl,_,rfl,_,_,.d,.d,rfl,_,rfl,?_⟩;rw[cy];cases e1:r.2.1==k with
  | false =>
   refine dF (dF ?_);have:=h [some (.d (dZ r)),some (.d (.str k)),some (.d (.str m))] M' ⟨_,rfl⟩ rfl;rw[e1] at this;exact this
  | true =>
   refine fK ⟨_,rfl,2,_,rfl,rfl,rfl,_,rfl,_,_,.d,.d,rfl,_,rfl,?_⟩;rw[cy];have:=h [some (.d (dZ r)),some (.d (.str k)),some (.d (.str m))] M' ⟨_,rfl⟩ rfl;rw[e1] at this;cases e2:r.2.2==m with
   | false=>rw[e2] at this;exact dF this
   | true=>rw[e2] at this;exact fK ⟨_,rfl,_,rfl,this⟩
 ·subst hM;refine⟨[],rfl,Nat.zero_le _,_,_,.d,.d,dH (k:=3) (by decide) (aa5 ok _) rfl,?_⟩;have e:(!PyData.eqv (.list ((R.filter λ r=>r.2.1==k&&r.2.2==m).map dZ)) (.list []))=hasB R m k:=by
   cases z:R.filter λ r=>r.2.1==k&&r.2.2==m with
   | nil =>
    have:hasB R m k=false:=by
     unfold hasB;rw[List.any_eq_false];intro r hr hq;have:r∈R.filter λ r=>r.2.1==k&&r.2.2==m:=List.mem_filter.mpr ⟨hr,hq⟩;rw[z] at this;cases this
    rw[this];rfl
   | cons r l =>
    have:hasB R m k=true:=by
     have hr:r∈R.filter λ r=>r.2.1==k&&r.2.2==m:=by rw[z];exact List.mem_cons_self
     obtain⟨h1,h2⟩:=List.mem_filter.mp hr;exact List.any_eq_true.mpr ⟨r,h1,h2⟩
    rw[this];rfl
  rw[e];exact q
abbrev Bth:=Str×Int
def bD(b:Bth):PyData:=.tuple [.str b.1,.int b.2]
abbrev eh(B:List Bth):PyData:=.list (B.map bD)
structure OkB(B:List Bth):Prop where
 len:B.length<=8
 nd:(B.map (·.1)).Nodup
 word:∀ b∈B,gc b.1=true/\b.1.length<=8
 num:∀ b∈B,0<=b.2/\b.2<=10
def lg(R:List Row3)(m:Str):Nat:=(R.filter λ r=>r.2.2==m).length
def kT(R:List Row3)(b:Bth):Bool:=decide ((lg R b.1:Int)<b.2)
def aN(B:List Bth)(R:List Row3):List Str:=(B.filter (kT R)).map (·.1)
def bL:SpD:=λ ws M Q=>∃ (B:List Bth) (R:List Row3),ws=[.d (eh B),.d (bx R)]/\OkB B/\OkR R/\Q (.d (.list ((aN B R).map PyData.str))) M
theorem pL:∀ ws M Q,bL ws M Q->ws.length=2:=by rintro ws M Q ⟨B,R,rfl,_⟩;rfl
theorem ny:∀ ws M Q,bL ws M Q->oy {nx:=λ _ M'=>Q (.d .none) M',rt:=Q} (cf oD ws) M:=by
 rintro ws M Q ⟨B,R,rfl,okB,okR,q⟩;refine⟨_,rfl,_,rfl,?_⟩;rw[List.map_map];refine cT B (W.d ∘ bD) (λ b=>.str b.1) (kT R) (λ τ=>∃ x y,τ=[x,y,some (.d (bx R))]) (λ M'=>M'=M) (by have:=okB.len;omega) ⟨_,_,rfl⟩ rfl (λ b hb τ M' hτ hM R' h=>?_) λ τ M' hM=>?_
 ·obtain⟨x,y,rfl⟩:=hτ;subst hM;refine⟨_,rfl,rfl,_,_,rfl,_,_,rfl,rfl,?_⟩;refine⟨_,rfl,_,rfl,?_⟩;rw[List.map_map];refine cT R (W.d ∘ dZ) dZ (λ r=>r.2.2==b.1) (λ τ=>∃ x,τ=[x,some (.d (.str b.1))]) (λ M''=>M''=M') (by have:=okR.len;omega) ⟨_,rfl⟩ rfl (λ r hr τ M2 hτ hM R2 h2=>?_) λ τ M2 hM=>?_
  ·obtain⟨x,rfl⟩:=hτ;subst hM;refine⟨_,rfl,2,_,rfl,rfl,rfl,_,rfl,_,_,.d,.d,rfl,_,rfl,?_⟩;rw[cy];have:=h2 [some (.d (dZ r)),some (.d (.str b.1))] M2 ⟨_,rfl⟩ rfl;cases e2:r.2.2==b.1 with
   | false=>rw[e2] at this;exact dF this
   | true=>rw[e2] at this;exact fK ⟨_,rfl,_,rfl,this⟩
  ·subst hM;refine⟨_,_,rfl,rfl,rfl,_,rfl,_,_,rfl,rfl,_,rfl,?_⟩;have e:decide (((((R.filter λ r=>r.2.2==b.1).map dZ).length:Nat):Int)<b.2)=kT R b:=by rw[List.length_map];rfl
   rw[e];have:=h [some (.d (.str b.1)),some (.d (.int b.2)),some (.d (bx R))] M2 ⟨_,_,rfl⟩ rfl;cases z:kT R b with
   | false=>rw[z] at this;exact dF this
   | true=>rw[z] at this;exact fK ⟨_,rfl,_,rfl,this⟩
 ·subst hM;have e:(B.filter (kT R)).map (λ b=>PyData.str b.1)=(aN B R).map PyData.str:=by unfold aN;rw[List.map_map];rfl
  rw[e];exact q
abbrev WL:=List (Str×List Stp)
def qv(s:Str)(p:Str×List Stp):PyData:=.tuple (aU s p.2)
abbrev lO(s:Str)(L:WL):List (Key×W):=cg (rk Prod.fst (qv s) L)
structure Fur(C:Str->List Stp->Prop)(n:Nat)(L:WL):Prop where
 nd:(L.map (·.1)).Nodup
 is:∀ p∈L,C p.1 p.2/\∀ q,C p.1 q->leD (dg p.2) (dg q)
 all:∀ m q,C m q->m∈L.map (·.1)
 len:∀ m q,C m q->q.length=n
theorem Fur.empty(n:Nat):Fur (λ _ _=>False) n []:=⟨.nil,λ _ h=>by simp at h,λ _ _ h=>h.elim,λ _ _ h=>h.elim⟩
theorem Fur.congr{C C':Str->List Stp->Prop}{n:Nat}{L:WL}(h:Fur C n L)(e:∀ m q,C m q ↔ C' m q):Fur C' n L:=
 ⟨h.nd,λ p hp=>⟨(e _ _).mp (h.is p hp).1,λ q hq=>(h.is p hp).2 q ((e _ _).mpr hq)⟩,λ m q hq=>h.all m q ((e _ _).mpr hq),λ m q hq=>h.len m q ((e _ _).mpr hq)⟩
def jw(L:WL)(m:Str)(q:List Stp):List Stp:=match fd Prod.fst L m with
 | none=>q
 | some p=>if S.bH (dg q) (dg p.2) then q else p.2
theorem Fur.put{C:Str->List Stp->Prop}{n:Nat}{L:WL}(h:Fur C n L){m:Str}{q:List Stp}(hq:q.length=n):Fur (λ m' q'=>C m' q'\/(m'=m/\q'=q)) n (pt Prod.fst L (m,jw L m q)):=by
 have sq:S.Shape (shE n) (dg q):=by rw[<- hq];exact br q
 refine⟨aaj (nm:=Prod.fst) h.nd,λ p hp=>?_,λ m' q' hc=>?_,λ m' q' hc=>?_⟩
 ·have hf:=xw (nm:=Prod.fst) (aaj (nm:=Prod.fst) (z:=(m,jw L m q)) h.nd) hp;rw[acn] at hf
  by_cases e:m=p.1
  ·rw[if_pos e] at hf;have hf:=Option.some.inj hf;subst hf;dsimp only;unfold jw;cases z:fd Prod.fst L m with
   | none =>
    refine⟨.inr ⟨rfl,rfl⟩,λ q' hc=>?_⟩;rcases hc with hc | ⟨_,rfl⟩
    ·obtain⟨b,hb,e2⟩:=List.mem_map.mp (h.all _ _ hc);exact absurd e2 (fd_none z b hb)
    ·exact S.fi _ sq
   | some p0 =>
    obtain⟨hp0,e0⟩:=fO z;obtain⟨i1,i2⟩:=h.is p0 hp0;rw[e0] at i1 i2;have s0:S.Shape (shE n) (dg p0.2):=by rw[<- h.len _ _ i1];exact br _
    dsimp only;cases w:S.bH (dg q) (dg p0.2) with
    | true =>
     rw[if_pos rfl];refine⟨.inr ⟨rfl,rfl⟩,λ q' hc=>?_⟩;rcases hc with hc | ⟨_,rfl⟩
     ·have s':S.Shape (shE n) (dg q'):=by rw[<- h.len _ _ hc];exact br q'
      exact S.dr sq s0 s' (S.gr sq s0 w) (i2 q' hc)
     ·exact S.fi _ sq
    | false =>
     rw[if_neg (by decide)];refine⟨.inl i1,λ q' hc=>?_⟩;rcases hc with hc | ⟨_,rfl⟩
     ·exact i2 q' hc
     ·exact w
  ·rw[if_neg e] at hf;obtain⟨hpL,_⟩:=fO hf;obtain⟨i1,i2⟩:=h.is p hpL;refine⟨.inl i1,λ q' hc=>?_⟩;rcases hc with hc | ⟨e',_⟩
   ·exact i2 q' hc
   ·exact absurd e'.symm e
 ·rw[oS];rcases hc with hc | ⟨rfl,rfl⟩
  ·have:=h.all _ _ hc
   split
   ·exact List.mem_append_left _ this
   ·exact this
  ·split
   ·exact List.mem_append_right _ (by simp)
   ·rename_i z
    obtain⟨a,b⟩:=fO z;exact List.mem_map.mpr ⟨_,a,b⟩
 ·rcases hc with hc | ⟨rfl,rfl⟩
  ·exact h.len _ _ hc
  ·exact hq
theorem kM:∀ {sh:List Bool} {xs ys:List PyData},S.Shape sh xs->S.Shape sh ys->HT.LtL xs ys (S.bH xs ys)
 | [],[],[],_,_=>.nn
 | true::sh,a::as,b::bs,ha,hb=>by
  obtain⟨⟨x,rfl⟩,ha⟩:=ha;obtain⟨⟨y,rfl⟩,hb⟩:=hb
  by_cases e:x=y
  ·subst e;rw[show S.bH (.str x::as) (.str x::bs)=S.bH as bs by simp[S.bH,S.sEq]];exact .eq (kM ha hb)
  ·rw[show S.bH (.str x::as) (.str y::bs)=decide (x.cps.toList<y.cps.toList) by simp[S.bH,S.sEq,S.sLt,e]];exact .str e
 | false::sh,a::as,b::bs,ha,hb=>by
  obtain⟨⟨x,rfl⟩,ha⟩:=ha;obtain⟨⟨y,rfl⟩,hb⟩:=hb
  by_cases e:x=y
  ·subst e;rw[show S.bH (.int x::as) (.int x::bs)=S.bH as bs by simp[S.bH,S.sEq]];exact .eq (kM ha hb)
  ·rw[show S.bH (.int x::as) (.int y::bs)=decide (x<y) by simp[S.bH,S.sEq,S.sLt,e]];exact .int e
 | [],[],_::_,_,h=>by cases h
 | [],_::_,_,h,_=>by cases h
 | true::_,[],_,h,_=>by cases h
 | false::_,[],_,h,_=>by cases h
 | true::_,_::_,[],_,h=>by cases h
 | false::_,_::_,[],_,h=>by cases h
theorem fB{sh:List Bool}{rows:List (List PyData)}(h:∀ r∈rows,S.Shape sh r)(ok:∀ r∈rows,∀ x∈r,okD 1 x=true):nZ S.bH rows where
 cmp a ha b hb:=kM (h a ha) (h b hb)
 asym a ha b hb:=S.gr (h a ha) (h b hb)
 tr a ha b hb c hc:=S.dr (h a ha) (h b hb) (h c hc)
 ok a ha:=eV (k:=2) (by decide) (cI (ok a ha))
theorem ou(s:Str)(ps qs:List Stp):S.bH (aU s ps) (aU s qs)=S.bH (dg ps) (dg qs):=by simp[aU,S.bH,S.sEq]
def pz(R:List Row3)(z:Str):List Str:=(R.filter λ r=>r.2.2==z).map (·.2.1)
theorem om{R:List Row3}{z k:Str}:decide (k∈pz R z)=hasB R z k:=by
 rw[Bool.eq_iff_iff,decide_eq_true_eq,pz,List.mem_map,hasB,List.any_eq_true];constructor
 ·rintro⟨r,hr,rfl⟩;obtain⟨h1,h2⟩:=List.mem_filter.mp hr;exact⟨r,h1,by simpa using h2⟩
 ·rintro⟨r,hr,h⟩;simp only[Bool.and_eq_true,beq_iff_eq] at h;exact⟨r,List.mem_filter.mpr ⟨hr,by simpa using h.2⟩,h.1⟩
structure KdM(M:MH)(c:Addr)(N:List Str)(la:Str->Addr)(R:List Row3):Prop where
 dic:M c=some (.fdic (kf N λ z=>.m (la z)))
 lst:∀ z∈N,M (la z)=some (.lst (gU (pz R z)))
structure OkN(N:List Str):Prop where
 len:N.length<=8
 nd:N.Nodup
 word:∀ z∈N,gc z=true/\z.length<=8
def cF(ps:List Stp):Prop:=∀ e∈ps,0<=e.1/\e.1<10000/\gc e.2=true/\e.2.length<=8
theorem gq{ps qs:List Stp}(h:cF ps)(h':cF qs):cF (ps++qs):=λ e he=>(List.mem_append.mp he).elim (h e) (h' e)
theorem dQ{k:Nat}{s:Str}{ps:List Stp}(hs:gc s=true)(h:cF ps):∀ x∈aU s ps,okD k x=true:=by
 intro x hx;rcases List.mem_cons.mp hx with rfl | hx
 ·cases k<;>simp[okD,hs]
 ·obtain⟨e,he,h2⟩:=List.mem_flatMap.mp hx;obtain⟨a,b,c,_⟩:=h e he;simp only[List.mem_cons,List.not_mem_nil,or_false] at h2;rcases h2 with rfl | rfl
  ·have:e.1.natAbs<2 ^ 100:=Nat.lt_of_lt_of_le (by omega:e.1.natAbs<10000) (by decide);cases k<;>simpa [okD] using this
  ·cases k<;>simp[okD,c]
def l5(R:List Row3)(N:List Str)(L:WL)(Y:List Str)(P:List Row3)(m:Str)(q:List Stp):Prop:=∃ r∈P,∃ z,fd Prod.fst L r.2.2=some z/\m∈N/\m ∉ Y/\hasB R m r.2.1=false/\q=z.2++[(r.1,m)]
structure OkL(L:WL)(n:Nat):Prop where
 nd:(L.map (·.1)).Nodup
 ok:∀ p∈L,p.2.length=n/\cF p.2
def aV:SpD:=λ ws M Q=>∃ (a:Addr) (R:List Row3) (c rr:Addr) (N:List Str) (la:Str->Addr) (s:Str) (L:WL) (Y:List Str) (n:Nat),ws=[.m a,.d (bx R),.m c,.m rr]/\OkR R/\OkN N /\
 M a=some (.dic (lO s L))/\KdM M c N la R/\M rr=some (.dic (kf Y λ _=>.d (.bool true)))/\gc s=true/\OkL L n/\n<=100/\a≠c/\rr≠c /\
 ∀ f L',M f=none->Fur (l5 R N L Y R) (n+1) L'->Q (.m f) (ba M f (.dic (lO s L')))
theorem iX:∀ ws M Q,aV ws M Q->ws.length=4:=by rintro ws M Q ⟨a,R,c,rr,N,la,s,L,Y,n,rfl,_⟩;rfl
theorem rf{C:Str->List Stp->Prop}{n k:Nat}{L:WL}{N:List Str}(h:Fur C n L)(hN:N.length<=k)(hc:∀ m q,C m q->m∈N):L.length<=k:=by
 have:(L.map (·.1)) ⊆ N:=λ m hm=>by obtain⟨p,hp,rfl⟩:=List.mem_map.mp hm;exact hc _ _ (h.is p hp).1
 have:=h.nd.length_le_of_subset this;rw[List.length_map] at this;omega
def adG(a:Addr)(R:List Row3)(c rr f:Addr)(x5 x6 x7 x8 x9:Option W):DS:=[some (.m a),some (.d (bx R)),some (.m c),some (.m rr),some (.m f),x5,x6,x7,x8,x9]
theorem de(s:Str):∀ ps:List Stp,(aU s ps).length=1+2 * ps.length
 | []=>rfl
 | e::ps=>by have:=de s ps;simp only[aU,List.length_cons,iS] at this ⊢;omega
theorem ir:∀ ws M Q,aV ws M Q->gi {nx:=λ _ M'=>Q (.d .none) M',rt:=Q} (cf gf ws) M:=by
 rintro ws M Q ⟨a,R,c,rr,N,la,s,L,Y,n,rfl,okR,okN,ha,kd,hr,hs,okL,hn,hac,hrc,q⟩;intro f hf;have nf:∀ {b o},M b=some o->b≠f:=λ h e=>by rw[e,hf] at h;cases h
 refine⟨_,rfl,_,rfl,λ i τ M'=>(∃ x5 x6 x7 x8 x9,τ=adG a R c rr f x5 x6 x7 x8 x9)/\∃ L',Fur (l5 R N L Y (R.take i)) (n+1) L'/\M'=ba M f (.dic (lO s L')),⟨⟨_,_,_,_,_,rfl⟩,[],(Fur.empty _).congr λ m q=>⟨False.elim,λ⟨r,h,_⟩=>by simp at h⟩,rfl⟩,λ i w τ M' hw ⟨⟨x5,x6,x7,x8,x9,e⟩,L',fu,eM⟩=>?_,λ τ M' ⟨⟨x5,x6,x7,x8,x9,e⟩,L',fu,eM⟩=>?_⟩
 ·subst e eM;rw[List.map_map,List.getElem?_map] at hw;obtain⟨r,hri,rfl⟩:=Option.map_eq_some_iff.mp hw;have hrm:=List.mem_of_getElem? hri;have tk:R.take (i+1)=R.take i++[r]:=by rw[List.take_add_one,hri];rfl
  have ca:∀ m q,l5 R N L Y (R.take (i+1)) m q ↔ l5 R N L Y (R.take i) m q\/l5 R N L Y [r] m q:=λ m q=>by
   rw[tk];constructor
   ·rintro⟨r',h,k⟩;exact(List.mem_append.mp h).elim (λ h=>.inl ⟨r',h,k⟩) (λ h=>.inr ⟨r',h,k⟩)
   ·rintro(⟨r',h,k⟩ | ⟨r',h,k⟩)
    ·exact⟨r',List.mem_append_left _ h,k⟩
    ·exact⟨r',List.mem_append_right _ h,k⟩
  have sa:∀ {b o x},M b=some o->ba M f x b=some o:=λ h=>by rw[aw (nf h)];exact h
  refine⟨_,rfl,rfl,_,_,rfl,_,_,rfl,_,_,rfl,rfl,?_⟩;refine⟨_,rfl,_,rfl,_,.k (k:=.inr r.2.2) (sa ha),_,rfl,?_⟩;rw[ja];cases hz:fd Prod.fst L r.2.2 with
  | none =>
   refine dF ⟨⟨_,_,_,_,_,rfl⟩,L',fu.congr λ m q=>?_,rfl⟩;rw[ca];exact⟨.inl,λ h=>h.elim id λ⟨r',h1,z,h2,_⟩=>by rw[List.mem_singleton.mp h1,hz] at h2;cases h2⟩
  | some z =>
   refine fK ?_;have ncf:c≠f:=nf kd.dic;refine⟨_,rfl,c,_,rfl,sa kd.dic,λ j τ M'=>(∃ x8 x9,τ=adG a R c rr f (some (.d (.int r.1))) (some (.d (.str r.2.1))) (some (.d (.str r.2.2))) x8 x9) /\
    ∃ L2,Fur (λ m q=>l5 R N L Y (R.take i) m q\/(l5 R N L Y [r] m q/\m∈N.take j)) (n+1) L2/\M'=ba M f (.dic (lO s L2)),
    ⟨⟨_,_,rfl⟩,L',fu.congr λ m q=>⟨.inl,λ h=>h.elim id λ h=>by simp at h⟩,rfl⟩,λ j w τ M' hw ⟨⟨x8,x9,e⟩,L2,fu,eM⟩=>?_,λ τ M' ⟨⟨x8,x9,e⟩,L2,fu,eM⟩=>?_⟩
   ·subst e eM;rw[kf,List.map_map,List.getElem?_map] at hw;obtain⟨m,hmj,rfl⟩:=Option.map_eq_some_iff.mp hw;have hmN:=List.mem_of_getElem? hmj;have tk2:N.take (j+1)=N.take j++[m]:=by rw[List.take_add_one,hmj];rfl
    have skip:(∀ q,¬ l5 R N L Y [r] m q)->Fur (λ m q=>l5 R N L Y (R.take i) m q\/(l5 R N L Y [r] m q/\m∈N.take (j+1))) (n+1) L2:=λ h=>fu.congr λ m' q=>by
     rw[tk2];constructor
     ·rintro(h1 | ⟨h1,h2⟩)
      ·exact .inl h1
      ·exact .inr ⟨h1,List.mem_append_left _ h2⟩
     ·rintro(h1 | ⟨h1,h2⟩)
      ·exact .inl h1
      ·rcases List.mem_append.mp h2 with h2 | h2
       ·exact .inr ⟨h1,h2⟩
       ·rw[List.mem_singleton.mp h2] at h1;exact absurd h1 (h q)
    have sb:∀ {b o x},M b=some o->b≠c->ba M f x b=some o:=λ h h2=>by rw[aw (nf h)];exact h
    refine⟨_,rfl,_,rfl,_,.k (k:=.inr m) (sb hr hrc),_,rfl,?_⟩
    by_cases hY:m∈Y
    ·rw[d3 hY];refine dF (dF ⟨⟨_,_,rfl⟩,L2,skip (λ q ⟨r',h1,z',h2,h3,h4,h5⟩=>h4 hY),rfl⟩)
    rw[vM hY];have lac:la m≠c:=λ e=>by have:=kd.lst m hmN;rw[e,kd.dic] at this;cases this
    refine fK ⟨_,rfl,_,rfl,_,rfl,c,_,.inr m,_,rfl,.inr (sa kd.dic),rfl,d3 hmN,?_⟩;refine⟨_,pz R m,rfl,.m (sb (kd.lst m hmN) lac),_,rfl,?_⟩;rw[om];cases hB:hasB R m r.2.1 with
    | true=>exact dF ⟨⟨_,_,rfl⟩,L2,skip (λ q ⟨r',h1,z',h2,h3,h4,h5,_⟩=>by rw[List.mem_singleton.mp h1,hB] at h5;cases h5),rfl⟩
    | false =>
     refine fK ?_;obtain⟨hzL,_⟩:=fO hz;obtain⟨zl,zok⟩:=okL.ok z hzL;refine⟨_,rfl,_,rfl,a,_,.inr r.2.2,_,rfl,.inl (sb ha hac),rfl,by rw[ja,hz];rfl,?_⟩;have sl:1000000<=sizeLine:=by decide
     let qn:=z.2++[(r.1,m)]
     have qlen:qn.length=n+1:=by simp[qn,zl]
     have rn:=okR.num r hrm;have nw:=okN.word m hmN;have qok:cF qn:=gq zok λ e he=>by rw[List.mem_singleton.mp he];exact⟨rn.1,rn.2,nw.1,nw.2⟩
     have qD:aU s z.2++[.int r.1,.str m]=aU s qn:=by simp[aU,qn,dg]
     refine⟨_,rfl,_,rfl,[.int r.1,.str m],rfl,by simp only[List.length_cons,List.length_nil];omega,aU s z.2,_,rfl,rfl,(λ h=>by cases h),?_,?_⟩
     ·have:(aU s z.2).length=1+2 * n:=by rw[<- zl];exact de s z.2
      rw[this];simp only[List.length_cons,List.length_nil];omega
     rw[qD];have f2:ba M f (.dic (lO s L2)) f=some (.dic (lO s L2)):=ag;refine⟨_,rfl,.k f2,_,rfl,_,rfl,_,.k (k:=.inr m) f2,?_⟩;rw[ja]
     let A0:List Stp:=((fd Prod.fst L2 m).map (·.2)).getD qn
     have eA:(((fd Prod.fst L2 m).map λ b=>W.d (qv s b)).getD (.d (.tuple (aU s qn))))=.d (.tuple (aU s A0)):=by show _=W.d (.tuple (aU s (((fd Prod.fst L2 m).map (·.2)).getD qn)));cases fd Prod.fst L2 m<;>rfl
     have A0c:A0=qn\/∃ p∈L2,A0=p.2:=by
      show((fd Prod.fst L2 m).map (·.2)).getD qn=qn\/∃ p∈L2,((fd Prod.fst L2 m).map (·.2)).getD qn=p.2;cases e:fd Prod.fst L2 m with
      | none=>exact .inl rfl
      | some p=>exact .inr ⟨p,(fO e).1,rfl⟩
     have cok:∀ {m' q'},(l5 R N L Y (R.take i) m' q'\/(l5 R N L Y [r] m' q'/\m'∈N.take j))->cF q':=λ {m' q'} h=>by
      have:l5 R N L Y R m' q':=by
       rcases h with ⟨r',h1,h2⟩ | ⟨⟨r',h1,h2⟩,_⟩
       ·exact⟨r',List.mem_of_mem_take h1,h2⟩
       ·rw[List.mem_singleton.mp h1] at h2;exact⟨r,hrm,h2⟩
      obtain⟨r',h1,z',h2,h3,_,_,rfl⟩:=this;have:=okR.num r' h1;have nw':=okN.word _ h3;exact gq (okL.ok z' (fO h2).1).2 λ e he=>by rw[List.mem_singleton.mp he];exact⟨this.1,this.2,nw'.1,nw'.2⟩
     have A0l:A0.length=n+1/\cF A0:=by
      rcases A0c with e | ⟨p,hp,e⟩
      ·rw[e];exact⟨qlen,qok⟩
      ·rw[e];exact⟨fu.len _ _ (fu.is p hp).1,cok (fu.is p hp).1⟩
     have lt:nZ S.bH [aU s A0,aU s qn]:=fB (sh:=true::shE (n+1)) (by
       intro x hx;simp only[List.mem_cons,List.not_mem_nil,or_false] at hx;rcases hx with rfl | rfl
       ·rw[<- A0l.1];exact aJ s A0
       ·rw[<- qlen];exact aJ s qn) (by
       intro x hx;simp only[List.mem_cons,List.not_mem_nil,or_false] at hx;rcases hx with rfl | rfl
       ·exact dQ hs A0l.2
       ·exact dQ hs qok)
     have eL:(if S.bH (aU s qn) (aU s A0)=true then aU s qn else aU s A0)=aU s (jw L2 m qn):=by
      rw[ou];show(if S.bH (dg qn) (dg (((fd Prod.fst L2 m).map (·.2)).getD qn))=true then aU s qn else aU s (((fd Prod.fst L2 m).map (·.2)).getD qn))=_;unfold jw;cases e:fd Prod.fst L2 m with
      | none=>simp
      | some p=>dsimp only[Option.map,Option.getD];split<;>rfl
     rw[eA];refine⟨_,rfl,_,_,S.bH,rfl,lt,?_⟩;rw[eL];have hl8:L2.length<=8:=rf fu okN.len λ m' q' h=>by
      rcases h with ⟨_,_,_,_,h,_⟩ | ⟨⟨_,_,_,_,h,_⟩,_⟩<;>exact h
     refine⟨_,rfl,_,rfl,f,_,.inr m,rfl,f2,rfl,by simp only[lO,cg,rk,List.length_map];omega,⟨_,_,rfl⟩,pt Prod.fst L2 (m,jw L2 m qn),(fu.put qlen).congr λ m' q'=>?_,?_⟩
     ·rw[tk2];have cq:∀ {m' q'},l5 R N L Y [r] m' q'->m'=m->q'=qn:=λ⟨r',h1,z',h2,_,_,_,h3⟩ e=>by rw[List.mem_singleton.mp h1] at h2 h3;rw[hz] at h2;rw[h3,<- Option.some.inj h2,e]
      have cm:l5 R N L Y [r] m qn:=⟨r,List.mem_singleton.mpr rfl,z,hz,hmN,hY,hB,rfl⟩;constructor
      ·rintro((h | ⟨h,h'⟩) | ⟨rfl,rfl⟩)
       ·exact .inl h
       ·exact .inr ⟨h,List.mem_append_left _ h'⟩
       ·exact .inr ⟨cm,List.mem_append_right _ (List.mem_singleton.mpr rfl)⟩
      ·rintro(h | ⟨h,h'⟩)
       ·exact .inl (.inl h)
       ·rcases List.mem_append.mp h' with h' | h'
        ·exact .inl (.inr ⟨h,h'⟩)
        ·have e:=List.mem_singleton.mp h';exact .inr ⟨e,cq h e⟩
     ·rw[bE];exact congrArg (λ kvs=>ba M f (.dic kvs)) (zh (qv s) L2 (m,jw L2 m qn) rfl)
   ·subst e eM;refine⟨⟨_,_,_,_,_,rfl⟩,L2,fu.congr λ m q=>?_,rfl⟩;rw[ca];constructor
    ·rintro(h | ⟨h,_⟩)
     ·exact .inl h
     ·exact .inr h
    ·rintro(h | h)
     ·exact .inl h
     ·refine .inr ⟨h,?_⟩;obtain⟨_,_,_,_,h3,_⟩:=h;rw[show(kf N λ z=>W.m (la z)).map (λ p=>kW p.1)=N.map λ z=>kW (.inr z) by simp[kf],List.length_map,List.take_length];exact h3
 ·subst e eM;refine⟨_,rfl,?_⟩;exact q f L' hf (fu.congr λ m q=>by rw[List.take_of_length_le (by simp)])
structure Lv(G:Gr)(s:Str)(d:Nat)(L:WL)(Y:List Str):Prop where
 nd:(L.map (·.1)).Nodup
 mem:∀ p∈L,G.lev s d p.1/\G.best s d p.1 p.2
 all:∀ m,G.lev s d m->m∈L.map (·.1)
 yok:∀ m,m∈Y ↔ ∃ d',d'<=d/\G.lev s d' m
 ynd:Y.Nodup
theorem Lv.find{G:Gr}{s:Str}{d:Nat}{L:WL}{Y:List Str}(h:Lv G s d L Y){m:Str}{ps:List Stp}(hl:G.lev s d m)(hb:G.best s d m ps):fd Prod.fst L m=some (m,ps):=by obtain⟨p,hp,e⟩:=List.mem_map.mp (h.all m hl);have e:p.1=m:=e;subst e;rw[xw (nm:=Prod.fst) h.nd hp,<- mx (h.mem p hp).2 hb]
theorem Lv.zero(G:Gr)(s:Str):Lv G s 0 [(s,[])] [s] where
 nd:=by simp
 mem p hp:=by
  rw[List.mem_singleton.mp hp];exact⟨dN.mpr rfl,trivial,rfl,rfl,λ qs _ hq _=>by have:qs=[]:=List.length_eq_zero_iff.mp hq;subst this;rfl⟩
 all m h:=by rw[dN.mp h];simp
 yok m:=by
  rw[List.mem_singleton];constructor
  ·rintro rfl;exact⟨0,Nat.le_refl _,dN.mpr rfl⟩
  ·rintro⟨d',h,h'⟩;have:d'=0:=by omega
   subst this;exact dN.mp h'
 ynd:=by simp
theorem Lv.next{R:List Row3}{N:List Str}{s:Str}{d:Nat}{L L':WL}{Y:List Str}(h:Lv ⟨R,N⟩ s d L Y)(f:Fur (l5 R N L Y R) (d+1) L'):Lv ⟨R,N⟩ s (d+1) L' (Y++L'.map (·.1)):=by
 have hm:∀ p∈L',Gr.lev ⟨R,N⟩ s (d+1) p.1/\Gr.best ⟨R,N⟩ s (d+1) p.1 p.2:=λ p hp=>by
  obtain⟨⟨r,hr,z,hz,hN,hY,hB,e⟩,least⟩:=f.is p hp;obtain⟨hzL,ez⟩:=fO hz;obtain⟨zl,zb⟩:=h.mem z hzL;rw[ez] at zl zb;have he:Gr.gQ ⟨R,N⟩ r.2.2 (r.1,p.1):=⟨r.2.1,hr,hN,hB⟩;have hl:=uy zl he λ d' hd' q=>hY ((h.yok _).mpr ⟨d',hd',q⟩);refine⟨hl,lI hl ?_ ?_ ?_ (λ p' n qs hq he'=>?_) λ p' hp'=>jh hp'⟩
  ·rw[e];exact aZ.mpr ⟨zb.1,by rw[zb.2.2.1];exact⟨he,trivial⟩⟩
  ·rw[e];simp[zb.2.1]
  ·rw[e,bS];rfl
  ·have hl':=pg hl hq he';obtain⟨k,hk,_,hB'⟩:=he';exact least _ ⟨(n,k,p'),hk,_,h.find hl' hq,hN,hY,hB',rfl⟩
 refine⟨f.nd,hm,λ m hl=>?_,λ m=>?_,?_⟩
 ·obtain⟨⟨ps,a1,a2,a3⟩,_⟩:=id hl;obtain⟨qs,e,rfl,hq⟩:=fj a2;obtain⟨w1,w2⟩:=aZ.mp a1;rw[bS] at a3;have a3:e.2=m:=a3;subst a3;have hp:=fD hl a1 hq;obtain⟨rs,hr⟩:=jh hp;obtain⟨k,hk,hN,hB⟩:=w2.1;exact f.all _ _ ⟨(e.1,k,fin s qs),hk,_,h.find hp hr,hN,λ hY=>by obtain⟨d',h1,h2⟩:=(h.yok _).mp hY;have:=iC h2 hl;omega,hB,rfl⟩
 ·rw[List.mem_append,h.yok];constructor
  ·rintro(⟨d',h1,h2⟩ | h1)
   ·exact⟨d',by omega,h2⟩
   ·obtain⟨p,hp,e⟩:=List.mem_map.mp h1;have e:p.1=m:=e;subst e;exact⟨d+1,Nat.le_refl _,(hm p hp).1⟩
  ·rintro⟨d',h1,h2⟩;rcases Nat.lt_or_ge d d' with z | z
   ·have:d'=d+1:=by omega
    subst this;right;obtain⟨⟨ps,a1,a2,a3⟩,_⟩:=id h2;obtain⟨qs,e,rfl,hq⟩:=fj a2;obtain⟨w1,w2⟩:=aZ.mp a1;rw[bS] at a3;have a3:e.2=m:=a3;subst a3;have hp:=fD h2 a1 hq;obtain⟨rs,hr⟩:=jh hp;obtain⟨k,hk,hN,hB⟩:=w2.1;exact f.all _ _ ⟨(e.1,k,fin s qs),hk,_,h.find hp hr,hN,λ hY=>by obtain⟨d',h1,h2'⟩:=(h.yok _).mp hY;have:=iC h2' h2;omega,hB,rfl⟩
   ·exact .inl ⟨d',z,h2⟩
 ·refine List.nodup_append.mpr ⟨h.ynd,f.nd,λ a ha b hb e=>?_⟩;subst e;obtain⟨d',h1,h2⟩:=(h.yok _).mp ha;obtain⟨p,hp,e⟩:=List.mem_map.mp hb;have e:p.1=a:=e;subst e;have:=iC h2 (hm p hp).1;omega
theorem yS{R:List Row3}{N:List Str}{L:WL}{Y:List Str}(okR:OkR R)(okN:OkN N)(okL:∀ p∈L,cF p.2){m:Str}{q:List Stp}(h:l5 R N L Y R m q):cF q:=by obtain⟨r,h1,z,h2,h3,_,_,rfl⟩:=h;have:=okR.num r h1;have nw:=okN.word _ h3;exact gq (okL z (fO h2).1) λ e he=>by rw[List.mem_singleton.mp he];exact⟨this.1,this.2,nw.1,nw.2⟩
theorem nF{G:Gr}{s:Str}(qs:List Stp)(hq:G.walk s qs):∃ d,d<=qs.length/\G.lev s d (fin s qs):=by
 have main:∀ n,(∃ rs,G.walk s rs/\rs.length=n/\fin s rs=fin s qs)->n<=qs.length->∃ d',d'<=qs.length/\G.lev s d' (fin s qs):=by
  intro n
  induction n using Nat.strongRecOn with
  | ind n ih =>
   intro hn hle
   by_cases z:∃ k,k<n/\∃ rs,G.walk s rs/\rs.length=k/\fin s rs=fin s qs
   ·obtain⟨k,hk,hr⟩:=z;exact ih k hk hr (by omega)
   ·refine⟨n,hle,hn,λ rs hr he=>?_⟩;apply Classical.byContradiction;intro y;exact z ⟨rs.length,by omega,rs,hr,rfl,he⟩
 exact main _ ⟨qs,hq,rfl,rfl⟩ (Nat.le_refl _)
theorem oi{G:Gr}{s:Str}{d:Nat}:∀ {e:Nat} {m:Str},G.lev s e m->d<=e->∃ m',G.lev s d m'
 | 0,m,h,hd=>by
  have:d=0:=by omega
  subst this;exact⟨m,h⟩
 | e+1,m,h,hd=>by
  rcases Nat.lt_or_ge e d with z | z
  ·have:d=e+1:=by omega
   subst this;exact⟨m,h⟩
  ·obtain⟨⟨ps,a1,a2,a3⟩,_⟩:=id h;obtain⟨qs,e',rfl,hq⟩:=fj a2;rw[bS] at a3;have a3:e'.2=m:=a3;subst a3;exact oi (fD h a1 hq) z
theorem ads{G:Gr}{F:List Str}{s:Str}{d:Nat}{Y:List Str}(h:Lv G s d [] Y)(no:∀ d' m',0<d'->d'<=d->G.lev s d' m'->m' ∉ F)(ps:List Stp):¬ G.to F s ps:=by
 rintro⟨hw,hf,hne⟩;obtain⟨k,hk,hl⟩:=nF ps hw;rcases Nat.lt_or_ge d k with z | z
 ·obtain⟨m',hm⟩:=oi hl (Nat.le_of_lt z);have:=h.all m' hm;simp at this
 ·refine no k _ ?_ z hl hf;rcases Nat.eq_zero_or_pos k with e | e
  ·subst e;exact absurd (dN.mp hl) hne
  ·exact e
def bQ:SpD:=λ ws M Q=>∃ (s:Str) (R:List Row3) (c:Addr) (N:List Str) (la:Str->Addr) (F:List Str),ws=[.d (.str s),.d (bx R),.m c,.d (.list (F.map PyData.str))]/\OkR R/\OkN N/\s∈N/\KdM M c N la R/\F.length<=8 /\
 (∀ M' ps,Ext M M'->eN (λ t qs=>t=s/\Gr.to ⟨R,N⟩ F t qs) s ps->cF ps->ps.length<=8->Q (.d (.tuple (aU s ps))) M')/\∀ M',Ext M M'->(∀ ps,¬ Gr.to ⟨R,N⟩ F s ps)->Q (.d .none) M'
theorem ml:∀ ws M Q,bQ ws M Q->ws.length=4:=by rintro ws M Q ⟨s,R,c,N,la,F,rfl,_⟩;rfl
def adB(s:Str)(R:List Row3)(c:Addr)(F:List Str)(p a:Addr)(x6 x7:Option W):DS:=[some (.d (.str s)),some (.d (bx R)),some (.m c),some (.d (.list (F.map PyData.str))),some (.m p),some (.m a),x6,x7]
structure WfI(M0:MH)(s:Str)(R:List Row3)(N F:List Str)(p a:Addr)(n d:Nat)(L:WL)(Y:List Str)(M:MH):Prop where
 meas:n=2 * (N.length-Y.length)+(if L=[] then 0 else 1)
 lv:Lv ⟨R,N⟩ s d L Y
 yn:∀ z∈Y,z∈N
 ok:∀ q∈L,cF q.2
 dep:L≠[]->d+1<=Y.length
 no:∀ d' m',0<d'->d'<=d->Gr.lev ⟨R,N⟩ s d' m'->m' ∉ F
 ext:Ext M0 M
 p0:M0 p=none
 a0:M0 a=none
 hp:M p=some (.dic (kf Y λ _=>.d (.bool true)))
 ha:M a=some (.dic (lO s L))
theorem ki:∀ ws M Q,bQ ws M Q->jP aV {nx:=λ _ M'=>Q (.d .none) M',rt:=Q} (cf jO ws) M:=by
 rintro ws M Q ⟨s,R,c,N,la,F,rfl,okR,okN,hsN,kd,hF,qy,qn⟩;intro p hp;refine⟨_,rfl,ag,[(.inr s,.d (.bool true))],rfl,by simp,by simp,?_⟩;rw[bE];intro a ha;have hpa:a≠p:=λ e=>by rw[e,ag] at ha;cases ha
 have ha0:M a=none:=by rwa[aw hpa] at ha
 refine⟨_,rfl,_,rfl,[.str s],rfl,(show 1<=sizeLine by decide),ag,[(.inr s,.d (.tuple [.str s]))],rfl,by simp,by simp,?_⟩;rw[bE];refine⟨λ n τ M'=>∃ d L Y a x6 x7,τ=adB s R c F p a x6 x7/\WfI M s R N F p a n d L Y M',⟨_,0,[(s,[])],[s],a,_,_,rfl,rfl,Lv.zero _ _,λ z hz=>by rw[List.mem_singleton.mp hz];exact hsN,λ q hq=>by rw[List.mem_singleton.mp hq];exact λ e he=>by simp at he,λ _=>by simp,λ d' m' h1 h2=>by omega,((Ext.refl M).upd hp).upd ha0,hp,ha0,by rw[aw hpa.symm,ag];rfl,ag⟩,λ n τ M' hq98=>?_⟩;obtain⟨d,L,Y,a,x6,x7,e,I⟩:=hq98;subst e;refine⟨_,rfl,_,.dk I.ha,?_⟩;cases L with
 | nil=>exact qn M' I.ext (ads I.lv I.no)
 | cons l0 L0 =>
 refine fK ?_;generalize hL:l0::L0=L at I;have hL:L≠[]:=by rw[<- hL];simp
 have kd':KdM M' c N la R:=⟨I.ext _ _ kd.dic,λ z hz=>I.ext _ _ (kd.lst z hz)⟩;have hac:a≠c:=λ e=>by have:=I.a0;rw[e,kd.dic] at this;cases this
 have hpc:p≠c:=λ e=>by rw[e,kd.dic] at hp;cases hp
 have yl:Y.length<=8:=Nat.le_trans (I.lv.ynd.length_le_of_subset λ z hz=>I.yn z hz) okN.len;have dl:=I.dep hL;have asc:=(okN.word s hsN).1;refine⟨_,rfl,_,rfl,_,rfl,_,rfl,a,R,c,p,N,la,s,L,Y,d,rfl,okR,okN,I.ha,kd',I.hp,asc,⟨I.lv.nd,λ q hq=>⟨(I.lv.mem q hq).2.2.1,I.ok q hq⟩⟩,by omega,hac,hpc,λ f L' hf fu=>?_⟩;have lv':=I.lv.next fu;have hf0:M f=none:=I.ext.none hf;have hfp:f≠p:=λ e=>by rw[e,I.hp] at hf;cases hf
 have l8:L'.length<=8:=rf fu okN.len λ m q ⟨_,_,_,_,h,_⟩=>h;have ok':∀ q∈L',cF q.2:=λ q hq=>yS okR okN I.ok (fu.is q hq).1;have eK:dW (rk Prod.fst (qv s) L')=L'.map λ q=>W.d (.str q.1):=by simp only[dW,rk,List.map_map];rfl
 refine⟨f,_,ag,?_⟩;rw[bE];refine⟨_,rfl,f,rk Prod.fst (qv s) L',rfl,ag,?_⟩;rw[eK];generalize hMz:ba M' f (.fdic (cg (rk Prod.fst (qv s) L')))=Mz;have ef:Mz f=some (.fdic (cg (rk Prod.fst (qv s) L'))):=by rw[<- hMz,ag]
 refine cT L' (λ q=>W.d (.str q.1)) (λ q=>qv s q) (λ q=>decide (q.1∈F)) (λ τ=>∃ x,τ=[x,some (.m f),some (.d (.list (F.map PyData.str)))]) (λ M''=>M''=Mz) (by omega) ⟨_,rfl⟩ rfl (λ q hq τ M'' hτ hM R' h=>?_) λ τ M5 hM=>?_
 ·obtain⟨x,rfl⟩:=hτ;subst hM;have:=h [some (.d (.str q.1)),some (.m f),some (.d (.list (F.map PyData.str)))] M'' ⟨_,rfl⟩ rfl;refine⟨_,rfl,_,rfl,q.1,F,rfl,?_,_,rfl,?_⟩
  ·have:=uz.l (M:=M'') (ds:=F.map PyData.str);rw[List.map_map] at this;exact this
  cases e:decide (q.1∈F) with
  | false=>rw[e] at this;exact dF this
  | true =>
   rw[e] at this;exact fK ⟨_,rfl,_,rfl,f,_,.inr q.1,_,rfl,.inr ef,rfl,by rw[ja,xw (nm:=Prod.fst) fu.nd hq];rfl,_,rfl,this⟩
 subst hM;refine⟨ef,?_⟩;rw[<- hMz,bE];refine⟨_,rfl,_,.l,?_⟩;have eR:(L'.filter λ q=>decide (q.1∈F)).map (λ q=>qv s q)=((L'.filter λ q=>decide (q.1∈F)).map λ q=>aU s q.2).map PyData.tuple:=by rw[List.map_map];rfl
 have xf:Ext M (ba M' f (.dic (cg (rk Prod.fst (qv s) L')))):=I.ext.upd hf0;refine gh (λ e=>?_) λ e=>?_
 ·have ne:(L'.filter λ q=>decide (q.1∈F))≠[]:=λ z=>by rw[z] at e;cases e
  refine⟨_,rfl,_,_,S.bH,rfl,by rw[eR];exact .d,λ z=>ne (List.map_eq_nil_iff.mp z),fB (sh:=true::shE (d+1)) (λ r hr=>?_) (λ r hr=>?_),λ r hr least=>?_⟩
  ·obtain⟨q,hq,rfl⟩:=List.mem_map.mp hr;rw[<- (lv'.mem q (List.mem_filter.mp hq).1).2.2.1];exact aJ s q.2
  ·obtain⟨q,hq,rfl⟩:=List.mem_map.mp hr;exact dQ asc (ok' q (List.mem_filter.mp hq).1)
  ·obtain⟨q,hq,rfl⟩:=List.mem_map.mp hr;obtain⟨hqL,hqF⟩:=List.mem_filter.mp hq;obtain⟨m1,m2⟩:=lv'.mem q hqL;refine qy _ q.2 xf (uZ (d:=d+1) (by omega) (of_decide_eq_true hqF) m1 m2 (λ d' m' h1 h2 h3=>I.no d' m' h1 (by omega) h3) λ m' qs hm hl hb=>?_) (ok' q hqL) (by rw[m2.2.1];omega);have hz:=lv'.find hl hb;have hz:=(fO hz).1;exact least _ (List.mem_map.mpr ⟨_,List.mem_filter.mpr ⟨hz,decide_eq_true hm⟩,rfl⟩)
 ·have none':∀ m',Gr.lev ⟨R,N⟩ s (d+1) m'->m' ∉ F:=λ m' hl hm=>by
   obtain⟨q,hq,e2⟩:=List.mem_map.mp (lv'.all m' hl);have e2:q.1=m':=e2;subst e2;have:q∈L'.filter λ q=>decide (q.1∈F):=List.mem_filter.mpr ⟨hq,decide_eq_true hm⟩;cases z:L'.filter λ q=>decide (q.1∈F) with
   | nil=>rw[z] at this;cases this
   | cons a b=>rw[z] at e;cases e
  refine⟨f,_,ag,?_⟩;rw[bE];refine⟨_,rfl,f,rk Prod.fst (qv s) L',rfl,ag,?_⟩;rw[eK,hMz];refine⟨λ j τ M''=>∃ x7,τ=adB s R c F p f (some (.d (.list ((L'.filter λ q=>decide (q.1∈F)).map λ q=>qv s q)))) x7/\M''=ba M5 p (.dic (kf (Y++(L'.map (·.1)).take j) λ _=>.d (.bool true))),⟨_,rfl,?_⟩,λ j w τ M'' hw ⟨x7,e1,e2⟩=>?_,λ τ M'' ⟨x7,e1,e2⟩=>?_⟩
  ·rw[List.take_zero,List.append_nil,kD];rw[<- hMz,aw hfp.symm];exact I.hp
  ·subst e1 e2;rw[List.getElem?_map] at hw;obtain⟨q,hqj,rfl⟩:=Option.map_eq_some_iff.mp hw;have hnj:(L'.map (·.1))[j]? =some q.1:=by rw[List.getElem?_map,hqj];rfl
   have tk:(L'.map (·.1)).take (j+1)=(L'.map (·.1)).take j++[q.1]:=by rw[List.take_add_one,hnj];rfl
   have nd2:(Y++(L'.map (·.1)).take (j+1)).Nodup:=lv'.ynd.sublist ((List.Sublist.refl Y).append (List.take_sublist _ _));rw[tk,<- List.append_assoc] at nd2;have nin:q.1 ∉ Y++(L'.map (·.1)).take j:=λ h=>(List.nodup_append.mp nd2).2.2 _ h _ (List.mem_singleton.mpr rfl) rfl;have len2:(kf (Y++(L'.map (·.1)).take j) λ _=>W.d (.bool true)).length<sizeLine:=by
    have sl:1000000<=sizeLine:=by decide
    rw[i6,List.length_append,List.length_take,List.length_map];omega
   refine⟨_,rfl,_,rfl,p,_,.inr q.1,rfl,ag,rfl,len2,_,rfl,?_⟩;rw[bE,kL nin,tk,List.append_assoc]
  ·subst e1 e2;rw[List.length_map,<- List.length_map (f:=λ q:Str×List Stp=>q.1),List.take_length];have hNY:∀ z∈Y++L'.map (·.1),z∈N:=λ z hz=>(List.mem_append.mp hz).elim (I.yn z) λ hz=>by obtain⟨q,hq,rfl⟩:=List.mem_map.mp hz;obtain⟨⟨_,_,_,_,h,_⟩,_⟩:=fu.is q hq;exact h
   have ylen:=lv'.ynd.length_le_of_subset λ z hz=>hNY z hz;rw[List.length_append,List.length_map] at ylen;refine⟨by rw[aw hfp];exact ef,_,?_,d+1,L',Y++L'.map (·.1),f,_,_,rfl,⟨rfl,lv',hNY,ok',λ h=>?_,λ d' m' h1 h2 h3=>?_,?_,hp,hf0,by rw[aw hfp.symm,ag],ag⟩⟩
   ·rw[I.meas,if_neg hL,List.length_append,List.length_map];cases z:L' with
    | nil=>simp
    | cons b Lb =>
     rw[z] at ylen;simp only[List.length_cons] at ylen ⊢;rw[if_neg (by simp)];omega
   ·rw[List.length_append,List.length_map];have:=List.length_pos_iff.mpr h;omega
   ·rcases Nat.lt_or_ge d d' with z | z
    ·have:d'=d+1:=by omega
     subst this;exact none' m' h3
    ·exact I.no d' m' h1 z h3
   ·rw[<- hMz];exact(((I.ext.upd hf0).upd hp).upd hf0)
theorem iO(s:Str)(e:Stp)(ps:List Stp):aU s (e::ps)=.str s::.int e.1::aU e.2 ps:=rfl
theorem n5:∀ (s:Str) (ps:List Stp),(aU s ps).getLast? =some (.str (fin s ps))
 | s,[]=>rfl
 | s,e::ps=>by
  rw[iO,List.getLast?_cons_cons];have:=n5 e.2 ps;cases z:aU e.2 ps with
  | nil=>rw[z] at this;cases this
  | cons a b=>rw[List.getLast?_cons_cons,<- z];exact this
theorem oz(s:Str)(ps:List Stp)(e:Stp):aU s (ps++[e])=aU s ps++[.int e.1,.str e.2]:=by simp[aU,dg]
def jC(s:Str)(ps:List Stp)(m:Str):Bool:=s==m || ps.any λ e=>e.2==m
theorem nJ(m:Str):∀ (s:Str) (ps:List Stp),inA (.str m) (aU s ps)=jC s ps m
 | s,[]=>by show(PyData.eqv (.str s) (.str m) || false)=_;rw[cy];simp[jC]
 | s,e::ps=>by rw[iO];show(PyData.eqv (.str s) (.str m) || (PyData.eqv (.int e.1) (.str m) || inA (.str m) (aU e.2 ps)))=_;rw[cy,nJ m e.2 ps,show PyData.eqv (.int e.1) (.str m)=false from rfl];simp[jC]
theorem sE(s:Str)(ps:List Stp):atI (aU s ps) (-1)=some (.str (fin s ps)):=by have h:=n5 s ps;have hl:=de s ps;unfold atI ixN;rw[if_neg (by omega),if_pos (by omega)];rw[List.getLast?_eq_getElem?] at h;show(aU s ps)[((-1:Int)+((aU s ps).length:Int)).toNat]? =_;rw[show((-1:Int)+((aU s ps).length:Int)).toNat=(aU s ps).length-1 by omega];exact h
abbrev Way:=Str×List Stp
def fG(p:Way):PyData:=.tuple (aU p.1 p.2)
def dR(B:List Bth)(R:List Row3)(p:Way)(k:Str):List Str:=(B.filter λ b=>!jC p.1 p.2 b.1&&!hasB R b.1 k).map (·.1)
def bV(B:List Bth)(R:List Row3)(p:Way)(r:Row3):List Way:=if r.2.2==fin p.1 p.2 then (dR B R p r.2.1).map λ o=>(p.1,p.2++[(r.1,o)]) else []
def aY(B:List Bth)(R:List Row3)(W0:List Way):List Way:=W0.flatMap λ p=>R.flatMap (bV B R p)
structure OkW(W0:List Way):Prop where
 ok:∀ p∈W0,gc p.1=true/\cF p.2/\p.2.length<=8
def bT:SpD:=λ ws M Q=>∃ (B:List Bth) (R:List Row3) (W0:List Way),ws=[.d (eh B),.d (bx R),.d (.list (W0.map fG))]/\OkB B/\OkR R/\OkW W0/\(aY B R W0).length<=900000/\Q (.d (.list ((aY B R W0).map fG))) M
theorem lY:∀ ws M Q,bT ws M Q->ws.length=3:=by rintro ws M Q ⟨B,R,W0,rfl,_⟩;rfl
def acL(B:List Bth)(R:List Row3)(W0 X:List Way)(x4 x5 x6 x7 x8:Option W):DS:=[some (.d (eh B)),some (.d (bx R)),some (.d (.list (W0.map fG))),some (.d (.list (X.map fG))),x4,x5,x6,x7,x8]
theorem kh:∀ ws M Q,bT ws M Q->jG aM {nx:=λ _ M'=>Q (.d .none) M',rt:=Q} (cf j1 ws) M:=by
 rintro ws M Q ⟨B,R,W0,rfl,okB,okR,okW,hlen,q⟩;refine⟨[],rfl,Nat.zero_le _,_,rfl,_,rfl,λ i τ M'=>M'=M/\∃ x4 x5 x6 x7 x8,τ=acL B R W0 (aY B R (W0.take i)) x4 x5 x6 x7 x8,⟨rfl,_,_,_,_,_,rfl⟩,λ i w τ M' hw ⟨hM,x4,x5,x6,x7,x8,e⟩=>?_,λ τ M' ⟨hM,x4,x5,x6,x7,x8,e⟩=>?_⟩
 ·subst e hM;rw[List.map_map,List.getElem?_map] at hw;obtain⟨p,hpi,rfl⟩:=Option.map_eq_some_iff.mp hw;obtain⟨pa,pok,pl⟩:=okW.ok p (List.mem_of_getElem? hpi);have tk:W0.take (i+1)=W0.take i++[p]:=by rw[List.take_add_one,hpi];rfl
  have eqL:aY B R (W0.take (i+1))=aY B R (W0.take i)++R.flatMap (bV B R p):=by rw[tk];unfold aY;rw[List.flatMap_append,List.flatMap_singleton]
  refine⟨_,rfl,_,rfl,λ j τ M2=>M2=M'/\∃ x5 x6 x7 x8,τ=acL B R W0 (aY B R (W0.take i)++(R.take j).flatMap (bV B R p)) (some (.d (fG p))) x5 x6 x7 x8,⟨rfl,_,_,_,_,by rw[List.take_zero,List.flatMap_nil,List.append_nil];rfl⟩,λ j w τ M2 hw ⟨hM,x5,x6,x7,x8,e⟩=>?_,λ τ M2 ⟨hM,x5,x6,x7,x8,e⟩=>?_⟩
  ·subst e hM;rw[List.map_map,List.getElem?_map] at hw;obtain⟨r,hrj,rfl⟩:=Option.map_eq_some_iff.mp hw;have tk2:R.take (j+1)=R.take j++[r]:=by rw[List.take_add_one,hrj];rfl
   refine⟨_,rfl,rfl,_,_,rfl,_,_,rfl,_,_,rfl,rfl,?_⟩;have ix:ixW M2 (.d (fG p)) (-1)=some (.d (.str (fin p.1 p.2))):=by show(atI (aU p.1 p.2) (-1)).map W.d=_;rw[sE];rfl
   refine⟨_,rfl,_,rfl,_,rfl,-1,_,rfl,ix,rfl,_,_,.d,.d,rfl,_,rfl,?_⟩;rw[cy];cases hf:r.2.2==fin p.1 p.2 with
   | false =>
    refine dF ⟨rfl,some (.d (.int r.1)),some (.d (.str r.2.1)),some (.d (.str r.2.2)),x8,?_⟩;rw[tk2,List.flatMap_append,List.flatMap_singleton,show bV B R p r=[] by unfold bV;rw[hf];rfl,List.append_nil];rfl
   | true =>
    have e0:bV B R p r=(dR B R p r.2.1).map λ o=>(p.1,p.2++[(r.1,o)]):=by unfold bV;rw[hf];rfl
    refine fK ⟨_,rfl,_,rfl,?_⟩;rw[List.map_map];refine cT B (W.d ∘ bD) (λ b=>.str b.1) (λ b=>!jC p.1 p.2 b.1&&!hasB R b.1 r.2.1) (λ τ=>∃ x y,τ=[x,y,some (.d (fG p)),some (.d (bx R)),some (.d (.str r.2.1))]) (λ M'=>M'=M2) (by have:=okB.len;omega) ⟨_,_,rfl⟩ rfl (λ b hb τ M3 hτ hM R' h=>?_) λ τ M3 hM=>?_
    ·obtain⟨x,y,rfl⟩:=hτ;subst hM;have:=h [some (.d (.str b.1)),some (.d (.int b.2)),some (.d (fG p)),some (.d (bx R)),some (.d (.str r.2.1))] M3 ⟨_,_,rfl⟩ rfl;have bw:=okB.word b hb;have io:wX (.str b.1) (aU p.1 p.2)=true:=by
      unfold wX;rw[eV (k:=0) (by decide) (d:=.str b.1) bw.1,eV (k:=1) (by decide) (d:=.list (aU p.1 p.2)) (cI (dQ pa pok))];rfl
     refine⟨_,rfl,rfl,_,_,rfl,_,_,rfl,rfl,?_⟩;refine⟨_,rfl,_,rfl,.str b.1,aU p.1 p.2,.d,.inr rfl,io,_,rfl,?_⟩;rw[nJ];cases e1:jC p.1 p.2 b.1 with
     | true=>rw[e1] at this;exact dF (dF this)
     | false =>
      rw[e1] at this;refine fK ⟨_,rfl,_,rfl,_,rfl,R,b.1,r.2.1,rfl,okR,_,rfl,?_⟩;cases e2:hasB R b.1 r.2.1 with
      | true=>rw[e2] at this;exact dF this
      | false=>rw[e2] at this;exact fK ⟨_,rfl,_,rfl,this⟩
    ·subst hM;have eo:(B.filter λ b=>!jC p.1 p.2 b.1&&!hasB R b.1 r.2.1).map (λ b=>PyData.str b.1)=(dR B R p r.2.1).map PyData.str:=by unfold dR;rw[List.map_map];rfl
     rw[eo];have ol:(dR B R p r.2.1).length<=8:=by
      unfold dR;rw[List.length_map];exact Nat.le_trans (List.length_filter_le _ _) okB.len
     have sl:1000000<=sizeLine:=by decide
     have b0:∀ g:Row3->List Way,((R.take j).flatMap g).length<=(R.flatMap g).length:=λ g=>by
      conv=>rhs;rw[<- List.take_append_drop j R,List.flatMap_append,List.length_append]
      omega
     have b1:=b0 (bV B R p);have b3:((R.take (j+1)).flatMap (bV B R p)).length=((R.take j).flatMap (bV B R p)).length+(bV B R p r).length:=by rw[tk2,List.flatMap_append,List.flatMap_singleton,List.length_append]
     rw[e0,List.length_map] at b3;have b2:(aY B R (W0.take (i+1))).length<=(aY B R W0).length:=by
      unfold aY
      conv=>rhs;rw[<- List.take_append_drop (i+1) W0,List.flatMap_append,List.length_append]
      omega
     rw[eqL,List.length_append] at b2;refine⟨_,rfl,_,rfl,_,rfl,?_⟩;rw[List.map_map];refine mY (dR B R p r.2.1) (W.d ∘ PyData.str) (λ o=>fG (p.1,p.2++[(r.1,o)])) (λ τ=>∃ x,τ=[x,some (.d (fG p)),some (.d (.int r.1))]) (by omega) ⟨_,rfl⟩ (λ o ho τ hτ R' h=>?_) λ τ=>?_
     ·obtain⟨x,rfl⟩:=hτ;have:=h [some (.d (.str o)),some (.d (fG p)),some (.d (.int r.1))] ⟨_,rfl⟩;refine⟨_,rfl,_,rfl,_,rfl,[.int r.1,.str o],rfl,(show 2<=sizeLine by omega),aU p.1 p.2,_,rfl,rfl,(λ z=>by cases z),?_,_,rfl,?_⟩
      ·rw[de];show 1+2 * p.2.length+2<=sizeLine;omega
      ·rw[<- oz p.1 p.2 (r.1,o)];exact this
     ·refine⟨_,_,.d,.d,?_,rfl,some (.d (.int r.1)),some (.d (.str r.2.1)),some (.d (.str r.2.2)),some (.d (.list ((dR B R p r.2.1).map PyData.str))),?_⟩
      ·simp only[List.length_map,List.length_append];omega
      ·rw[tk2,List.flatMap_append,List.flatMap_singleton,e0];rw[<- List.append_assoc];simp only[acL,List.map_append,List.map_map];rfl
  ·subst e hM;refine⟨rfl,some (.d (fG p)),x5,x6,x7,x8,?_⟩;rw[eqL,show R.take (List.map W.d (List.map dZ R)).length=R by rw[List.length_map,List.length_map,List.take_length]]
 ·subst e hM;refine⟨_,rfl,?_⟩;rw[List.take_of_length_le (by simp)];exact q
def ltW(p q:Way):Bool:=if p.2.length=q.2.length then S.bH (aU p.1 p.2) (aU q.1 q.2) else decide (p.2.length<q.2.length)
def iR(p:Way):List PyData:=[.int ((aU p.1 p.2).length:Nat),.tuple (aU p.1 p.2)]
def ltK:List PyData->List PyData->Bool
 | [.int a,.tuple xs],[.int b,.tuple ys]=>if a=b then S.bH xs ys else decide (a<b)
 | _,_=>false
theorem eT(p q:Way):ltK (iR p) (iR q)=ltW p q:=by
 show(if (((aU p.1 p.2).length:Nat):Int)=((aU q.1 q.2).length:Nat) then S.bH (aU p.1 p.2) (aU q.1 q.2) else decide ((((aU p.1 p.2).length:Nat):Int)<((aU q.1 q.2).length:Nat)))=_;unfold ltW;rw[de,de]
 by_cases e:p.2.length=q.2.length
 ·rw[if_pos e,if_pos (by omega)]
 ·rw[if_neg e,if_neg (by omega)];exact decide_eq_decide.mpr (by omega)
theorem rP:∀ {s t:Str} {ps qs:List Stp},PyData.eqvAll (aU s ps) (aU t qs)=true->aU s ps=aU t qs
 | s,t,[],[],h=>by
  have h:(PyData.eqv (.str s) (.str t)&&true)=true:=h;rw[cy] at h;have e:s=t:=by simpa using h
  rw[e]
 | s,t,a::ps,b::qs,h=>by rw[iO,iO] at h ⊢;have h:(PyData.eqv (.str s) (.str t)&&(PyData.eqv (.int a.1) (.int b.1)&&PyData.eqvAll (aU a.2 ps) (aU b.2 qs)))=true:=h;rw[cy] at h;simp only[Bool.and_eq_true,beq_iff_eq] at h;obtain⟨h1,h2,h3⟩:=h;have h2:(a.1==b.1)=true:=h2;rw[rP h3,h1,eq_of_beq h2]
 | s,t,[],b::qs,h=>by have h:(PyData.eqv (.str s) (.str t)&&false)=true:=h;simp at h
 | s,t,a::ps,[],h=>by have h:(PyData.eqv (.str s) (.str t)&&false)=true:=h;simp at h
theorem uW{p q:Way}(h:ltW p q=true):ltW q p=false:=by
 unfold ltW at h ⊢
 by_cases e:p.2.length=q.2.length
 ·rw[if_pos e] at h;rw[if_pos e.symm];exact S.gr (aJ p.1 p.2) (by rw[e];exact aJ q.1 q.2) h
 ·rw[if_neg e] at h;rw[if_neg (Ne.symm e)];have:=of_decide_eq_true h;exact decide_eq_false (by omega)
theorem abe{a b c:Way}(h:ltW b a=false)(k:ltW c b=false):ltW c a=false:=by
 unfold ltW at h k ⊢
 by_cases e1:b.2.length=a.2.length
 ·rw[if_pos e1] at h
  by_cases e2:c.2.length=b.2.length
  ·rw[if_pos e2] at k;rw[if_pos (e2.trans e1)];exact S.dr (sh:=true::shE a.2.length) (aJ a.1 a.2) (by rw[<- e1];exact aJ b.1 b.2) (by rw[<- e1,<- e2];exact aJ c.1 c.2) h k
  ·rw[if_neg e2] at k;have:=of_decide_eq_false k;rw[if_neg (by omega)];exact decide_eq_false (by omega)
 ·rw[if_neg e1] at h;have:=of_decide_eq_false h
  by_cases e2:c.2.length=b.2.length
  ·rw[if_neg (by omega)];exact decide_eq_false (by omega)
  ·rw[if_neg e2] at k;have:=of_decide_eq_false k;rw[if_neg (by omega)];exact decide_eq_false (by omega)
theorem oZ{rows:List (List PyData)}(h:∀ r∈rows,∃ p:Way,r=iR p/\gc p.1=true/\cF p.2/\p.2.length<=8):nZ ltK rows where
 cmp a ha b hb:=by
  obtain⟨p,rfl,_⟩:=h a ha;obtain⟨q,rfl,_⟩:=h b hb;rw[eT];unfold iR ltW;rw[de,de]
  by_cases e:p.2.length=q.2.length
  ·rw[if_pos e,e];refine .eq ?_
   by_cases z:aU p.1 p.2=aU q.1 q.2
   ·rw[z,S.fi _ (aJ q.1 q.2)];exact .eq .nn
   ·refine .tup ?_ (kM (aJ p.1 p.2) (by rw[e];exact aJ q.1 q.2));cases w:PyData.eqvAll (aU p.1 p.2) (aU q.1 q.2) with
    | true=>exact absurd (rP w) z
    | false=>rfl
  ·rw[if_neg e];have:decide (p.2.length<q.2.length)=decide (((1+2 * p.2.length:Nat):Int)<((1+2 * q.2.length:Nat):Int)):=decide_eq_decide.mpr (by omega);rw[this];exact .int (by omega)
 asym a ha b hb:=by obtain⟨p,rfl,_⟩:=h a ha;obtain⟨q,rfl,_⟩:=h b hb;rw[eT,eT];exact uW
 tr a ha b hb c hc:=by obtain⟨p,rfl,_⟩:=h a ha;obtain⟨q,rfl,_⟩:=h b hb;obtain⟨r,rfl,_⟩:=h c hc;rw[eT,eT,eT];exact abe
 ok a ha:=by
  obtain⟨p,rfl,h1,h2,h3⟩:=h a ha;refine eV (k:=4) (by decide) ?_;have w:okD 3 (.tuple (aU p.1 p.2))=true:=cI (dQ h1 h2);have l:okD 3 (.int ((aU p.1 p.2).length:Nat))=true:=by
   rw[de];have:(((1+2 * p.2.length:Nat):Int)).natAbs<2 ^ 100:=Nat.lt_of_lt_of_le (by omega:(((1+2 * p.2.length:Nat):Int)).natAbs<1000) (by decide)
   simpa [okD] using this
  refine cI λ d hd=>?_;simp only[iR,List.mem_cons,List.not_mem_nil,or_false] at hd;rcases hd with rfl | rfl
  ·exact l
  ·exact w
def Gr.way(G:Gr)(free:List Str)(k s:Str)(ps:List Stp):Prop:=s∈G.names/\G.has s k=false/\G.to free s ps
structure qw(G:Gr)(free N:List Str)(k:Str)(W0:List Way):Prop where
 is:∀ p∈W0,p.1∈N/\G.has p.1 k=false/\eN (λ t qs=>t=p.1/\G.to free t qs) p.1 p.2
 all:∀ s∈N,G.has s k=false->∀ ps,G.to free s ps->∃ p∈W0,p.1=s
theorem qw.none{G:Gr}{free:List Str}{k:Str}(h:qw G free G.names k [])(s:Str)(ps:List Stp):¬ G.way free k s ps:=λ hq99=>by obtain⟨a,b,c⟩:=hq99;obtain⟨p,hp,_⟩:=h.all s a b ps c;simp at hp
theorem qw.least{G:Gr}{free:List Str}{k:Str}{W0:List Way}(h:qw G free G.names k W0){p:Way}(hp:p∈W0)(hl:∀ x∈W0,ltW x p=false):eN (G.way free k) p.1 p.2:=by
 obtain⟨a,b,c⟩:=h.is p hp;refine⟨⟨a,b,c.1.2⟩,λ t qs hq100=>?_⟩;obtain⟨ha,hb,hc⟩:=hq100;obtain⟨x,hx,rfl⟩:=h.all t ha hb qs hc;obtain⟨x1,x2⟩:=(h.is x hx).2.2.2 x.1 qs ⟨rfl,hc⟩;have hlx:=hl x hx;unfold ltW at hlx
 by_cases e:x.2.length=p.2.length
 ·rw[if_pos e] at hlx;refine⟨by omega,λ e2=>?_⟩;exact S.dr (sh:=true::shE p.2.length) (aJ _ _) (by rw[<- e];exact aJ _ _) (by rw[<- e2];exact aJ _ _) hlx (x2 (by omega))
 ·rw[if_neg e] at hlx;have:=of_decide_eq_false hlx;exact⟨by omega,λ e2=>by omega⟩
theorem qw.skip{G:Gr}{free N:List Str}{k z:Str}{W0:List Way}(h:qw G free N k W0)(n:G.has z k=false->∀ ps,¬ G.to free z ps):qw G free (N++[z]) k W0:=
 ⟨λ p hp=>⟨List.mem_append_left _ (h.is p hp).1,(h.is p hp).2⟩,λ s hs hb ps ht=>by
  rcases List.mem_append.mp hs with hs | hs
  ·exact h.all s hs hb ps ht
  ·rw[List.mem_singleton.mp hs] at hb ht;exact absurd ht (n hb ps)⟩
theorem qw.put{G:Gr}{free N:List Str}{k z:Str}{W0:List Way}{ps:List Stp}(h:qw G free N k W0)(hb:G.has z k=false)(hl:eN (λ t qs=>t=z/\G.to free t qs) z ps):qw G free (N++[z]) k (W0++[(z,ps)]):=
 ⟨λ p hp=>by
  rcases List.mem_append.mp hp with hp | hp
  ·exact⟨List.mem_append_left _ (h.is p hp).1,(h.is p hp).2⟩
  ·rw[List.mem_singleton.mp hp];exact⟨List.mem_append_right _ (List.mem_singleton.mpr rfl),hb,hl⟩,λ s hs hb ps ht=>by
  rcases List.mem_append.mp hs with hs | hs
  ·obtain⟨p,hp,e⟩:=h.all s hs hb ps ht;exact⟨p,List.mem_append_left _ hp,e⟩
  ·exact⟨_,List.mem_append_right _ (List.mem_singleton.mpr rfl),(List.mem_singleton.mp hs).symm⟩⟩
structure KdA(M0 M:MH)(c:Addr)(N:List Str)(la:Str->Addr)(L:Str->List W):Prop where
 dic:M c=some (.dic (kf N λ z=>.m (la z)))
 lst:∀ z∈N,M (la z)=some (.lst (L z))
 inj:∀ y∈N,∀ z∈N,la y=la z->y=z
 ext:Ext M0 M
 c0:M0 c=none
 l0:∀ z∈N,M0 (la z)=none
theorem KdA.lc{M0 M:MH}{c:Addr}{N:List Str}{la:Str->Addr}{L:Str->List W}(h:KdA M0 M c N la L){z:Str}(hz:z∈N):la z≠c:=λ e=>by have:=h.lst z hz;rw[e,h.dic] at this;cases this
theorem KdA.add{M0 M:MH}{c:Addr}{N:List Str}{la:Str->Addr}{L:Str->List W}(h:KdA M0 M c N la L){z:Str}{q:Addr}(hz:z ∉ N)(hq:M q=none)(hL:L z=[]) :
  KdA M0 (ba (ba M q (.lst [])) c (.dic (kf (N++[z]) λ y=>.m (iB la z q y)))) c (N++[z]) (iB la z q) L:=by
 have qc:q≠c:=λ e=>by rw[e,h.dic] at hq;cases hq
 have q0:M0 q=none:=h.ext.none hq;have nz:∀ y∈N,y≠z:=λ y hy e=>hz (e ▸ hy);have nq:∀ y∈N,la y≠q:=λ y hy e=>by have:=h.lst y hy;rw[e,hq] at this;cases this
 refine⟨ag,λ y hy=>?_,λ y hy x hx e=>?_,(h.ext.upd q0).upd h.c0,h.c0,λ y hy=>?_⟩
 ·rcases List.mem_append.mp hy with hy | hy
  ·rw[cH (nz y hy),aw (h.lc hy),aw (nq y hy)];exact h.lst y hy
  ·rw[List.mem_singleton.mp hy,df,aw qc,ag,hL]
 ·rcases List.mem_append.mp hy with hy | hy<;>rcases List.mem_append.mp hx with hx | hx
  ·rw[cH (nz y hy),cH (nz x hx)] at e;exact h.inj y hy x hx e
  ·rw[List.mem_singleton.mp hx,df,cH (nz y hy)] at e;exact absurd e (nq y hy)
  ·rw[List.mem_singleton.mp hy,df,cH (nz x hx)] at e;exact absurd e.symm (nq x hx)
  ·rw[List.mem_singleton.mp hy,List.mem_singleton.mp hx]
 ·rcases List.mem_append.mp hy with hy | hy
  ·rw[cH (nz y hy)];exact h.l0 y hy
  ·rw[List.mem_singleton.mp hy,df];exact q0
theorem KdA.app{M0 M:MH}{c:Addr}{N:List Str}{la:Str->Addr}{L:Str->List W}(h:KdA M0 M c N la L){z:Str}(hz:z∈N)(w:W):KdA M0 (ba M (la z) (.lst (L z++[w]))) c N la (iB L z (L z++[w])):=by
 refine⟨by rw[aw (h.lc hz).symm];exact h.dic,λ y hy=>?_,h.inj,h.ext.upd (h.l0 z hz),h.c0,h.l0⟩
 by_cases e:y=z
 ·subst e;rw[ag,df]
 ·rw[aw λ k=>e (h.inj y hy z hz k),cH e];exact h.lst y hy
theorem yC{R:List Row3}{i:Nat}{r:Row3}(h:R[i]? =some r):(iB (λ z=>gU (pz (R.take i) z)) r.2.2 (gU (pz (R.take i) r.2.2)++[.d (.str r.2.1)]))=λ z=>gU (pz (R.take (i+1)) z):=by
 funext y;have tk:R.take (i+1)=R.take i++[r]:=by rw[List.take_add_one,h];rfl
 unfold pz;rw[tk]
 by_cases e:y=r.2.2
 ·subst e;rw[df];simp[List.filter_append,gU]
 ·rw[cH e];have:(r.2.2==y)=false:=beq_eq_false_iff_ne.mpr (Ne.symm e);simp[List.filter_append,this]
abbrev fk(M:MH):Prop:=M aP=some (.code eZ ⟨13,25,13,55⟩)
abbrev ao(B:List Bth):List Str:=B.map (·.1)
abbrev grB(B:List Bth)(R:List Row3):Gr:=⟨R,ao B⟩
abbrev eF(B:List Bth)(R:List Row3)(k:Str):Str->List Stp->Prop:=Gr.way (grB B R) (aN B R) k
def aL:SpD:=λ ws M Q=>∃ (B:List Bth) (R:List Row3) (k:Str),ws=[.d (eh B),.d (bx R),.d (.str k)]/\OkB B/\OkR R/\(∀ r∈R,r.2.2∈ao B)/\fk M /\
 (∀ M' s ps,Ext M M'->eN (eF B R k) s ps->cF ps->ps.length<=8->Q (.d (.tuple (aU s ps))) M')/\∀ M',Ext M M'->(∀ s ps,¬ eF B R k s ps)->Q (.d .none) M'
theorem nR:∀ ws M Q,aL ws M Q->ws.length=3:=by rintro ws M Q ⟨B,R,k,rfl,_⟩;rfl
def adJ(B:List Bth)(R:List Row3)(k:Str)(c:Addr)(x4 x5 x6 x7 x8 x9 x10:Option W):DS:=[some (.d (eh B)),some (.d (bx R)),some (.d (.str k)),some (.m c),x4,x5,x6,x7,x8,x9,x10]
structure WaI(M0:MH)(B:List Bth)(R:List Row3)(k:Str)(c wv:Addr)(la:Str->Addr)(i:Nat)(W0:List Way)(M:MH):Prop where
 kd:KdM M c (ao B) la R
 ext:Ext M0 M
 wv:M wv=some (.lst (W0.map λ p=>.d (fG p)))
 ok:∀ p∈W0,cF p.2/\p.2.length<=8
 len:W0.length<=i
 ways:qw (grB B R) (aN B R) ((ao B).take i) k W0
theorem lP:∀ ws M Q,aL ws M Q->l7 bQ {nx:=λ _ M'=>Q (.d .none) M',rt:=Q} (cf mw ws) M:=by
 rintro ws M Q ⟨B,R,k,rfl,okB,okR,hR,hC,qy,qn⟩;have sl:1000000<=sizeLine:=by decide
 have okN:OkN (ao B):=⟨by rw[List.length_map];exact okB.len,okB.nd,λ z hz=>by obtain⟨b,hb,rfl⟩:=List.mem_map.mp hz;exact okB.word b hb⟩
 have b8:=okB.len;refine⟨_,rfl,_,rfl,λ c hc=>⟨λ j τ M'=>(∃ x y,τ=[x,y])/\∃ la,KdA M M' c ((ao B).take j) la λ _=>[],⟨⟨_,_,rfl⟩,λ _=>c,ag,λ z hz=>by simp at hz,λ y hy=>by simp at hy,Ext.new hc,hc,λ z hz=>by simp at hz⟩,?_,?_⟩⟩
 ·rintro j w τ M' hw ⟨⟨x,y,rfl⟩,la,kd⟩;rw[List.map_map] at hw;obtain⟨b,hb,rfl⟩:=dA hw;have hz:(ao B)[j]? =some b.1:=by rw[List.getElem?_map,hb];rfl
  have tk:(ao B).take (j+1)=(ao B).take j++[b.1]:=by rw[List.take_add_one,hz];rfl
  have nin:b.1 ∉ (ao B).take j:=rS okB.nd hz;refine⟨_,rfl,rfl,_,_,rfl,_,_,rfl,rfl,_,rfl,Nat.zero_le _,λ q hq=>⟨kf ((ao B).take j) λ z=>.m (la z),.inr b.1,?_,rfl,?_,⟨_,_,rfl⟩,iB la b.1 q,?_⟩⟩
  ·rw[aw (λ e=>by rw[<- e,kd.dic] at hq;cases hq)];exact kd.dic
  ·rw[i6,List.length_take,List.length_map];omega
  ·have e:qA (kf ((ao B).take j) λ z=>W.m (la z)) (.inr b.1) (.m q)=kf ((ao B).take (j+1)) λ z=>W.m (iB la b.1 q z):=by
    have e2:kf ((ao B).take j) (λ z=>W.m (la z))=kf ((ao B).take j) λ z=>W.m (iB la b.1 q z):=kK λ z hz=>congrArg W.m (cH λ(e:z=b.1)=>nin (by rw[<- e];exact hz)).symm;rw[e2,tk];have:=kL (f:=λ z=>W.m (iB la b.1 q z)) nin
    rwa[df] at this
   rw[e,tk];exact kd.add nin hq rfl
 rintro τ M1 ⟨⟨x,y,rfl⟩,la,kd⟩;rw[show(ao B).take ((List.map W.d (List.map bD B)).length)=ao B from List.take_of_length_le (by simp)] at kd;refine⟨_,rfl,_,rfl,λ i τ M'=>(∃ x4 x5 x6,τ=adJ B R k c x4 x5 x6 none none none none)/\KdA M M' c (ao B) la λ z=>gU (pz (R.take i) z),⟨⟨_,_,_,rfl⟩,kd⟩,λ i w τ M' hw ⟨⟨x4,x5,x6,e⟩,kd⟩=>?_,λ τ M2 ⟨⟨x4,x5,x6,e⟩,kd⟩=>?_⟩
 ·subst e;rw[List.map_map] at hw;obtain⟨r,hr,rfl⟩:=dA hw;have hrN:=hR r (List.mem_of_getElem? hr);refine⟨_,rfl,rfl,_,_,rfl,_,_,rfl,_,_,rfl,rfl,?_⟩;refine⟨_,rfl,_,rfl,c,_,.inr r.2.2,_,rfl,.inl kd.dic,rfl,d3 hrN,la r.2.2,_,rfl,kd.lst _ hrN,_,rfl,_,kd.lst _ hrN,?_,⟨_,_,_,rfl⟩,?_⟩
  ·have h1:=okR.len;have h2:(pz (R.take i) r.2.2).length<=R.length:=by
    unfold pz;rw[List.length_map];exact Nat.le_trans (List.length_filter_le _ _) (by rw[List.length_take];omega)
   simp only[gU,List.length_map];omega
  ·rw[<- yC hr];exact kd.app hrN _
 subst e;rw[show R.take ((List.map W.d (List.map dZ R)).length)=R from List.take_of_length_le (by simp)] at kd;refine⟨_,rfl,_,rfl,?_⟩;rw[List.map_map];refine cT B (W.d ∘ bD) (λ b=>.str b.1) (kT R) (λ τ=>∃ x y,τ=[x,y,some (.m c)]) (λ M'=>M'=M2) (by omega) ⟨_,_,rfl⟩ rfl (λ b hb τ M' hτ hM R' h=>?_) λ τ M3 hM=>?_
 ·obtain⟨x,y,rfl⟩:=hτ;subst hM;have hbN:b.1∈ao B:=List.mem_map.mpr ⟨b,hb,rfl⟩;have lw:wm M' (.m (la b.1))=some (lg R b.1):=by
   show(match M' (la b.1) with | some (.lst ws)=>some ws.length | _=>_)=_
   rw[kd.lst _ hbN];simp[gU,pz,lg]
  refine⟨_,rfl,rfl,_,_,rfl,_,_,rfl,rfl,?_⟩;refine⟨_,rfl,_,rfl,c,_,.inr b.1,_,rfl,.inl kd.dic,rfl,d3 hbN,_,_,rfl,lw,rfl,_,rfl,_,_,rfl,rfl,_,rfl,?_⟩;have e:decide ((((lg R b.1:Nat):Int))<b.2)=kT R b:=rfl;rw[e];have:=h [some (.d (.str b.1)),some (.d (.int b.2)),some (.m c)] M' ⟨_,_,rfl⟩ rfl;cases z:kT R b with
  | false=>rw[z] at this;exact dF this
  | true=>rw[z] at this;exact fK ⟨_,rfl,_,rfl,this⟩
 subst hM;have e:(B.filter (kT R)).map (λ b=>PyData.str b.1)=(aN B R).map PyData.str:=by unfold aN;rw[List.map_map];rfl
 rw[e];have f8:(aN B R).length<=8:=by
  unfold aN;rw[List.length_map];exact Nat.le_trans (List.length_filter_le _ _) b8
 refine⟨Nat.zero_le _,λ wv hwv=>?_⟩;have wc:wv≠c:=λ e=>by rw[e,kd.dic] at hwv;cases hwv
 have w0:M wv=none:=kd.ext.none hwv;have lwv:∀ z∈ao B,la z≠wv:=λ z hz e=>by have:=kd.lst z hz;rw[e,hwv] at this;cases this
 refine⟨c,_,by rw[aw wc.symm];exact kd.dic,_,rfl,c,_,rfl,ag,λ i τ M'=>(∃ x9 x10,τ=adJ B R k c x4 x5 x6 (some (.d (.list ((aN B R).map PyData.str)))) (some (.m wv)) x9 x10)/\∃ W0,WaI M B R k c wv la i W0 M',⟨⟨_,_,rfl⟩,[],⟨⟨ag,λ z hz=>?_⟩,(kd.ext.upd w0).upd kd.c0,by rw[aw wc];exact ag,λ p hp=>by simp at hp,Nat.zero_le _,⟨λ p hp=>by simp at hp,λ s hs=>by simp at hs⟩⟩⟩,λ i w τ M' hw ⟨⟨x9,x10,e⟩,W0,I⟩=>?_,λ τ M' ⟨⟨x9,x10,e⟩,W0,I⟩=>?_⟩
 ·rw[aw (kd.lc hz),aw (lwv z hz)];exact kd.lst z hz
 ·subst e;rw[kf,List.map_map,List.getElem?_map] at hw;obtain⟨s,hs,rfl⟩:=Option.map_eq_some_iff.mp hw;have hsN:=List.mem_of_getElem? hs;have hi:i<8:=Nat.lt_of_lt_of_le (List.getElem?_eq_some_iff.mp hs).1 okN.len;have tk:(ao B).take (i+1)=(ao B).take i++[s]:=by rw[List.take_add_one,hs];rfl
  refine⟨_,rfl,_,rfl,_,rfl,c,_,.inr s,_,rfl,.inr I.kd.dic,rfl,d3 hsN,_,pz R s,rfl,.m (I.kd.lst s hsN),_,rfl,?_⟩;rw[om];cases hB:hasB R s k with
  | true=>exact dF ⟨⟨_,_,rfl⟩,W0,I.kd,I.ext,I.wv,I.ok,Nat.le_succ_of_le I.len,by rw[tk];exact I.ways.skip λ h=>by rw[show(grB B R).has s k=hasB R s k from rfl,hB] at h;cases h⟩
  | false =>
   refine fK ⟨_,rfl,_,rfl,_,rfl,_,rfl,s,R,c,ao B,la,aN B R,rfl,okR,okN,hsN,I.kd,f8,λ M2 ps x l ok l8=>?_,λ M2 x no=>?_⟩
   ·have hw2:=x _ _ I.wv;refine⟨_,rfl,rfl,_,rfl,fK ⟨_,rfl,wv,_,rfl,hw2,_,rfl,_,hw2,?_,⟨_,_,rfl⟩,W0++[(s,ps)],⟨?_,λ z hz=>?_⟩,(I.ext.trans x).upd w0,?_,λ p hp=>?_,?_,?_⟩⟩
    ·rw[List.length_map];have:=I.len;omega
    ·rw[aw wc.symm];exact x _ _ I.kd.dic
    ·have hz':=I.kd.lst z hz;rw[aw (lwv z hz)];exact x _ _ hz'
    ·rw[ag,List.map_append];rfl
    ·rcases List.mem_append.mp hp with hp | hp
     ·exact I.ok p hp
     ·rw[List.mem_singleton.mp hp];exact⟨ok,l8⟩
    ·rw[List.length_append,List.length_singleton];have:=I.len;omega
    ·rw[tk];exact I.ways.put hB l
   ·exact⟨_,rfl,rfl,_,rfl,dF ⟨⟨_,_,rfl⟩,W0,⟨x _ _ I.kd.dic,λ z hz=>x _ _ (I.kd.lst z hz)⟩,I.ext.trans x,x _ _ I.wv,I.ok,Nat.le_succ_of_le I.len,by rw[tk];exact I.ways.skip λ _ ps=>no ps⟩⟩
 subst e;have I2:=I.ways;rw[kf,List.map_map,List.length_map,List.take_length] at I2;refine⟨I.kd.dic,?_⟩;have hw3:ba M' c (.dic (kf (ao B) λ z=>.m (la z))) wv=some (.lst ((W0.map fG).map W.d)):=by rw[aw wc,List.map_map];exact I.wv
 have xf:Ext M (iY (ba M' c (.dic (kf (ao B) λ z=>.m (la z)))) wv):=(I.ext.upd kd.c0).del w0;have key:∀ p∈W0,gc p.1=true/\cF p.2/\p.2.length<=8:=λ p hp=>⟨(okN.word _ (I2.is p hp).1).1,I.ok p hp⟩
 let kd2:Nat->List PyData:=λ i=>(W0[i]?.map iR).getD []
 have mem2:∀ i,i<(W0.map fG).length->∃ p∈W0,kd2 i=iR p:=λ i h=>by rw[List.length_map] at h;refine⟨W0[i],List.getElem_mem h,?_⟩;show(W0[i]?.map iR).getD []=_;rw[List.getElem?_eq_getElem h];rfl
 refine⟨_,rfl,wv,W0.map fG,rfl,hw3,W0.map fG,kd2,ltK,rfl,xf _ _ hC,λ i d hd=>?_,oZ λ r hr=>?_,λ e0=>?_,λ i d hd hmin=>?_⟩
 ·obtain⟨p,hp,rfl⟩:=dA hd;have ek:kd2 i=iR p:=by show(W0[i]?.map iR).getD []=_;rw[hp];rfl
  rw[ek];exact⟨_,rfl,_,_,rfl,rfl,rfl,_,rfl,[_,_],rfl,(show 2<=sizeLine by omega),rfl,rfl⟩
 ·obtain⟨i,hi,rfl⟩:=List.mem_map.mp hr;obtain⟨p,hp,e⟩:=mem2 i (List.mem_range.mp hi);exact⟨p,e,key p hp⟩
 ·have:W0=[]:=List.map_eq_nil_iff.mp e0;subst this;exact qn _ xf I2.none
 ·obtain⟨p,hp,rfl⟩:=dA hd;have hpm:=List.mem_of_getElem? hp;have ek:kd2 i=iR p:=by show(W0[i]?.map iR).getD []=_;rw[hp];rfl
  refine qy _ p.1 p.2 xf (I2.least hpm λ x hx=>?_) (I.ok p hpm).1 (I.ok p hpm).2;obtain⟨j,hj,rfl⟩:=List.getElem_of_mem hx;have:=hmin j (by rw[List.length_map];exact hj);rw[ek,show kd2 j=iR W0[j] by show(W0[j]?.map iR).getD []=_;rw[List.getElem?_eq_getElem hj];rfl,eT] at this;exact this
structure InW(B:List Bth)(R:List Row3)(k:Str)(t:Nat)(p:Way):Prop where
 st:p.1∈ao B
 lacks:hasB R p.1 k=false
 walk:Gr.walk (grB B R) p.1 p.2
 len:p.2.length=t
 nd:(p.1::p.2.map (·.2)).Nodup
 sub:∀ x∈p.1::p.2.map (·.2),x∈ao B
theorem gG{s m:Str}{ps:List Stp}:jC s ps m=true ↔ m∈s::ps.map (·.2):=by
 unfold jC;simp only[Bool.or_eq_true,beq_iff_eq,List.any_eq_true,List.mem_cons,List.mem_map];exact or_congr eq_comm Iff.rfl
theorem qi{B:List Bth}{R:List Row3}{W0:List Way}{q:Way}:q∈aY B R W0 ↔ ∃ p∈W0,∃ r∈R,r.2.2=fin p.1 p.2/\∃ o,o∈ao B/\jC p.1 p.2 o=false/\hasB R o r.2.1=false/\q=(p.1,p.2++[(r.1,o)]):=by
 unfold aY;simp only[List.mem_flatMap];refine exists_congr λ p=>and_congr_right λ _=>exists_congr λ r=>and_congr_right λ _=>?_;unfold bV
 by_cases e:r.2.2=fin p.1 p.2
 ·rw[if_pos (beq_iff_eq.mpr e)];unfold dR;simp only[List.mem_map,List.mem_filter,Bool.and_eq_true,Bool.not_eq_true'];constructor
  ·rintro⟨o,⟨b,⟨hb,h1,h2⟩,rfl⟩,rfl⟩;exact⟨e,b.1,⟨b,hb,rfl⟩,h1,h2,rfl⟩
  ·rintro⟨_,o,⟨b,hb,rfl⟩,h1,h2,rfl⟩;exact⟨b.1,⟨b,⟨hb,h1,h2⟩,rfl⟩,rfl⟩
 ·rw[if_neg λ h=>e (beq_iff_eq.mp h)];exact⟨λ h=>(List.not_mem_nil h).elim,λ h=>absurd h.1 e⟩
theorem oF{B:List Bth}{R:List Row3}{k s:Str}{t:Nat}{ps:List Stp}{e:Stp}(h:InW B R k t (s,ps))(he:Gr.gQ (grB B R) (fin s ps) e)(hv:jC s ps e.2=false):InW B R k (t+1) (s,ps++[e]):=by
 obtain⟨a1,a2,a3,a4,a5,a6⟩:=h;dsimp only at a1 a2 a3 a4 a5 a6;have nv:e.2 ∉ s::ps.map (·.2):=λ z=>by rw[gG.mpr z] at hv;cases hv
 refine⟨a1,a2,aZ.mpr ⟨a3,he,trivial⟩,by simp[a4],?_,?_⟩
 ·simp only[List.map_append,List.map_cons,List.map_nil];rw[<- List.cons_append];exact List.nodup_append.mpr ⟨a5,by simp,λ a ha b hb e=>by rw[List.mem_singleton.mp hb] at e;exact nv (e ▸ ha)⟩
 ·intro x hx;simp only[List.map_append,List.map_cons,List.map_nil] at hx;rw[<- List.cons_append] at hx;rcases List.mem_append.mp hx with hx | hx
  ·exact a6 x hx
  ·rw[List.mem_singleton.mp hx];obtain⟨_,_,ho,_⟩:=he;exact ho
theorem oO{B:List Bth}{R:List Row3}{k:Str}{t:Nat}{W0:List Way}(h:∀ p,p∈W0 ↔ InW B R k t p)(q:Way):q∈aY B R W0 ↔ InW B R k (t+1) q:=by
 rw[qi];constructor
 ·rintro⟨p,hp,r,hr,e,o,ho,hv,hB,rfl⟩;exact oF (e:=(r.1,o)) ((h p).mp hp) ⟨r.2.1,by show(r.1,r.2.1,fin p.1 p.2)∈R;rw[<- e];exact hr,ho,hB⟩ hv
 ·rintro⟨a1,a2,a3,a4,a5,a6⟩;obtain⟨s,qs⟩:=q;obtain⟨ps,e,rfl,hl⟩:=fj a4;obtain⟨w1,w2⟩:=aZ.mp a3;obtain⟨kd,hr,ho,hB⟩:=w2.1;simp only[List.map_append,List.map_cons,List.map_nil] at a5 a6;rw[<- List.cons_append] at a5 a6;refine⟨(s,ps),(h _).mpr ⟨a1,a2,w1,hl,(List.nodup_append.mp a5).1,λ x hx=>a6 x (List.mem_append_left _ hx)⟩,_,hr,rfl,e.2,ho,?_,hB,rfl⟩;cases z:jC s ps e.2 with
  | false=>rfl
  | true=>exact absurd rfl ((List.nodup_append.mp a5).2.2 _ (gG.mp z) _ (List.mem_singleton.mpr rfl))
theorem uK{G:Gr}{s m:Str}:∀ {ps:List Stp},G.walk s ps->jC s ps m=true->∃ qs,G.walk s qs/\fin s qs=m/\qs.length<=ps.length:=by
 intro ps hw hv;rcases List.mem_cons.mp (gG.mp hv) with e | h
 ·exact⟨[],trivial,e.symm,Nat.zero_le _⟩
 ·obtain⟨x,hx,rfl⟩:=List.mem_map.mp h;obtain⟨a,b,rfl⟩:=List.append_of_mem hx;rw[List.append_cons] at hw;refine⟨a++[x],(aZ.mp hw).1,by rw[bS];rfl,by simp⟩
theorem sA{B:List Bth}{R:List Row3}{k s:Str}(hs:s∈ao B)(hl:hasB R s k=false):∀ (n:Nat) (ps:List Stp),ps.length=n->Gr.walk (grB B R) s ps->InW B R k n (s,ps)\/∃ qs,Gr.walk (grB B R) s qs/\fin s qs=fin s ps/\qs.length<n
 | 0,ps,e,hw=>by have:ps=[]:=List.length_eq_zero_iff.mp e;subst this;exact .inl ⟨hs,hl,trivial,rfl,by simp,λ x hx=>by simp at hx;rw[hx];exact hs⟩
 | n+1,ps,e,hw=>by
  obtain⟨qs,x,rfl,hq⟩:=fj e;obtain⟨w1,w2⟩:=aZ.mp hw;have hf:fin s (qs++[x])=x.2:=by rw[bS];rfl
  cases hv:jC s qs x.2 with
  | true =>
   obtain⟨rs,h1,h2,h3⟩:=uK w1 hv;exact .inr ⟨rs,h1,by rw[h2,hf],by omega⟩
  | false =>
   rcases sA hs hl n qs hq w1 with h | ⟨rs,h1,h2,h3⟩
   ·exact .inl (oF h w2.1 hv)
   ·refine .inr ⟨rs++[x],aZ.mpr ⟨h1,by rw[h2];exact w2⟩,by rw[bS,hf];rfl,by simp;omega⟩
theorem oU{B:List Bth}{R:List Row3}{k s:Str}(hs:s∈ao B)(hl:hasB R s k=false):∀ (n:Nat) (ps:List Stp),ps.length=n->Gr.walk (grB B R) s ps->∃ rs,InW B R k rs.length (s,rs)/\fin s rs=fin s ps/\rs.length<=n:=by
 intro n
 induction n using Nat.strongRecOn with
 | ind n ih =>
  intro ps e hw;rcases sA hs hl n ps e hw with h | ⟨qs,h1,h2,h3⟩
  ·exact⟨ps,by rw[e];exact h,rfl,by omega⟩
  ·obtain⟨rs,a,b,c⟩:=ih qs.length h3 qs rfl h1;exact⟨rs,a,by rw[b,h2],by omega⟩
theorem lq{B:List Bth}{R:List Row3}{k:Str}{t:Nat}{p:Way}(h:InW B R k t p):t<B.length:=by have:=h.nd.length_le_of_subset λ x hx=>h.sub x hx;simp only[List.length_cons,List.length_map] at this;have:=h.len;omega
def NoF(B:List Bth)(R:List Row3)(k:Str)(t:Nat):Prop:=∀ j,0<j->j<=t->∀ p,InW B R k j p->fin p.1 p.2 ∉ aN B R
theorem nD{B:List Bth}{R:List Row3}{k:Str}{t:Nat}(h:NoF B R k t){s:Str}{qs:List Stp}(hw:eF B R k s qs):t<qs.length:=by
 obtain⟨hs,hl,w,hf,hne⟩:=hw;obtain⟨rs,h1,h2,h3⟩:=oU hs hl _ qs rfl w;apply Classical.byContradiction;intro z;refine h rs.length ?_ (by omega) _ h1 (by rw[show fin (s,rs).1 (s,rs).2=fin s rs from rfl,h2];exact hf);rcases Nat.eq_zero_or_pos rs.length with e | e
 ·have:rs=[]:=List.length_eq_zero_iff.mp e;subst this;exact absurd h2.symm hne
 ·exact e
theorem vZ{B:List Bth}{R:List Row3}{k:Str}(h:NoF B R k B.length)(s:Str)(qs:List Stp):¬ eF B R k s qs:=λ hw=>by obtain⟨hs,hl,w,hf,hne⟩:=id hw;obtain⟨rs,h1,h2,h3⟩:=oU hs hl _ qs rfl w;have:=lq h1;have hw2:eF B R k s rs:=⟨hs,hl,h1.walk,by rw[h2];exact hf,by rw[h2];exact hne⟩;have:=nD h hw2;omega
theorem ue{B:List Bth}{R:List Row3}{k:Str}{t:Nat}(h:NoF B R k t){p:Way}(hp:InW B R k (t+1) p)(hf:fin p.1 p.2∈aN B R)(hl:∀ x,InW B R k (t+1) x->fin x.1 x.2∈aN B R->leD (aU p.1 p.2) (aU x.1 x.2)):eN (eF B R k) p.1 p.2:=by
 have ne:fin p.1 p.2≠p.1:=λ e=>by obtain⟨ps,x,e2,hq⟩:=fj hp.len;have hn:=hp.nd;rw[e2] at hn e;rw[bS] at e;have e:x.2=p.1:=e;simp[e] at hn
 refine⟨⟨hp.st,hp.lacks,hp.walk,hf,ne⟩,λ s qs hw=>?_⟩;have h1:=nD h hw;have h2:=hp.len;refine⟨by omega,λ e=>?_⟩;obtain⟨hs,hlk,w,hff,hne⟩:=id hw;rcases sA hs hlk (t+1) qs (by omega) w with z | ⟨rs,a,b,c⟩
 ·exact hl _ z hff
 ·have:=nD (s:=s) (qs:=rs) h ⟨hs,hlk,a,by rw[b];exact hff,by rw[b];exact hne⟩;omega
theorem vw{B:List Bth}{R:List Row3}{k:Str}{t:Nat}(h:NoF B R k t)(n:∀ x,InW B R k (t+1) x->fin x.1 x.2 ∉ aN B R):NoF B R k (t+1):=λ j h0 h1 p hp=>by
 rcases Nat.lt_or_ge t j with z | z
 ·have:j=t+1:=by omega
  subst this;exact n p hp
 ·exact h j h0 z p hp
theorem kB{α β:Type}{f:α->List β}{c:Nat}:∀ {l:List α},(∀ x∈l,(f x).length<=c)->(l.flatMap f).length<=l.length * c
 | [],_=>by simp
 | x::l,h=>by have h1:=h x (by simp);have h2:=kB (l:=l) λ y hy=>h y (by simp[hy]);rw[List.flatMap_cons,List.length_append,List.length_cons,Nat.succ_mul];omega
theorem qX{B:List Bth}{p:Way}{c:Nat}(R0:List Row3)(hB:B.length<=c):∀ R:List Row3,(R.flatMap (bV B R0 p)).length<=lg R (fin p.1 p.2) * c
 | []=>by simp
 | r::R=>by
  have ih:=qX (p:=p) R0 hB R;rw[List.flatMap_cons,List.length_append];unfold lg at ih ⊢;cases e:r.2.2==fin p.1 p.2 with
  | false =>
   rw[List.filter_cons_of_neg (by rw[e];decide),show bV B R0 p r=[] by unfold bV;rw[e];rfl]
   simpa using ih
  | true =>
   have:(bV B R0 p r).length<=c:=by
    unfold bV;rw[e,if_pos rfl,List.length_map];unfold dR;rw[List.length_map];exact Nat.le_trans (List.length_filter_le _ _) hB
   rw[List.filter_cons_of_pos (p:=λ r:Row3=>r.2.2==fin p.1 p.2) e,List.length_cons,Nat.succ_mul];omega
theorem jZ{B:List Bth}{R:List Row3}(hB:B.length<=5)(hc:∀ m,lg R m<=3)(W0:List Way):(aY B R W0).length<=W0.length * 15:=by
 unfold aY;refine kB λ p _=>?_;have:=qX (p:=p) R hB R;have:=Nat.mul_le_mul_right 5 (hc (fin p.1 p.2));omega
def fR(B:List Bth)(R:List Row3)(k:Str):List Way:=(B.filter λ b=>!hasB R b.1 k).map λ b=>(b.1,[])
theorem t5{B:List Bth}{R:List Row3}{k:Str}(p:Way):p∈fR B R k ↔ InW B R k 0 p:=by
 unfold fR;rw[List.mem_map];constructor
 ·rintro⟨b,hb,rfl⟩;obtain⟨h1,h2⟩:=List.mem_filter.mp hb;have hm:b.1∈ao B:=List.mem_map.mpr ⟨b,h1,rfl⟩;exact⟨hm,by simpa using h2,trivial,rfl,by simp,λ x hx=>by simp at hx;rw[hx];exact hm⟩
 ·rintro⟨a1,a2,_,a4,_,_⟩;obtain⟨s,ps⟩:=p;have:ps=[]:=List.length_eq_zero_iff.mp a4;subst this;obtain⟨b,hb,rfl⟩:=List.mem_map.mp a1;exact⟨b,List.mem_filter.mpr ⟨hb,by show(!hasB R b.1 k)=true;rw[show hasB R b.1 k=false from a2];rfl⟩,rfl⟩
structure DuI(B:List Bth)(R:List Row3)(k:Str)(t:Nat)(W0:List Way):Prop where
 mem:∀ p,p∈W0 ↔ InW B R k t p
 no:NoF B R k t
 num:W0.length<=5 * 15 ^ t
theorem kO{B:List Bth}{R:List Row3}(okB:OkB B)(okR:OkR R):∀ {s:Str} {ps:List Stp},Gr.walk (grB B R) s ps->cF ps
 | _,[],_=>λ e he=>by simp at he
 | s,e::ps,⟨⟨k,h1,h2,_⟩,w⟩=>by
  have ih:=kO okB okR w;intro x hx;rcases List.mem_cons.mp hx with rfl | hx
  ·have hn:=okR.num _ h1;obtain⟨b,hb,e2⟩:=List.mem_map.mp h2;have:=okB.word b hb;rw[e2] at this;exact⟨hn.1,hn.2,this.1,this.2⟩
  ·exact ih x hx
theorem DuI.len{B:List Bth}{R:List Row3}{k:Str}{t:Nat}{W0:List Way}(h:DuI B R k t W0)(hB:B.length<=5):W0.length<=253125:=by
 rcases Nat.lt_or_ge 4 t with z | z
 ·cases W0 with
  | nil=>exact Nat.zero_le _
  | cons p l =>
   have:=lq ((h.mem p).mp List.mem_cons_self);omega
 ·have h1:15 ^ t<=15 ^ 4:=Nat.pow_le_pow_right (by decide) z;have h2:=h.num;have:(15:Nat) ^ 4=50625:=by decide
  omega
theorem DuI.ok{B:List Bth}{R:List Row3}{k:Str}{t:Nat}{W0:List Way}(h:DuI B R k t W0)(okB:OkB B)(okR:OkR R):OkW W0:=⟨λ p hp=>by have i:=(h.mem p).mp hp;obtain⟨b,hb,e⟩:=List.mem_map.mp i.st;have hw:=okB.word b hb;rw[e] at hw;have:=lq i;have:=okB.len;have:=i.len;exact⟨hw.1,kO okB okR i.walk,by omega⟩⟩
theorem DuI.next{B:List Bth}{R:List Row3}{k:Str}{t:Nat}{W0:List Way}(h:DuI B R k t W0)(hB:B.length<=5)(hc:∀ m,lg R m<=3)(n:∀ p∈aY B R W0,fin p.1 p.2 ∉ aN B R):DuI B R k (t+1) (aY B R W0):=by have m:=oO h.mem;refine⟨m,vw h.no λ x hx=>n x ((m x).mpr hx),?_⟩;have h1:=jZ hB hc W0;have h2:=h.num;rw[Nat.pow_succ];omega
def cL:SpD:=λ ws M Q=>∃ (B:List Bth) (R:List Row3) (k:Str),ws=[.d (eh B),.d (bx R),.d (.str k)]/\OkB B/\OkR R/\B.length<=5/\(∀ m,lg R m<=3) /\
 (∀ s ps,eN (eF B R k) s ps->cF ps->ps.length<=8->Q (.d (.tuple (aU s ps))) M)/\((∀ s ps,¬ eF B R k s ps)->Q (.d .none) M)
theorem t8:∀ ws M Q,cL ws M Q->ws.length=3:=by rintro ws M Q ⟨B,R,k,rfl,_⟩;rfl
def ad5(B:List Bth)(R:List Row3)(k:Str)(W0:List Way)(x5 x6:Option W):DS:=[some (.d (eh B)),some (.d (bx R)),some (.d (.str k)),some (.d (.list (W0.map fG))),some (.d (.list ((aN B R).map PyData.str))),x5,x6]
theorem qk:∀ ws M Q,cL ws M Q->qE aM bL bT {nx:=λ _ M'=>Q (.d .none) M',rt:=Q} (cf tJ ws) M:=by
 rintro ws M Q ⟨B,R,k,rfl,okB,okR,hB,hc,qy,qn⟩;have sl:1000000<=sizeLine:=by decide
 refine⟨_,rfl,_,rfl,?_⟩;rw[List.map_map];refine cT B (W.d ∘ bD) (λ b=>fG (b.1,[])) (λ b=>!hasB R b.1 k) (λ τ=>∃ x y,τ=[x,y,some (.d (bx R)),some (.d (.str k))]) (λ M'=>M'=M) (by omega) ⟨_,_,rfl⟩ rfl (λ b hb τ M' hτ hM R' h=>?_) λ τ M1 hM=>?_
 ·obtain⟨x,y,rfl⟩:=hτ;subst hM;have:=h [some (.d (.str b.1)),some (.d (.int b.2)),some (.d (bx R)),some (.d (.str k))] M' ⟨_,_,rfl⟩ rfl;refine⟨_,rfl,rfl,_,_,rfl,_,_,rfl,rfl,?_⟩;refine⟨_,rfl,_,rfl,_,rfl,R,b.1,k,rfl,okR,_,rfl,?_⟩;cases e2:hasB R b.1 k with
  | true=>rw[e2] at this;exact dF this
  | false=>rw[e2] at this;exact fK ⟨_,rfl,[_],rfl,(show 1<=sizeLine by omega),_,rfl,this⟩
 subst hM;have e0:(B.filter λ b=>!hasB R b.1 k).map (λ b=>fG (b.1,[]))=(fR B R k).map fG:=by unfold fR;rw[List.map_map];rfl
 rw[e0];refine⟨_,rfl,_,rfl,B,R,rfl,okB,okR,?_⟩;have i0:DuI B R k 0 (fR B R k):=⟨t5,λ j h0 h1=>by omega,by
  have:(fR B R k).length<=B.length:=by unfold fR;rw[List.length_map];exact List.length_filter_le _ _
  omega⟩
 refine⟨_,rfl,_,_,rfl,rfl,rfl,((B.map bD).length:Nat),rfl,by rw[List.length_map];omega,by rw[List.length_map];omega,λ t τ M'=>M'=M1/\∃ W0 x5 x6,τ=ad5 B R k W0 x5 x6/\DuI B R k t W0,⟨rfl,_,_,_,rfl,i0⟩,λ t w τ M' hw ⟨hM,W0,x5,x6,e,I⟩=>?_,λ τ M' ⟨hM,W0,x5,x6,e,I⟩=>?_⟩
 ·subst e hM;have m:=oO I.mem;have ll:=jZ hB hc W0;have l0:=I.len hB;have okL:OkW (aY B R W0):=⟨λ p hp=>by have i:=(m p).mp hp;obtain⟨b,hb,e⟩:=List.mem_map.mp i.st;have hw:=okB.word b hb;rw[e] at hw;have:=lq i;have:=i.len;exact⟨hw.1,kO okB okR i.walk,by omega⟩⟩
  have lb:(aY B R W0).length<=900000:=by
   rcases Nat.lt_or_ge 3 t with z | z
   ·cases hL:aY B R W0 with
    | nil=>exact Nat.zero_le _
    | cons p l =>
     have:=lq ((m p).mp (by rw[hL];exact List.mem_cons_self));omega
   ·have h1:15 ^ t<=15 ^ 3:=Nat.pow_le_pow_right (by decide) z;have h2:=I.num;have:(15:Nat) ^ 3=3375:=by decide
    omega
  refine⟨_,rfl,_,rfl,_,rfl,B,R,W0,rfl,okB,okR,I.ok okB okR,lb,?_⟩;refine⟨_,rfl,_,rfl,?_⟩;rw[List.map_map];refine cT (aY B R W0) (W.d ∘ fG) fG (λ p=>decide (fin p.1 p.2∈aN B R)) (λ τ=>∃ x,τ=[x,some (.d (.list ((aN B R).map PyData.str)))]) (λ M''=>M''=M') lb ⟨_,rfl⟩ rfl (λ p hp τ M'' hτ hM R' h=>?_) λ τ M2 hM=>?_
  ·obtain⟨x,rfl⟩:=hτ;subst hM;have:=h [some (.d (fG p)),some (.d (.list ((aN B R).map PyData.str)))] M'' ⟨_,rfl⟩ rfl;have ix:ixW M'' (.d (fG p)) (-1)=some (.d (.str (fin p.1 p.2))):=by show(atI (aU p.1 p.2) (-1)).map W.d=_;rw[sE];rfl
   refine⟨_,rfl,_,rfl,-1,_,rfl,ix,rfl,_,rfl,_,aN B R,rfl,?_,_,rfl,?_⟩
   ·have:=uz.l (M:=M'') (ds:=(aN B R).map PyData.str);rw[List.map_map] at this;exact this
   cases e:decide (fin p.1 p.2∈aN B R) with
   | false=>rw[e] at this;exact dF this
   | true=>rw[e] at this;exact fK ⟨_,rfl,_,rfl,this⟩
  subst hM
  let D0:=(aY B R W0).filter λ p=>decide (fin p.1 p.2∈aN B R)
  have okD0:okD 3 (.list (D0.map fG))=true:=cI λ d hd=>by obtain⟨p,hp,rfl⟩:=List.mem_map.mp hd;obtain⟨h1,h2,_⟩:=okL.ok p (List.mem_filter.mp hp).1;exact cI (dQ h1 h2)
  refine⟨_,rfl,[],rfl,Nat.zero_le _,_,_,.d,.d,dH (k:=3) (by decide) okD0 rfl,_,rfl,?_⟩;refine gh (λ e=>?_) λ e=>?_
  ·have ne:D0≠[]:=λ z=>by have e:(!PyData.eqv (.list (D0.map fG)) (.list []))=true:=e;rw[z] at e;cases e
   refine⟨_,rfl,_,D0.map (λ p=>aU p.1 p.2),S.bH,rfl,?_,λ z=>ne (List.map_eq_nil_iff.mp z),fB (sh:=true::shE (t+1)) (λ r hr=>?_) (λ r hr=>?_),λ r hr least=>?_⟩
   ·have:(D0.map λ p=>aU p.1 p.2).map PyData.tuple=D0.map fG:=by rw[List.map_map];rfl
    rw[this];exact .d
   ·obtain⟨p,hp,rfl⟩:=List.mem_map.mp hr;rw[<- ((m p).mp (List.mem_filter.mp hp).1).len];exact aJ _ _
   ·obtain⟨p,hp,rfl⟩:=List.mem_map.mp hr;obtain⟨h1,h2,_⟩:=okL.ok p (List.mem_filter.mp hp).1;exact dQ h1 h2
   ·obtain⟨p,hp,rfl⟩:=List.mem_map.mp hr;obtain⟨h1,h2⟩:=List.mem_filter.mp hp;obtain⟨_,k2,k3⟩:=okL.ok p h1;exact qy _ _ (ue I.no ((m p).mp h1) (of_decide_eq_true h2) λ x hx hf=>least _ (List.mem_map.mpr ⟨x,List.mem_filter.mpr ⟨(m x).mpr hx,decide_eq_true hf⟩,rfl⟩)) k2 k3
  ·refine⟨rfl,aY B R W0,_,_,rfl,I.next hB hc λ p hp hf=>?_⟩;have e:(!PyData.eqv (.list (D0.map fG)) (.list []))=false:=e;have:p∈D0:=List.mem_filter.mpr ⟨hp,decide_eq_true hf⟩;cases z:D0 with
   | nil=>rw[z] at this;cases this
   | cons a b=>rw[z] at e;cases e
 ·subst e hM;have h:=I.no;rw[show(hJ 0 (((B.map bD).length:Nat):Int).toNat).length=B.length by simp[hJ]] at h;exact qn (vZ h)
def Gr.esc(G:Gr)(F:List Str)(s m:Str)(ps:List Stp):Prop:=G.walk m ps/\fin m ps∈F/\∀ e∈ps,e.2≠s
structure Dst(G:Gr)(F:List Str)(s:Str)(d:Nat)(m:Str):Prop where
 ne:m≠s
 ex:∃ ps,G.esc F s m ps/\ps.length=d
 le:∀ ps,G.esc F s m ps->d<=ps.length
section
variable {G:Gr}{F:List Str}{s:Str}
theorem fA{d e:Nat}{m:Str}(h:Dst G F s d m)(k:Dst G F s e m):d=e:=by obtain⟨ps,a,b⟩:=h.ex;obtain⟨qs,a',b'⟩:=k.ex;have:=h.le qs a';have:=k.le ps a;omega
theorem kC{m:Str}(hm:m≠s):∀ (n:Nat) (ps:List Stp),ps.length=n->G.esc F s m ps->∃ d,d<=n/\Dst G F s d m:=by
 intro n
 induction n using Nat.strongRecOn with
 | ind n ih =>
  intro ps hn hp
  by_cases z:∃ qs,qs.length<n/\G.esc F s m qs
  ·obtain⟨qs,h1,h2⟩:=z;obtain⟨d,h3,h4⟩:=ih _ h1 qs rfl h2;exact⟨d,by omega,h4⟩
  ·refine⟨n,Nat.le_refl _,hm,⟨ps,hp,hn⟩,λ qs hq=>?_⟩;apply Classical.byContradiction;intro y;exact z ⟨qs,by omega,hq⟩
theorem dP{m:Str}{e:Stp}{ps:List Stp}:G.esc F s m (e::ps) ↔ G.gQ m e/\e.2≠s/\G.esc F s e.2 ps:=by
 unfold Gr.esc;simp only[Gr.walk,fin,List.mem_cons,forall_eq_or_imp];exact⟨λ⟨⟨a,b⟩,c,d,e⟩=>⟨a,d,b,c,e⟩,λ⟨a,d,b,c,e⟩=>⟨⟨a,b⟩,c,d,e⟩⟩
theorem iJ{m:Str}:Dst G F s 0 m ↔ m∈F/\m≠s:=by
 constructor
 ·intro h;obtain⟨ps,a,b⟩:=h.ex;have:ps=[]:=List.length_eq_zero_iff.mp b;subst this;exact⟨a.2.1,h.ne⟩
 ·rintro⟨h1,h2⟩;exact⟨h2,⟨[],⟨trivial,h1,λ e he=>by simp at he⟩,rfl⟩,λ _ _=>Nat.zero_le _⟩
theorem gj{m:Str}{d:Nat}:Dst G F s (d+1) m ↔ m≠s/\(∀ d',d'<=d->¬ Dst G F s d' m)/\∃ e,G.gQ m e/\Dst G F s d e.2:=by
 constructor
 ·intro h;refine⟨h.ne,λ d' hd k=>by have:=fA h k;omega,?_⟩;obtain⟨ps,a,b⟩:=h.ex;cases ps with
  | nil=>cases b
  | cons e ps =>
   obtain⟨a1,a2,a3⟩:=dP.mp a;refine⟨e,a1,a2,⟨ps,a3,by simpa using b⟩,λ qs hq=>?_⟩;have:=h.le (e::qs) (dP.mpr ⟨a1,a2,hq⟩)
   simpa using this
 ·rintro⟨h1,h2,e,h3,h4⟩;obtain⟨ps,a,b⟩:=h4.ex;refine⟨h1,⟨e::ps,dP.mpr ⟨h3,h4.ne,a⟩,by simp[b]⟩,λ qs hq=>?_⟩;apply Classical.byContradiction;intro z;obtain⟨d',k1,k2⟩:=kC h1 _ qs rfl hq;exact h2 d' (by omega) k2
theorem n9{N:List Str}(hN:∀ d m,Dst G F s d m->m∈N):∀ {d:Nat} {m:Str},Dst G F s d m->∃ L:List Str,L.length=d+1/\L.Nodup/\∀ x∈L,x∈N/\∃ d',d'<=d/\Dst G F s d' x
 | 0,m,h=>⟨[m],rfl,by simp,λ x hx=>by rw[List.mem_singleton.mp hx];exact⟨hN _ _ h,0,Nat.le_refl _,h⟩⟩
 | d+1,m,h=>by
  obtain⟨_,_,e,_,k⟩:=gj.mp h;obtain⟨L,l1,l2,l3⟩:=n9 hN k;refine⟨m::L,by simp[l1],List.nodup_cons.mpr ⟨λ hm=>?_,l2⟩,λ x hx=>?_⟩
  ·obtain⟨_,d',h1,h2⟩:=l3 m hm;have:=fA h h2;omega
  ·rcases List.mem_cons.mp hx with rfl | hx
   ·exact⟨hN _ _ h,d+1,Nat.le_refl _,h⟩
   ·obtain⟨a,d',b,c⟩:=l3 x hx;exact⟨a,d',by omega,c⟩
theorem oe{N:List Str}(hN:∀ d m,Dst G F s d m->m∈N){d:Nat}{m:Str}(h:Dst G F s d m):d<N.length:=by obtain⟨L,l1,l2,l3⟩:=n9 hN h;have:=l2.length_le_of_subset λ x hx=>(l3 x hx).1;omega
end
theorem fZ{B:List Bth}{R:List Row3}{s:Str}(hR:∀ r∈R,r.2.2∈ao B):∀ d m,Dst (grB B R) (aN B R) s d m->m∈ao B
 | 0,m,h=>by obtain⟨h1,_⟩:=iJ.mp h;obtain⟨b,hb,rfl⟩:=List.mem_map.mp h1;exact List.mem_map.mpr ⟨b,(List.mem_filter.mp hb).1,rfl⟩
 | d+1,m,h=>by obtain⟨_,_,e,⟨k,h1,_⟩,_⟩:=gj.mp h;exact hR _ h1
structure StI(B:List Bth)(R:List Row3)(s:Str)(f:Nat)(P:List Row3)(N:List Str)(h:Str->Nat):Prop where
 nd:N.Nodup
 mem:∀ m∈N,Dst (grB B R) (aN B R) s (h m) m/\h m<=f+1
 low:∀ d m,d<=f->Dst (grB B R) (aN B R) s d m->m∈N
 via:∀ r∈P,r.2.2≠s->∀ o,Dst (grB B R) (aN B R) s f o->hasB R o r.2.1=false->r.2.2∈N
structure StF(B:List Bth)(R:List Row3)(s:Str)(N:List Str)(h:Str->Nat):Prop where
 nd:N.Nodup
 mem:∀ m∈N,Dst (grB B R) (aN B R) s (h m) m
 all:∀ d m,Dst (grB B R) (aN B R) s d m->m∈N
section
variable {B:List Bth}{R:List Row3}{s:Str}{f:Nat}{P:List Row3}{N:List Str}{h:Str->Nat}
theorem StI.zero(okB:OkB B):StI B R s 0 [] ((aN B R).filter λ z=>z != s) λ _=>0 where
 nd:=by
  have h:(aN B R).Nodup:=by
   unfold aN;exact(List.filter_sublist.map _).nodup okB.nd
  exact List.filter_sublist.nodup h
 mem m hm:=by obtain⟨h1,h2⟩:=List.mem_filter.mp hm;exact⟨iJ.mpr ⟨h1,by simpa using h2⟩,Nat.zero_le _⟩
 low d m hd h:=by
  have:d=0:=by omega
  subst this;obtain⟨h1,h2⟩:=iJ.mp h;exact List.mem_filter.mpr ⟨h1,by simpa using h2⟩
 via r hr:=by simp at hr
def lJ(R:List Row3)(N:List Str)(h:Str->Nat)(f:Nat)(k:Str):List Str:=N.filter λ o=>decide (h o=f)&&!hasB R o k
theorem o5(I:StI B R s f P N h){k:Str}:lJ R N h f k≠[] ↔ ∃ o,Dst (grB B R) (aN B R) s f o/\hasB R o k=false:=by
 constructor
 ·intro ne;obtain⟨o,ho⟩:=List.exists_mem_of_ne_nil _ ne;obtain⟨h1,h2⟩:=List.mem_filter.mp ho;simp only[Bool.and_eq_true,decide_eq_true_eq,Bool.not_eq_true'] at h2;exact⟨o,by rw[<- h2.1];exact(I.mem o h1).1,h2.2⟩
 ·rintro⟨o,h1,h2⟩;have ho:=I.low f o (Nat.le_refl _) h1;refine List.ne_nil_of_mem (List.mem_filter.mpr ⟨ho,?_⟩);rw[decide_eq_true (fA (I.mem o ho).1 h1),h2];rfl
theorem StI.skip(I:StI B R s f P N h){r:Row3}(n:r.2.2∈N\/r.2.2=s\/lJ R N h f r.2.1=[]):StI B R s f (P++[r]) N h:=
 ⟨I.nd,I.mem,I.low,λ x hx hs o ho hb=>by
  rcases List.mem_append.mp hx with hx | hx
  ·exact I.via x hx hs o ho hb
  ·rw[List.mem_singleton.mp hx] at hs hb ⊢;rcases n with n | n | n
   ·exact n
   ·exact absurd n hs
   ·exact absurd n ((o5 I).mpr ⟨o,ho,hb⟩)⟩
theorem StI.put(I:StI B R s f P N h)(hR:∀ r∈R,r.2.2∈ao B){r:Row3}(hr:r∈R)(n:r.2.2 ∉ N)(ns:r.2.2≠s)(nn:lJ R N h f r.2.1≠[]):StI B R s f (P++[r]) (N++[r.2.2]) (iB h r.2.2 (f+1)):=by
 obtain⟨o,h1,h2⟩:=(o5 I).mp nn;refine⟨List.nodup_append.mpr ⟨I.nd,by simp,λ a ha b hb e=>by rw[List.mem_singleton.mp hb] at e;exact n (e ▸ ha)⟩,λ m hm=>?_,λ d m hd k=>List.mem_append_left _ (I.low d m hd k),λ x hx hs o ho hb=>?_⟩
 ·rcases List.mem_append.mp hm with hm | hm
  ·rw[cH λ(e:m=r.2.2)=>n (by rw[<- e];exact hm)];exact I.mem m hm
  ·rw[List.mem_singleton.mp hm,df];exact⟨gj.mpr ⟨ns,λ d' hd k=>n (I.low d' _ hd k),(r.1,o),⟨r.2.1,hr,fZ hR _ _ h1,h2⟩,h1⟩,Nat.le_refl _⟩
 ·rcases List.mem_append.mp hx with hx | hx
  ·exact List.mem_append_left _ (I.via x hx hs o ho hb)
  ·exact List.mem_append_right _ (by rw[List.mem_singleton.mp hx];simp)
theorem StI.next(I:StI B R s f R N h):StI B R s (f+1) [] N h:=
 ⟨I.nd,λ m hm=>⟨(I.mem m hm).1,Nat.le_succ_of_le (I.mem m hm).2⟩,λ d m hd k=>by
  rcases Nat.lt_or_ge f d with z | z
  ·have:d=f+1:=by omega
   subst this;obtain⟨a,_,e,⟨kd,b1,_,b2⟩,c⟩:=gj.mp k;exact I.via _ b1 a e.2 c b2
  ·exact I.low d m z k,λ r hr=>by simp at hr⟩
theorem StI.fin(I:StI B R s f P N h)(hR:∀ r∈R,r.2.2∈ao B)(hf:B.length<=f):StF B R s N h:=
 ⟨I.nd,λ m hm=>(I.mem m hm).1,λ d m k=>I.low d m (by have:=oe (fZ hR) k;rw[List.length_map] at this;omega) k⟩
theorem StI.len(I:StI B R s f P N h)(hR:∀ r∈R,r.2.2∈ao B)(okB:OkB B):N.length<=8:=by have:=I.nd.length_le_of_subset λ x hx=>fZ hR _ _ (I.mem x hx).1;rw[List.length_map] at this;have:=okB.len;omega
end
def kdI(N:List Str)(h:Str->Nat):List (Key×PyData):=N.map λ z=>(.inr z,.int (h z:Nat))
theorem qC(N:List Str)(h:Str->Nat):cg (kdI N h)=kf N (nW h):=by unfold cg kdI kf;rw[List.map_map];rfl
theorem oR(N:List Str)(h:Str->Nat):dW (kdI N h)=N.map (W.d ∘ PyData.str):=by unfold dW kdI;rw[List.map_map];rfl
def cE:SpD:=λ ws M Q=>∃ (B:List Bth) (R:List Row3) (s:Str),ws=[.d (eh B),.d (bx R),.d (.str s)]/\OkB B/\OkR R/\(∀ r∈R,r.2.2∈ao B) /\
 ∀ c N h,M c=none->StF B R s N h->N.length<=8->Q (.m c) (ba M c (.dic (kf N (nW h))))
theorem nT:∀ ws M Q,cE ws M Q->ws.length=3:=by rintro ws M Q ⟨B,R,k,rfl,_⟩;rfl
def adF(B:List Bth)(R:List Row3)(s:Str)(c:Addr)(x4 x5 x6 x7 x8:Option W):DS:=[some (.d (eh B)),some (.d (bx R)),some (.d (.str s)),some (.m c),x4,x5,x6,x7,x8]
theorem xX(B:List Bth)(R:List Row3):(aN B R).length<=B.length:=by
 unfold aN;rw[List.length_map];exact List.length_filter_le _ _
theorem vg{k:Nat}{N:List Str}(h:∀ z∈N,gc z=true):okD (k+1) (.list (N.map PyData.str))=true:=cI λ d hd=>by obtain⟨z,hz,rfl⟩:=List.mem_map.mp hd;cases k<;>simp[okD,h z hz]
theorem mq:∀ ws M Q,cE ws M Q->ly bL aM {nx:=λ _ M'=>Q (.d .none) M',rt:=Q} (cf lp ws) M:=by
 rintro ws M Q ⟨B,R,s,rfl,okB,okR,hR,q⟩;have sl:1000000<=sizeLine:=by decide
 have f8:=Nat.le_trans (xX B R) okB.len;have b8:=okB.len;refine⟨_,rfl,_,rfl,B,R,rfl,okB,okR,_,rfl,?_⟩;rw[List.map_map];refine cT (aN B R) (W.d ∘ PyData.str) (λ z=>.tuple [.str z,.int 0]) (λ z=>z != s) (λ τ=>∃ x,τ=[x,some (.d (.str s))]) (λ M'=>M'=M) (by omega) ⟨_,rfl⟩ rfl (λ z hz τ M' hτ hM R' h=>?_) λ τ M1 hM=>?_
 ·obtain⟨x,rfl⟩:=hτ;subst hM;refine⟨_,rfl,_,rfl,_,_,.d,.d,rfl,_,rfl,?_⟩;have:=h [some (.d (.str z)),some (.d (.str s))] M' ⟨_,rfl⟩ rfl;rw[cy,show(!(z==s))=(z != s) from rfl];cases e:z != s with
  | false=>rw[e] at this;exact dF this
  | true=>rw[e] at this;exact fK ⟨_,rfl,[_,_],rfl,(show 2<=sizeLine by omega),_,rfl,this⟩
 subst hM;have i0:=StI.zero (B:=B) (R:=R) (s:=s) okB;have e0:((aN B R).filter λ z=>z != s).map (λ z=>PyData.tuple [.str z,.int 0])=(kdI ((aN B R).filter λ z=>z != s) λ _=>0).map D.pairD:=by unfold kdI;rw[List.map_map];rfl
 rw[e0];refine⟨_,_,rfl,.d,?_,λ c hc=>?_⟩
 ·unfold kdI;rw[List.map_map];exact List.pairwise_map.mpr (i0.nd.imp λ h e=>h (Sum.inr.inj e))
 rw[qC];refine⟨_,rfl,_,_,rfl,rfl,rfl,((B.map bD).length:Nat),rfl,by rw[List.length_map];omega,by rw[List.length_map];omega,λ f τ M'=>(∃ x4 x5 x6 x7 x8,τ=adF B R s c x4 x5 x6 x7 x8)/\∃ N h,StI B R s f [] N h/\M'=ba M1 c (.dic (kf N (nW h))),⟨⟨_,_,_,_,_,rfl⟩,_,_,i0,rfl⟩,λ f w τ M' hw ⟨⟨x4,x5,x6,x7,x8,e⟩,N,h,I,eM⟩=>?_,λ τ M' ⟨⟨x4,x5,x6,x7,x8,e⟩,N,h,I,eM⟩=>?_⟩
 ·subst e eM;obtain⟨hf,rfl⟩:=o9 hw;refine⟨_,rfl,_,rfl,λ i τ M'=>(∃ x5 x6 x7 x8,τ=adF B R s c (some (.d (.int (0+(f:Int))))) x5 x6 x7 x8)/\∃ N h,StI B R s f (R.take i) N h/\M'=ba M1 c (.dic (kf N (nW h))),⟨⟨_,_,_,_,rfl⟩,N,h,I,rfl⟩,λ i w τ M' hw ⟨⟨x5,x6,x7,x8,e⟩,N,h,I,eM⟩=>?_,λ τ M' ⟨⟨x5,x6,x7,x8,e⟩,N,h,I,eM⟩=>?_⟩
  ·subst e eM;rw[List.map_map] at hw;obtain⟨r,hr,rfl⟩:=dA hw;have hrm:=List.mem_of_getElem? hr;have tk:R.take (i+1)=R.take i++[r]:=by rw[List.take_add_one,hr];rfl
   have n8:=I.len hR okB;refine⟨_,rfl,rfl,_,_,rfl,_,_,rfl,_,_,rfl,rfl,?_⟩;refine⟨c,_,ag,_,rfl,c,kdI N h,rfl,by rw[ag,qC],?_⟩;rw[oR,bE];refine cT N (W.d ∘ PyData.str) PyData.str (λ o=>decide (h o=f)&&!hasB R o r.2.1) (λ τ=>∃ x,τ=[x,some (.m c),some (.d (.int (0+(f:Int)))),some (.d (bx R)),some (.d (.str r.2.1))]) (λ M'=>M'=ba M1 c (.fdic (kf N (nW h)))) (by omega) ⟨_,rfl⟩ rfl (λ o ho τ M' hτ hM R' hh=>?_) λ τ M2 hM=>?_
   ·obtain⟨x,rfl⟩:=hτ;subst hM;have:=hh [some (.d (.str o)),some (.m c),some (.d (.int (0+(f:Int)))),some (.d (bx R)),some (.d (.str r.2.1))] _ ⟨_,rfl⟩ rfl;refine⟨_,rfl,_,rfl,c,_,.inr o,_,rfl,.inr ag,rfl,d3 ho,_,rfl,_,_,.d,.d,rfl,_,rfl,?_⟩;rw[nU,show decide (((h o:Nat):Int)=0+(f:Int))=decide (h o=f) from decide_eq_decide.mpr (by omega)];cases e1:decide (h o=f) with
    | false=>rw[e1] at this;exact dF (dF this)
    | true =>
     rw[e1] at this;refine fK ⟨_,rfl,_,rfl,_,rfl,R,o,r.2.1,rfl,okR,_,rfl,?_⟩;cases e2:hasB R o r.2.1 with
     | true=>rw[e2] at this;exact dF this
     | false=>rw[e2] at this;exact fK ⟨_,rfl,_,rfl,this⟩
   subst hM;refine⟨ag,?_⟩;rw[bE];refine⟨_,rfl,_,rfl,_,.k (k:=.inr r.2.2) ag,_,rfl,?_⟩
   by_cases hN:r.2.2∈N
   ·rw[d3 hN];exact dF (dF ⟨⟨_,_,_,_,rfl⟩,N,h,by rw[tk];exact I.skip (.inl hN),rfl⟩)
   rw[vM hN];refine fK ⟨_,rfl,_,rfl,_,_,.d,.d,rfl,_,rfl,?_⟩;rw[cy]
   by_cases hs:r.2.2=s
   ·rw[beq_iff_eq.mpr hs];exact dF (dF ⟨⟨_,_,_,_,rfl⟩,N,h,by rw[tk];exact I.skip (.inr (.inl hs)),rfl⟩)
   rw[beq_eq_false_iff_ne.mpr hs];have wN:∀ z∈N,gc z=true:=λ z hz=>by obtain⟨b,hb,e⟩:=List.mem_map.mp (fZ hR _ _ (I.mem z hz).1);have:=okB.word b hb;rw[e] at this;exact this.1
   refine fK ⟨_,rfl,[],rfl,Nat.zero_le _,_,_,.d,.d,dH (k:=3) (by decide) (vg λ z hz=>wN z (List.mem_filter.mp hz).1) rfl,_,rfl,?_⟩;refine gh (λ e=>?_) λ e=>?_
   ·have nn:lJ R N h f r.2.1≠[]:=λ z=>by have e:(!PyData.eqv (.list ((lJ R N h f r.2.1).map PyData.str)) (.list []))=true:=e;rw[z] at e;cases e
    refine⟨_,rfl,.inl ⟨_,_,rfl,rfl,_,rfl,_,rfl,c,_,.inr r.2.2,rfl,ag,rfl,by rw[i6];omega,⟨_,_,_,_,rfl⟩,N++[r.2.2],iB h r.2.2 (f+1),by rw[tk];exact I.put hR hrm hN hs nn,?_⟩⟩;rw[bE];have e1:(0+(f:Int)+1)=((f+1:Nat):Int):=by omega
    have e2:kf N (nW h)=kf N (nW (iB h r.2.2 (f+1))):=kK λ z hz=>by show W.d (.int (h z:Nat))=W.d (.int (iB h r.2.2 (f+1) z:Nat));rw[cH λ(e:z=r.2.2)=>hN (by rw[<- e];exact hz)]
    have e3:=kL (f:=nW (iB h r.2.2 (f+1))) hN;rw[show nW (iB h r.2.2 (f+1)) r.2.2=W.d (.int ((f+1:Nat):Int)) by show W.d (.int (iB h r.2.2 (f+1) r.2.2:Nat))=_;rw[df]] at e3;dsimp only;rw[e1,e2,e3]
   ·have nn:lJ R N h f r.2.1=[]:=by
     have e:(!PyData.eqv (.list ((lJ R N h f r.2.1).map PyData.str)) (.list []))=false:=e;cases z:lJ R N h f r.2.1 with
     | nil=>rfl
     | cons a b=>rw[z] at e;cases e
    exact⟨⟨_,_,_,_,rfl⟩,N,h,by rw[tk];exact I.skip (.inr (.inr nn)),rfl⟩
  ·subst e eM;refine⟨⟨_,_,_,_,_,rfl⟩,N,h,?_,rfl⟩;rw[show R.take ((List.map W.d (List.map dZ R)).length)=R from List.take_of_length_le (by simp)] at I;exact I.next
 ·subst e eM;rw[show(hJ 0 (((B.map bD).length:Nat):Int).toNat).length=B.length by simp[hJ]] at I;exact⟨_,rfl,q c N h hc (I.fin hR (Nat.le_refl _)) (I.len hR okB)⟩
section
variable {G:Gr}{F:List Str}{s:Str}
structure Nx(G:Gr)(F:List Str)(s:Str)(c:Nat)(m:Str):Prop where
 ex:∃ e,G.gQ m e/\Dst G F s c e.2
 le:∀ e d,G.gQ m e->Dst G F s d e.2->c<=d
theorem adl{c:Nat}{m:Str}(h:Dst G F s (c+1) m):Nx G F s c m:=by obtain⟨_,_,he⟩:=gj.mp h;refine⟨he,λ e d h1 h2=>?_⟩;obtain⟨ps,a,b⟩:=h2.ex;have:=h.le (e::ps) (dP.mpr ⟨h1,h2.ne,a⟩);rw[List.length_cons] at this;omega
structure LT(G:Gr)(F:List Str)(s m:Str)(d:Nat)(rs:List Stp):Prop where
 is:G.esc F s m rs
 len:rs.length=d
 le:∀ qs,G.esc F s m qs->qs.length=d->leD (dg rs) (dg qs)
theorem zv{m:Str}(h:Dst G F s 0 m):LT G F s m 0 []:=
 ⟨⟨trivial,(iJ.mp h).1,λ e he=>by simp at he⟩,rfl,λ qs _ hq=>by have:qs=[]:=List.length_eq_zero_iff.mp hq;subst this;rfl⟩
abbrev stD(e:Stp):List PyData:=[.int e.1,.str e.2]
theorem lt_next{m:Str}{c:Nat}{e:Stp}{rs:List Stp}(h:Nx G F s c m)(he:G.gQ m e)(hd:Dst G F s c e.2)(least:∀ x,G.gQ m x->Dst G F s c x.2->leD (stD e) (stD x))(l:LT G F s e.2 c rs):LT G F s m (c+1) (e::rs):=by
 refine⟨dP.mpr ⟨he,hd.ne,l.is⟩,by rw[List.length_cons,l.len],λ qs hq hl=>?_⟩;cases qs with
 | nil=>cases hl
 | cons x qs =>
  obtain⟨a1,a2,a3⟩:=dP.mp hq;have hl:qs.length=c:=by simpa using hl
  obtain⟨d,h1,h2⟩:=kC a2 c qs hl a3;have:=h.le x d a1 h2;have e1:d=c:=by omega
  subst e1;have sx:S.Shape [false,true] (stD x):=⟨⟨_,rfl⟩,⟨_,rfl⟩,trivial⟩;have se:S.Shape [false,true] (stD e):=⟨⟨_,rfl⟩,⟨_,rfl⟩,trivial⟩;show S.bH (stD x++dg qs) (stD e++dg rs)=false;rcases mU (as:=dg qs) (bs:=dg rs) sx se with ⟨z,q⟩ | ⟨z,q⟩
  ·rw[q];have z1:x.2=e.2:=by
    injection z with z1 z2
    injection z2 with z2 z3
    injection z2
   exact l.le qs (by rw[<- z1];exact a3) hl
  ·rw[q];exact least x a1 h2
theorem su:∀ {s:Str} {ps:List Stp},ps≠[]->∃ e∈ps,fin s ps=e.2
 | s,[],h=>absurd rfl h
 | s,[e],_=>⟨e,by simp,rfl⟩
 | s,e::x::ps,_=>by obtain⟨y,h1,h2⟩:=su (s:=e.2) (ps:=x::ps) (by simp);exact⟨y,List.mem_cons_of_mem _ h1,h2⟩
theorem uf:∀ (n:Nat) (qs:List Stp),qs.length=n->G.to F s qs->∃ rs,G.esc F s s rs/\0<rs.length/\rs.length<=n/\(rs.length=n->rs=qs):=by
 intro n
 induction n using Nat.strongRecOn with
 | ind n ih =>
  rintro qs hn ⟨hw,hf,hne⟩
  by_cases z:∀ e∈qs,e.2≠s
  ·refine⟨qs,⟨hw,hf,z⟩,?_,by omega,λ _=>rfl⟩;rcases Nat.eq_zero_or_pos qs.length with e | e
   ·have:qs=[]:=List.length_eq_zero_iff.mp e;subst this;exact absurd rfl hne
   ·exact e
  ·obtain⟨e,he,hs⟩:∃ e∈qs,e.2=s:=by
    apply Classical.byContradiction;intro y;exact z λ e he hs=>y ⟨e,he,hs⟩
   obtain⟨a,b,rfl⟩:=List.append_of_mem he;rw[bS] at hf hne;have hf:fin e.2 b∈F:=hf;have hne:fin e.2 b≠s:=hne;have hw:=(aZ.mp hw).2.2;rw[hs] at hf hne hw;have hb:b.length<n:=by rw[<- hn];simp;omega
   obtain⟨rs,r1,r2,r3,_⟩:=ih _ hb b rfl ⟨hw,hf,hne⟩;exact⟨rs,r1,r2,by omega,λ k=>by omega⟩
theorem uw{c:Nat}{rs:List Stp}(h:Nx G F s c s)(l:LT G F s s (c+1) rs):eN (λ t qs=>t=s/\G.to F t qs) s rs:=by
 have ne:rs≠[]:=λ z=>by have:=l.len;rw[z] at this;cases this
 refine⟨⟨rfl,l.is.1,l.is.2.1,?_⟩,?_⟩
 ·obtain⟨e,he,h1⟩:=su (s:=s) ne;rw[h1];exact l.is.2.2 e he
 ·rintro t qs ⟨rfl,hq⟩;obtain⟨xs,x1,x2,x3,x4⟩:=uf _ qs rfl hq;have hl:c+1<=xs.length:=by
   cases xs with
   | nil=>cases x2
   | cons e xs =>
    obtain⟨a1,a2,a3⟩:=dP.mp x1;obtain⟨d,h1,h2⟩:=kC a2 _ xs rfl a3;have:=h.le e d a1 h2;rw[List.length_cons];omega
  have:=l.len;refine⟨by omega,λ e=>?_⟩;have e2:=x4 (by omega);subst e2;rw[leD,ou];exact l.le xs x1 (by omega)
theorem acy:(∃ c,Nx G F s c s)\/∀ e d,G.gQ s e->¬ Dst G F s d e.2:=by
 by_cases z:∃ c e,G.gQ s e/\Dst G F s c e.2
 ·left;obtain⟨c,hc⟩:=z;have main:∀ n,(∃ e,G.gQ s e/\Dst G F s n e.2)->∃ c,Nx G F s c s:=by
   intro n
   induction n using Nat.strongRecOn with
   | ind n ih =>
    intro hn
    by_cases y:∃ k,k<n/\∃ e,G.gQ s e/\Dst G F s k e.2
    ·obtain⟨k,h1,h2⟩:=y;exact ih k h1 h2
    ·refine⟨n,hn,λ e d h1 h2=>?_⟩;apply Classical.byContradiction;intro x;exact y ⟨d,by omega,e,h1,h2⟩
  exact main c hc
 ·right;intro e d h1 h2;exact z ⟨d,e,h1,h2⟩
theorem acM(h:∀ e d,G.gQ s e->¬ Dst G F s d e.2)(ps:List Stp):¬ G.to F s ps:=λ hq=>by
 obtain⟨xs,x1,x2,_⟩:=uf _ ps rfl hq;cases xs with
 | nil=>cases x2
 | cons e xs =>
  obtain⟨a1,a2,a3⟩:=dP.mp x1;obtain⟨d,_,h2⟩:=kC a2 _ xs rfl a3;exact h e d a1 h2
end
abbrev Cnd:=Nat×Int×Str
def mI(x:Cnd):List PyData:=[.int (x.1:Nat),.int x.2.1,.str x.2.2]
abbrev uG(x:Cnd):PyData:=.tuple (mI x)
def zS(R:List Row3)(N:List Str)(s:Str)(ps:List Stp)(k:Str):List Str:=N.filter λ o=>!hasB R o k&&!jC s ps o
def mG(R:List Row3)(N:List Str)(h:Str->Nat)(s:Str)(ps:List Stp)(r:Row3):List Cnd:=if r.2.2==fin s ps then (zS R N s ps r.2.1).map λ o=>(h o,r.1,o) else []
def n6(R:List Row3)(N:List Str)(h:Str->Nat)(s:Str)(ps:List Stp):List Cnd:=R.flatMap (mG R N h s ps)
theorem nG{R:List Row3}{N:List Str}{h:Str->Nat}{s:Str}{ps:List Stp}{x:Cnd}:x∈n6 R N h s ps ↔ ∃ k,(x.2.1,k,fin s ps)∈R/\x.2.2∈N/\hasB R x.2.2 k=false/\jC s ps x.2.2=false/\x.1=h x.2.2:=by
 unfold n6;rw[List.mem_flatMap];unfold mG zS;constructor
 ·rintro⟨r,hr,hx⟩
  by_cases e:r.2.2=fin s ps
  ·rw[if_pos (beq_iff_eq.mpr e)] at hx;obtain⟨o,ho,rfl⟩:=List.mem_map.mp hx;obtain⟨h1,h2⟩:=List.mem_filter.mp ho;simp only[Bool.and_eq_true,Bool.not_eq_true'] at h2;exact⟨r.2.1,by dsimp only;rw[<- e];exact hr,h1,h2.1,h2.2,rfl⟩
  ·rw[if_neg λ z=>e (beq_iff_eq.mp z)] at hx;cases hx
 ·rintro⟨k,h1,h2,h3,h4,h5⟩;refine⟨_,h1,?_⟩;rw[if_pos (beq_iff_eq.mpr rfl)];refine List.mem_map.mpr ⟨x.2.2,List.mem_filter.mpr ⟨h2,by rw[h3,h4];rfl⟩,?_⟩;rw[<- h5]
structure FrI(B:List Bth)(R:List Row3)(s:Str)(j:Nat)(ps:List Stp):Prop where
 len:ps.length=j
 walk:Gr.walk (grB B R) s ps
 nx:(∃ c,c+j<B.length/\Nx (grB B R) (aN B R) s c (fin s ps)/\(∀ x∈ps,∃ d,c+1<=d/\Dst (grB B R) (aN B R) s d x.2) /\
  ∀ rs,LT (grB B R) (aN B R) s (fin s ps) (c+1) rs->eN (λ t qs=>t=s/\Gr.to (grB B R) (aN B R) t qs) s (ps++rs)) \/
  ps=[]/\∀ e d,Gr.gQ (grB B R) s e->¬ Dst (grB B R) (aN B R) s d e.2
section
variable {B:List Bth}{R:List Row3}{s:Str}{j:Nat}{ps:List Stp}{N:List Str}{h:Str->Nat}
theorem FrI.zero(hR:∀ r∈R,r.2.2∈ao B):FrI B R s 0 []:=by
 refine⟨rfl,trivial,?_⟩;rcases acy (G:=grB B R) (F:=aN B R) (s:=s) with ⟨c,hc⟩ | hn
 ·refine .inl ⟨c,?_,hc,λ x hx=>by simp at hx,λ rs l=>uw hc l⟩;obtain⟨e,_,he⟩:=hc.ex;have:=oe (fZ hR) he;rw[List.length_map] at this;exact this
 ·exact .inr ⟨rfl,hn⟩
theorem iF(hR:∀ r∈R,r.2.2∈ao B)(F:StF B R s N h){x:Cnd}(hx:x∈n6 R N h s ps):Gr.gQ (grB B R) (fin s ps) x.2/\Dst (grB B R) (aN B R) s x.1 x.2.2:=by obtain⟨k,h1,h2,h3,h4,h5⟩:=nG.mp hx;have hd:=F.mem _ h2;rw[h5];exact⟨⟨k,h1,fZ hR _ _ hd,h3⟩,hd⟩
theorem FrI.none(I:FrI B R s j ps)(F:StF B R s N h)(e:n6 R N h s ps=[])(qs:List Stp):¬ Gr.to (grB B R) (aN B R) s qs:=by
 rcases I.nx with ⟨c,_,nx,vis,_⟩ | ⟨rfl,hn⟩
 ·exfalso
  obtain⟨x,⟨k,h1,h2,h3⟩,hd⟩:=nx.ex;have:((h x.2,x.1,x.2):Cnd)∈n6 R N h s ps:=nG.mpr ⟨k,h1,F.all _ _ hd,h3,?_,rfl⟩
  ·rw[e] at this;cases this
  ·cases z:jC s ps x.2 with
   | false=>rfl
   | true =>
    exfalso
    rcases List.mem_cons.mp (gG.mp z) with y | y
    ·exact hd.ne y
    ·obtain⟨w,hw,e2⟩:=List.mem_map.mp y;obtain⟨d,h1,h2⟩:=vis w hw;rw[e2] at h2;have:=fA h2 hd;omega
 ·exact acM hn qs
theorem FrI.next(I:FrI B R s j ps)(hR:∀ r∈R,r.2.2∈ao B)(F:StF B R s N h){x:Cnd}(hx:x∈n6 R N h s ps)(hl:∀ y∈n6 R N h s ps,S.bH (mI y) (mI x)=false) :
  (x.1=0->eN (λ t qs=>t=s/\Gr.to (grB B R) (aN B R) t qs) s (ps++[x.2]))/\(x.1≠0->FrI B R s (j+1) (ps++[x.2])):=by
 obtain⟨he,hd⟩:=iF hR F hx;rcases I.nx with ⟨c,hc,nx,vis,P⟩ | ⟨rfl,hn⟩
 ·have nv:∀ z,Dst (grB B R) (aN B R) s c z->jC s ps z=false:=λ y hy=>by
   cases z:jC s ps y with
   | false=>rfl
   | true =>
    exfalso
    rcases List.mem_cons.mp (gG.mp z) with y2 | y2
    ·exact hy.ne y2
    ·obtain⟨w,hw,e2⟩:=List.mem_map.mp y2;obtain⟨d,h1,h2⟩:=vis w hw;rw[e2] at h2;have:=fA h2 hy;omega
  have mem:∀ e,Gr.gQ (grB B R) (fin s ps) e->Dst (grB B R) (aN B R) s c e.2->((c,e.1,e.2):Cnd)∈n6 R N h s ps:=λ e ⟨k,h1,h2,h3⟩ hd=>by have hN:=F.all _ _ hd;exact nG.mpr ⟨k,h1,hN,h3,nv _ hd,fA hd (F.mem _ hN)⟩
  have xc:x.1=c:=by
   obtain⟨e,h1,h2⟩:=nx.ex;have l1:=hl _ (mem e h1 h2);have l2:=nx.le x.2 x.1 he hd
   by_cases z:c<x.1
   ·exfalso
    have ne:((c:Nat):Int)≠(x.1:Nat):=by omega
    have:S.bH (mI (c,e.1,e.2)) (mI x)=decide (((c:Nat):Int)<(x.1:Nat)):=by simp[mI,S.bH,S.sEq,S.sLt,ne]
    rw[this] at l1;have:=of_decide_eq_false l1;omega
   ·omega
  subst xc;have least:∀ e,Gr.gQ (grB B R) (fin s ps) e->Dst (grB B R) (aN B R) s x.1 e.2->leD (stD x.2) (stD e):=λ e h1 h2=>by
   have l1:=hl _ (mem e h1 h2);have:S.bH (mI (x.1,e.1,e.2)) (mI x)=S.bH (stD e) (stD x.2):=by simp[mI,stD,S.bH,S.sEq]
   rw[this] at l1;exact l1
  refine⟨λ e0=>?_,λ e0=>?_⟩
  ·exact P [x.2] (lt_next nx he hd least (by rw[e0] at hd ⊢;exact zv hd))
  ·obtain⟨c',e1⟩:∃ c',x.1=c'+1:=⟨x.1-1,by omega⟩;refine⟨by simp[I.len],aZ.mpr ⟨I.walk,he,trivial⟩,.inl ⟨c',by omega,?_,λ y hy=>?_,λ rs l=>?_⟩⟩
   ·rw[bS];rw[e1] at hd;exact adl hd
   ·rcases List.mem_append.mp hy with hy | hy
    ·obtain⟨d,h1,h2⟩:=vis y hy;exact⟨d,by omega,h2⟩
    ·rw[List.mem_singleton.mp hy];exact⟨x.1,by omega,hd⟩
   ·rw[bS] at l;have l:LT (grB B R) (aN B R) s x.2.2 (c'+1) rs:=l;rw[<- e1] at l;have:=P _ (lt_next nx he hd least l)
    rwa[List.append_assoc]
 ·exact absurd hd (hn _ _ he)
theorem FrI.lt(I:FrI B R s j ps)(h0:0<B.length):j<B.length:=by
 rcases I.nx with ⟨c,hc,_⟩ | ⟨e,_⟩
 ·omega
 ·have:=I.len;rw[e] at this;exact this ▸ h0
end
def c4:SpD:=λ ws M Q=>∃ (B:List Bth) (R:List Row3) (s:Str) (c:Addr) (N:List Str) (h:Str->Nat),ws=[.d (eh B),.d (bx R),.d (.str s),.m c]/\OkB B/\OkR R/\(∀ r∈R,r.2.2∈ao B)/\s∈ao B/\M c=some (.dic (kf N (nW h)))/\StF B R s N h /\
 (∀ ps,eN (λ t qs=>t=s/\Gr.to (grB B R) (aN B R) t qs) s ps->cF ps->ps.length<=8->Q (.d (.tuple (aU s ps))) M)/\((∀ ps,¬ Gr.to (grB B R) (aN B R) s ps)->Q (.d .none) M)
theorem pJ:∀ ws M Q,c4 ws M Q->ws.length=4:=by rintro ws M Q ⟨B,R,s,c,N,h,rfl,_⟩;rfl
def yP(B:List Bth)(R:List Row3)(s:Str)(c:Addr)(ps:List Stp)(x5 x6 x7 x8 x9 x10:Option W):DS:=[some (.d (eh B)),some (.d (bx R)),some (.d (.str s)),some (.m c),some (.d (fG (s,ps))),x5,x6,x7,x8,x9,x10]
theorem sk{α β:Type}(f:α->List β)(L:List α)(i:Nat):((L.take i).flatMap f).length<=(L.flatMap f).length:=by
 conv=>rhs;rw[<- List.take_append_drop i L,List.flatMap_append,List.length_append]
 omega
theorem nr:∀ ws M Q,c4 ws M Q->ot aM {nx:=λ _ M'=>Q (.d .none) M',rt:=Q} (cf og ws) M:=by
 rintro ws M Q ⟨B,R,s,c,N,h,rfl,okB,okR,hR,hsN,hc,F,qy,qn⟩;have sl:1000000<=sizeLine:=by decide
 have b8:=okB.len;have r2:=okR.len;have wB:∀ z∈ao B,gc z=true/\z.length<=8:=λ z hz=>by obtain⟨b,hb,e⟩:=List.mem_map.mp hz;have:=okB.word b hb;rw[e] at this;exact this
 have hN:∀ z∈N,z∈ao B:=λ z hz=>fZ hR _ _ (F.mem z hz);have n8:N.length<=8:=by have:=F.nd.length_le_of_subset hN;rw[List.length_map] at this;omega
 have b0:0<B.length:=by obtain⟨b,hb,_⟩:=List.mem_map.mp hsN;exact List.length_pos_of_mem hb
 refine⟨_,rfl,[_],rfl,(show 1<=sizeLine by omega),_,rfl,_,_,rfl,rfl,rfl,((B.map bD).length:Nat),rfl,by rw[List.length_map];omega,by rw[List.length_map];omega,λ j τ M'=>M'=M/\∃ ps x5 x6 x7 x8 x9 x10,τ=yP B R s c ps x5 x6 x7 x8 x9 x10/\FrI B R s j ps,⟨rfl,[],_,_,_,_,_,_,rfl,FrI.zero hR⟩,λ j w τ M' hw ⟨hM,ps,x5,x6,x7,x8,x9,x10,e,I⟩=>?_,λ τ M' ⟨hM,ps,x5,x6,x7,x8,x9,x10,e,I⟩=>?_⟩
 ·subst e hM;have okps:cF ps:=kO okB okR I.walk;have jl:=I.lt b0;have pl:=I.len;have oc:∀ k,(zS R N s ps k).length<=8:=λ k=>Nat.le_trans (List.length_filter_le _ _) n8;have c8:∀ r,(mG R N h s ps r).length<=8:=λ r=>by
   unfold mG
   split
   ·rw[List.length_map];exact oc _
   ·exact Nat.zero_le _
  have cl:(n6 R N h s ps).length<=1600:=by have:=kB (f:=mG R N h s ps) (l:=R) λ r _=>c8 r;unfold n6;omega
  refine⟨[],rfl,Nat.zero_le _,_,rfl,_,rfl,λ i τ M2=>M2=M'/\∃ x7 x8 x9 x10,τ=yP B R s c ps (some w) (some (.d (.list (((R.take i).flatMap (mG R N h s ps)).map uG)))) x7 x8 x9 x10,⟨rfl,_,_,_,_,rfl⟩,λ i w' τ M2 hw' ⟨hM,x7,x8,x9,x10,e⟩=>?_,λ τ M2 ⟨hM,x7,x8,x9,x10,e⟩=>?_⟩
  ·subst e hM;rw[List.map_map] at hw';obtain⟨r,hr,rfl⟩:=dA hw';have hrm:=List.mem_of_getElem? hr;have tk:R.take (i+1)=R.take i++[r]:=by rw[List.take_add_one,hr];rfl
   have et:(R.take (i+1)).flatMap (mG R N h s ps)=(R.take i).flatMap (mG R N h s ps)++mG R N h s ps r:=by rw[tk,List.flatMap_append,List.flatMap_singleton]
   refine⟨_,rfl,rfl,_,_,rfl,_,_,rfl,_,_,rfl,rfl,?_⟩;have ix:ixW M2 (.d (fG (s,ps))) (-1)=some (.d (.str (fin s ps))):=by show(atI (aU s ps) (-1)).map W.d=_;rw[sE];rfl
   refine⟨_,rfl,_,rfl,_,rfl,-1,_,rfl,ix,rfl,_,_,.d,.d,rfl,_,rfl,?_⟩;rw[cy];cases hf:r.2.2==fin s ps with
   | false =>
    refine dF ⟨rfl,some (.d (.int r.1)),some (.d (.str r.2.1)),some (.d (.str r.2.2)),x10,?_⟩;rw[et,show mG R N h s ps r=[] by unfold mG;rw[hf];rfl,List.append_nil];rfl
   | true =>
    have e0:mG R N h s ps r=(zS R N s ps r.2.1).map λ o=>(h o,r.1,o):=by unfold mG;rw[hf];rfl
    refine fK ⟨c,_,hc,_,rfl,c,kdI N h,rfl,by rw[ag,qC],?_⟩;rw[oR];refine cT N (W.d ∘ PyData.str) PyData.str (λ o=>!hasB R o r.2.1&&!jC s ps o) (λ τ=>∃ x,τ=[x,some (.d (bx R)),some (.d (.str r.2.1)),some (.d (fG (s,ps)))]) (λ M3=>M3=ba M2 c (.fdic (kf N (nW h)))) (by omega) ⟨_,rfl⟩ rfl (λ o ho τ M3 hτ hM R' hh=>?_) λ τ M3 hM=>?_
    ·obtain⟨x,rfl⟩:=hτ;subst hM;have:=hh [some (.d (.str o)),some (.d (bx R)),some (.d (.str r.2.1)),some (.d (fG (s,ps)))] _ ⟨_,rfl⟩ rfl;have io:wX (.str o) (aU s ps)=true:=by
      unfold wX;rw[eV (k:=0) (by decide) (d:=.str o) (wB o (hN o ho)).1,eV (k:=1) (by decide) (d:=.list (aU s ps)) (cI (dQ (wB s hsN).1 okps))];rfl
     refine⟨_,rfl,_,rfl,_,rfl,R,o,r.2.1,rfl,okR,_,rfl,?_⟩;cases e1:hasB R o r.2.1 with
     | true=>rw[e1] at this;exact dF (dF this)
     | false =>
      rw[e1] at this;refine fK ⟨_,rfl,_,rfl,.str o,aU s ps,.d,.inr rfl,io,_,rfl,?_⟩;rw[nJ];cases e2:jC s ps o with
      | true=>rw[e2] at this;exact dF this
      | false=>rw[e2] at this;exact fK ⟨_,rfl,_,rfl,this⟩
    subst hM;refine⟨ag,?_⟩;rw[bE,kD hc];have b1:=sk (mG R N h s ps) R i;have ol:=oc r.2.1;have bc:((R.take i).flatMap (mG R N h s ps)).length<=1600:=by unfold n6 at cl;omega
    refine⟨_,rfl,_,rfl,_,rfl,?_⟩;rw[List.map_map];refine mY (zS R N s ps r.2.1) (W.d ∘ PyData.str) (λ o=>uG (h o,r.1,o)) (λ τ=>∃ x,τ=[x,some (.m c),some (.d (.int r.1))]) (by omega) ⟨_,rfl⟩ (λ o ho τ hτ R' hh=>?_) λ τ=>?_
    ·obtain⟨x,rfl⟩:=hτ;have:=hh [some (.d (.str o)),some (.m c),some (.d (.int r.1))] ⟨_,rfl⟩;exact⟨_,rfl,_,rfl,c,_,.inr o,_,rfl,.inl hc,rfl,d3 (List.mem_filter.mp ho).1,_,rfl,_,rfl,[_,_,_],rfl,(show 3<=sizeLine by omega),_,rfl,this⟩
    ·refine⟨_,_,.d,.d,?_,rfl,some (.d (.int r.1)),some (.d (.str r.2.1)),some (.d (.str r.2.2)),some (.d (.list ((zS R N s ps r.2.1).map PyData.str))),?_⟩
     ·rw[List.length_map,List.length_map];omega
     ·rw[et,e0];simp only[yP,List.map_append,List.map_map];rfl
  subst e hM;rw[show R.take ((List.map W.d (List.map dZ R)).length)=R from List.take_of_length_le (by simp)];show(bo _ _) _ _ _;generalize hC:R.flatMap (mG R N h s ps)=C0;have hC':n6 R N h s ps=C0:=hC;have okC:okD 3 (.list (C0.map uG))=true:=cI λ d hd=>by obtain⟨x,hx,rfl⟩:=List.mem_map.mp hd;rw[<- hC'] at hx;obtain⟨⟨k,h1,h2,_⟩,h3⟩:=iF hR F hx;have a1:=okR.num _ h1;have a2:=oe (fZ hR) h3;rw[List.length_map] at a2;have a3:=(wB _ h2).1;simp[uG,mI,okD,okA,a3];omega
  refine⟨_,rfl,[],rfl,Nat.zero_le _,_,_,.d,.d,dH (k:=3) (by decide) okC rfl,_,rfl,?_⟩;refine gh (λ e=>?_) λ e=>?_
  ·have e0:C0=[]:=by
    have e:PyData.eqv (.list (C0.map uG)) (.list [])=true:=e;cases z:C0 with
    | nil=>rfl
    | cons a b=>rw[z] at e;cases e
   exact qn λ qs=>I.none F (hC'.trans e0) qs
  ·have ne:C0≠[]:=λ z=>by have e:PyData.eqv (.list (C0.map uG)) (.list [])=false:=e;rw[z] at e;cases e
   have sh:∀ x:Cnd,S.Shape [false,false,true] (mI x):=λ x=>⟨⟨_,rfl⟩,⟨_,rfl⟩,⟨_,rfl⟩,trivial⟩;have mn:∀ (M:MH) (Q':QD),(∀ x∈n6 R N h s ps,(∀ y∈n6 R N h s ps,S.bH (mI y) (mI x)=false)->Q' (.d (uG x)) M)->jb [.d (.list (C0.map uG))] M Q':=λ M Q' hq=>by
    refine⟨_,C0.map mI,S.bH,rfl,?_,λ z=>ne (List.map_eq_nil_iff.mp z),fB (sh:=[false,false,true]) (λ r hr=>?_) (λ r hr=>?_),λ r hr least=>?_⟩
    ·have:(C0.map mI).map PyData.tuple=C0.map uG:=by rw[List.map_map];rfl
     rw[this];exact .d
    ·obtain⟨x,_,rfl⟩:=List.mem_map.mp hr;exact sh x
    ·obtain⟨x,hx,rfl⟩:=List.mem_map.mp hr;rw[<- hC'] at hx;obtain⟨⟨k,h1,h2,_⟩,h3⟩:=iF hR F hx;have a1:=okR.num _ h1;have a2:=oe (fZ hR) h3;rw[List.length_map] at a2;have a3:=(wB _ h2).1;intro y hy;have p1:((x.1:Nat):Int).natAbs<2 ^ 100:=Nat.lt_of_lt_of_le (by omega:((x.1:Nat):Int).natAbs<10000) (by decide);have p2:x.2.1.natAbs<2 ^ 100:=Nat.lt_of_lt_of_le (by have:=a1.1;have:=a1.2;omega:x.2.1.natAbs<10000) (by decide);simp only[mI,List.mem_cons,List.not_mem_nil,or_false] at hy;rcases hy with rfl | rfl | rfl
     ·simpa [okD] using p1
     ·simpa [okD] using p2
     ·simpa [okD] using a3
    ·obtain⟨x,hx,rfl⟩:=List.mem_map.mp hr;rw[hC'] at hq;exact hq x hx λ y hy=>least _ (List.mem_map.mpr ⟨y,hy,rfl⟩)
   refine⟨_,rfl,_,rfl,?_⟩;unfold aF;refine mn _ _ λ x hx hl=>?_;obtain⟨k1,k2⟩:=I.next hR F hx hl;obtain⟨he,hd⟩:=iF hR F hx;have ok1:cF (ps++[x.2]):=gq okps λ e he2=>by rw[List.mem_singleton.mp he2];obtain⟨k,h1,h2,_⟩:=he;have:=okR.num _ h1;exact⟨this.1,this.2,wB _ h2⟩
   refine⟨1,rfl,.d (.tuple [.int x.2.1,.str x.2.2]),rfl,rfl,aU s ps,_,rfl,rfl,(λ z=>by cases z),?_,?_⟩
   ·rw[de];show 1+2 * ps.length+2<=sizeLine;omega
   rw[show aU s ps++[.int x.2.1,.str x.2.2]=aU s (ps++[x.2]) from(oz s ps x.2).symm];refine⟨_,rfl,?_⟩;dsimp only;refine mn _ _ λ y hy hl2=>?_;have exy:y=x:=by
    have:=S.gm (sh y) (sh x) (hl y hy) (hl2 x hx)
    injection this with e1 e2
    injection e2 with e2 e3
    injection e3 with e3 e4
    injection e1 with e1
    injection e2 with e2
    injection e3 with e3
    have e1:((y.1:Nat):Int)=(x.1:Nat):=e1;exact Prod.ext (by omega) (Prod.ext e2 e3)
   subst exy;refine⟨0,.d (.int (y.1:Nat)),rfl,rfl,rfl,_,_,.d,.d,rfl,_,rfl,?_⟩;rw[nU];refine gh (λ e=>?_) λ e=>?_
   ·have e:=of_decide_eq_true e;exact⟨_,rfl,qy _ (k1 (by omega)) ok1 (by rw[List.length_append,List.length_singleton];omega)⟩
   ·have e:=of_decide_eq_false e;exact⟨rfl,ps++[y.2],_,_,_,_,_,_,rfl,k2 (by omega)⟩
 ·subst e hM
  exfalso
  have:=I.lt b0;simp[hJ] at this
def xC(z:Str):Option (List Stp)->PyData
 | none=>.none
 | some ps=>.tuple (aU z ps)
def oW(f:Str->Option (List Stp)):Str->W:=λ z=>.d (xC z (f z))
def kdO(N:List Str)(f:Str->Option (List Stp)):List (Key×PyData):=N.map λ z=>(.inr z,xC z (f z))
theorem abG(N:List Str)(f:Str->Option (List Stp)):cg (kdO N f)=kf N (oW f):=by unfold cg kdO kf;rw[List.map_map];rfl
theorem vS(N:List Str)(f:Str->Option (List Stp)):dW (kdO N f)=N.map (W.d ∘ PyData.str):=by unfold dW kdO;rw[List.map_map];rfl
structure xH(B:List Bth)(R:List Row3)(N:List Str)(f:Str->Option (List Stp)):Prop where
 yes:∀ z∈N,∀ ps,f z=some ps->eN (λ t qs=>t=z/\Gr.to (grB B R) (aN B R) t qs) z ps/\cF ps/\ps.length<=8
 no:∀ z∈N,f z=none->∀ ps,¬ Gr.to (grB B R) (aN B R) z ps
def cC:SpD:=λ ws M Q=>∃ (B:List Bth) (R:List Row3) (k:Str) (c:Addr) (f:Str->Option (List Stp)),ws=[.d (bx R),.m c,.d (.str k)]/\OkB B/\OkR R/\M c=some (.dic (kf (ao B) (oW f)))/\xH B R (ao B) f /\
 (∀ M' s ps,Ext M M'->eN (eF B R k) s ps->cF ps->ps.length<=8->s∈ao B->Q (.d (.tuple (aU s ps))) M')/\∀ M',Ext M M'->(∀ s ps,¬ eF B R k s ps)->Q (.d .none) M'
theorem nh:∀ ws M Q,cC ws M Q->ws.length=3:=by rintro ws M Q ⟨B,R,k,c,f,rfl,_⟩;rfl
theorem ow{B:List Bth}(okB:OkB B):OkN (ao B):=⟨by rw[List.length_map];exact okB.len,okB.nd,λ z hz=>by obtain⟨b,hb,rfl⟩:=List.mem_map.mp hz;exact okB.word b hb⟩
theorem xo{p:Way}(h1:gc p.1=true)(h2:cF p.2)(h3:p.2.length<=8):okD 3 (.tuple (iR p))=true:=by
 have l:okD 2 (.int ((aU p.1 p.2).length:Nat))=true:=by
  rw[de];have:(((1+2 * p.2.length:Nat):Int)).natAbs<2 ^ 100:=Nat.lt_of_lt_of_le (by omega:(((1+2 * p.2.length:Nat):Int)).natAbs<1000) (by decide)
  simpa [okD] using this
 have w:okD 2 (.tuple (aU p.1 p.2))=true:=cI (dQ h1 h2);refine cI λ d hd=>?_;simp only[iR,List.mem_cons,List.not_mem_nil,or_false] at hd;rcases hd with rfl | rfl
 ·exact l
 ·exact w
theorem lu:∀ ws M Q,cC ws M Q->lz aM {nx:=λ _ M'=>Q (.d .none) M',rt:=Q} (cf lK ws) M:=by
 rintro ws M Q ⟨B,R,k,c,f,rfl,okB,okR,hc,wf,qy,qn⟩;have sl:1000000<=sizeLine:=by decide
 have okN:=ow okB;refine⟨Nat.zero_le _,λ w hw=>?_⟩;have cw:c≠w:=λ e=>by rw[e,hw] at hc;cases hc
 refine⟨c,_,by rw[aw cw];exact hc,_,rfl,c,kdO (ao B) f,rfl,by rw[ag,abG],?_⟩;rw[vS];refine⟨λ i τ M'=>∃ W0 x4,τ=[some (.d (bx R)),some (.m c),some (.d (.str k)),some (.m w),x4]/\qw (grB B R) (aN B R) ((ao B).take i) k W0/\(∀ p∈W0,cF p.2/\p.2.length<=8)/\W0.length<=i/\M'=ba (ba M c (.fdic (kf (ao B) (oW f)))) w (.lst ((W0.map λ p=>PyData.tuple (iR p)).map W.d)),
  ⟨[],_,rfl,⟨λ p hp=>by simp at hp,λ s hs=>by simp at hs⟩,λ p hp=>by simp at hp,Nat.zero_le _,?_⟩,λ i v τ M' hv ⟨W0,x4,e,ways,ok,hl,eM⟩=>?_,λ τ M' ⟨W0,x4,e,ways,ok,hl,eM⟩=>?_⟩
 ·funext q;unfold ba
  by_cases h1:q=c
  ·subst h1;simp[cw]
  ·simp[h1]
 ·subst e eM;obtain⟨s,hs,rfl⟩:=dA hv;have hsN:=List.mem_of_getElem? hs;have hi:i<8:=Nat.lt_of_lt_of_le (List.getElem?_eq_some_iff.mp hs).1 okN.len;have tk:(ao B).take (i+1)=(ao B).take i++[s]:=by rw[List.take_add_one,hs];rfl
  have hcf:ba (ba M c (.fdic (kf (ao B) (oW f)))) w (.lst ((W0.map λ p=>PyData.tuple (iR p)).map W.d)) c=some (.fdic (kf (ao B) (oW f))):=by rw[aw cw,ag]
  refine⟨_,rfl,_,rfl,c,_,.inr s,_,rfl,.inr hcf,rfl,d3 hsN,rfl,_,rfl,?_⟩;cases hf:f s with
  | none =>
   have e1:(xor true (isNone (oW f s)))=false:=by unfold oW;rw[hf];rfl
   rw[e1];exact dF (dF ⟨W0,_,rfl,by rw[tk];exact ways.skip λ _=>wf.no s hsN hf,ok,Nat.le_succ_of_le hl,rfl⟩)
  | some ps =>
   have e1:(xor true (isNone (oW f s)))=true:=by unfold oW;rw[hf];rfl
   rw[e1];obtain⟨y1,y2,y3⟩:=wf.yes s hsN ps hf;refine fK ⟨_,rfl,_,rfl,_,rfl,R,s,k,rfl,okR,_,rfl,?_⟩;cases hB:hasB R s k with
   | true=>exact dF ⟨W0,_,rfl,by rw[tk];exact ways.skip λ h=>(by rw[show(grB B R).has s k=hasB R s k from rfl,hB] at h;cases h),ok,Nat.le_succ_of_le hl,rfl⟩
   | false =>
    have es:oW f s=.d (.tuple (aU s ps)):=by unfold oW;rw[hf];rfl
    refine fK ⟨_,rfl,w,_,rfl,ag,_,rfl,_,rfl,c,_,.inr s,_,rfl,.inr hcf,rfl,d3 hsN,?_⟩;rw[es];refine⟨_,_,rfl,rfl,rfl,_,rfl,_,rfl,c,_,.inr s,_,rfl,.inr hcf,rfl,d3 hsN,?_⟩;rw[es];refine⟨[_,_],rfl,(show 2<=sizeLine by omega),_,ag,by rw[List.length_map,List.length_map];omega,W0++[(s,ps)],_,rfl,by rw[tk];exact ways.put hB y1,λ p hp=>?_,by rw[List.length_append,List.length_singleton];omega,?_⟩
    ·rcases List.mem_append.mp hp with hp | hp
     ·exact ok p hp
     ·rw[List.mem_singleton.mp hp];exact⟨y2,y3⟩
    ·rw[bE,List.map_append,List.map_append];rfl
 ·subst e eM;rw[show(ao B).take ((List.map (W.d ∘ PyData.str) (ao B)).length)=ao B from List.take_of_length_le (by simp)] at ways;refine⟨by rw[aw cw,ag],?_⟩;generalize hMf:ba (ba (ba M c (.fdic (kf (ao B) (oW f)))) w (.lst ((W0.map λ p=>PyData.tuple (iR p)).map W.d))) c (.dic (kf (ao B) (oW f)))=Mf;have xf:Ext M Mf:=λ q o e=>by
   rw[<- hMf]
   by_cases h1:q=c
   ·subst h1;rw[ag,<- e,hc]
   ·rw[aw h1,aw (λ h=>by rw[h,hw] at e;cases e),aw h1];exact e
  have hwf:Mf w=some (.lst ((W0.map λ p=>PyData.tuple (iR p)).map W.d)):=by rw[<- hMf,aw cw.symm,ag]
  have key:∀ p∈W0,gc p.1=true/\cF p.2/\p.2.length<=8:=λ p hp=>⟨(okN.word _ (ways.is p hp).1).1,ok p hp⟩;have okL:okD 4 (.list (W0.map λ p=>PyData.tuple (iR p)))=true:=cI λ d hd=>by obtain⟨p,hp,rfl⟩:=List.mem_map.mp hd;obtain⟨a,b,c⟩:=key p hp;exact xo a b c
  refine⟨_,rfl,[],rfl,Nat.zero_le _,_,_,.l hwf,.d,dH (k:=4) (by decide) okL rfl,_,rfl,?_⟩;refine gh (λ e=>?_) λ e=>?_
  ·have ne:W0≠[]:=λ z=>by rw[z] at e;cases e
   refine⟨_,rfl,_,W0.map iR,ltK,rfl,?_,λ z=>ne (List.map_eq_nil_iff.mp z),oZ λ r hr=>?_,λ r hr least=>?_⟩
   ·have:(W0.map iR).map PyData.tuple=W0.map λ p=>PyData.tuple (iR p):=by rw[List.map_map];rfl
    rw[this];exact .m hwf
   ·obtain⟨p,hp,rfl⟩:=List.mem_map.mp hr;exact⟨p,rfl,key p hp⟩
   ·obtain⟨p,hp,rfl⟩:=List.mem_map.mp hr;refine⟨1,_,rfl,rfl,rfl,?_⟩;exact qy _ p.1 p.2 xf (ways.least hp λ x hx=>by rw[<- eT];exact least _ (List.mem_map.mpr ⟨x,hx,rfl⟩)) (ok p hp).1 (ok p hp).2 (ways.is p hp).1
  ·have e0:W0=[]:=by
    cases z:W0 with
    | nil=>rfl
    | cons a b=>rw[z] at e;cases e
   subst e0;exact qn _ xf ways.none
def xQ(B:List Bth)(R:List Row3)(k:Str)(d:PyData):Prop:=
 (∃ s ps,d=.tuple (aU s ps)/\eN (eF B R k) s ps/\cF ps/\ps.length<=8)\/(d=.none/\∀ s ps,¬ eF B R k s ps)
theorem oT{B:List Bth}{R:List Row3}{k:Str}{d d':PyData}(h:xQ B R k d)(h':xQ B R k d'):d'=d:=by
 rcases h with ⟨s,ps,rfl,l,_⟩ | ⟨rfl,n⟩<;>rcases h' with ⟨s',ps',rfl,l',_⟩ | ⟨rfl,n'⟩
 ·obtain⟨e1,e2⟩:=qe l l';rw[e1,e2]
 ·exact absurd l.1 (n' _ _)
 ·exact absurd l'.1 (n _ _)
 ·rfl
theorem wA{B:List Bth}{R:List Row3}{k:Str}{d:PyData}(okB:OkB B)(h:xQ B R k d):okD 2 d=true/\eS d=true:=by
 rcases h with ⟨s,ps,rfl,l,ok,l8⟩ | ⟨rfl,n⟩
 ·have hs:=(ow okB).word s l.1.1;have h1:okD 2 (.tuple (aU s ps))=true:=cI (dQ hs.1 ok);refine⟨h1,rB (k:=2) (by decide) h1 ?_⟩;have h2:sW (aU s ps)<=(aU s ps).length * (2000+2):=tM λ x hx=>by
   rcases List.mem_cons.mp hx with rfl | hx
   ·show 10 * s.length+2<=2000;have:=hs.2;omega
   ·obtain⟨e,he,h2⟩:=List.mem_flatMap.mp hx;obtain⟨_,_,_,c⟩:=ok e he;simp only[List.mem_cons,List.not_mem_nil,or_false] at h2;rcases h2 with rfl | rfl
    ·exact Nat.le_refl _
    ·show 10 * e.2.length+2<=2000;omega
  rw[de] at h2;show sW (aU s ps)+3<=1000000;omega
 ·exact⟨rfl,by decide⟩
def Exb(p:Addr)(M M':MH):Prop:=∀ q o,q≠p->M q=some o->M' q=some o
theorem Exb.refl(p:Addr)(M:MH):Exb p M M:=λ _ _ _ h=>h
theorem Exb.trans{p:Addr}{A B C:MH}(h:Exb p A B)(k:Exb p B C):Exb p A C:=λ q o n e=>k q o n (h q o n e)
theorem Exb.of{p:Addr}{M M':MH}(h:∀ q,q≠p->M' q=M q):Exb p M M':=λ q o n e=>by rw[h q n];exact e
theorem Exb.ext{p:Addr}{M M':MH}(h:Ext M M'):Exb p M M':=λ q o _ e=>h q o e
theorem Exb.upd{p:Addr}{M M':MH}{a:Addr}{o:MO}(h:Exb p M M')(ha:M a=none):Exb p M (ba M' a o):=λ q u n e=>by rw[aw λ z=>by rw[z,ha] at e;cases e];exact h q u n e
theorem Exb.del{p:Addr}{M M':MH}{a:Addr}(h:Exb p M M')(ha:M a=none):Exb p M (iY M' a):=λ q u n e=>by
 have hq:q≠a:=λ z=>by rw[z,ha] at e;cases e
 simp only[iY,if_neg hq];exact h q u n e
theorem Exb.none{p:Addr}{M M':MH}{q:Addr}(h:Exb p M M')(n:q≠p)(hq:M' q=none):M q=none:=by
 cases e:M q with
 | none=>rfl
 | some o=>rw[h q o n e] at hq;cases hq
theorem pq{M:MH}{p q:Addr}(b:Bag M p)(h:M q=none):p≠q:=λ e=>by obtain⟨o,ho⟩:=aaP b;rw[e,h] at ho;cases ho
theorem wj{M:MH}{p:Addr}(b:Bag M p)(h:fk M):aP≠p:=λ e=>by obtain⟨a,b,c,ns,h1,_⟩:=b;rw[<- e,h] at h1;cases h1
theorem cR{α:Type}(xs:List α)(lo hi:Option Int):(D.cutD xs lo hi).Sublist xs:=(List.take_sublist _ _).trans (List.drop_sublist _ _)
theorem i9(xs:List Str)(lo hi:Option Int):D.cutD (xs.map PyData.str) lo hi=(D.cutD xs lo hi).map PyData.str:=by
 unfold D.cutD;rw[List.map_take,List.map_drop,List.length_map]
theorem acN:∀ k<8,gc (nmB 0 k)=true/\(nmB 0 k).length<=8:=by decide +kernel
theorem acX:((List.range 8).map (nmB 0)).Nodup:=by decide +kernel
theorem wH{B:List Bth}(hl:B.length<=8)(h:∀ (j:Nat) (r:Bth),B[j]? =some r->r.1=nmB 0 j/\0<=r.2/\r.2<=10):OkB B:=by
 have at':∀ r∈B,∃ j,j<B.length/\B[j]? =some r:=λ r hr=>by obtain⟨j,hj,e⟩:=List.getElem_of_mem hr;exact⟨j,hj,by rw[List.getElem?_eq_getElem hj,e]⟩
 refine⟨hl,?_,λ r hr=>?_,λ r hr=>?_⟩
 ·have e:(B.map λ r=>r.1)=(List.range B.length).map (nmB 0):=by
   refine List.ext_getElem? λ j=>?_;rw[List.getElem?_map,List.getElem?_map];cases q:B[j]? with
   | none =>
    have:=List.getElem?_eq_none_iff.mp q;rw[List.getElem?_eq_none (by simpa using this)];rfl
   | some r =>
    have:=(List.getElem?_eq_some_iff.mp q).1;rw[List.getElem?_range this];simp[(h j r q).1]
  rw[e];refine acX.sublist (List.Sublist.map _ ?_);rw[show(8:Nat)=B.length+(8-B.length) from by omega,List.range_add];exact List.sublist_append_left _ _
 ·obtain⟨j,hj,e⟩:=at' r hr;rw[(h j r e).1];exact acN j (by omega)
 ·obtain⟨j,hj,e⟩:=at' r hr;exact(h j r e).2
structure qz(B:List Bth)(R:List Row3)(num:Int)(n:Nat):Prop where
 len:R.length<=n
 bnd:0<=num/\num<=4 * (n:Int)
 row:∀ r∈R,0<=r.1/\r.1<=num
 word:∀ r∈R,gc r.2.1=true/\r.2.1.length<=8/\r.2.2∈ao B
theorem qz.ok{B:List Bth}{R:List Row3}{num:Int}{n:Nat}(h:qz B R num n)(okB:OkB B)(hn:n<=200):OkR R:=
 ⟨Nat.le_trans h.len hn,λ r hr=>by have h1:=h.row r hr;have h2:=h.bnd;omega,λ r hr=>by obtain⟨a,b,c⟩:=h.word r hr;have:=(ow okB).word _ c;exact⟨a,this.1,b,this.2⟩⟩
theorem qz.put{B:List Bth}{R:List Row3}{num:Int}{n:Nat}(h:qz B R num n){d:Int}{k m:Str}(h0:0<=d)(h1:d<3)(hk:gc k=true/\k.length<=8)(hm:m∈ao B):qz B (R++[(num+1+d,k,m)]) (num+1+d) (n+1):=by
 have hb:=h.bnd;refine⟨by rw[List.length_append,List.length_singleton];have:=h.len;omega,by omega,λ r hr=>?_,λ r hr=>?_⟩
 ·rcases List.mem_append.mp hr with hr | hr
  ·have:=h.row r hr;omega
  ·rw[List.mem_singleton.mp hr];dsimp only;omega
 ·rcases List.mem_append.mp hr with hr | hr
  ·exact h.word r hr
  ·rw[List.mem_singleton.mp hr];exact⟨hk.1,hk.2,hm⟩
theorem qz.mono{B:List Bth}{R:List Row3}{num:Int}{n m:Nat}(h:qz B R num n)(hm:n<=m):qz B R num m:=
 ⟨Nat.le_trans h.len hm,by have h2:=h.bnd;omega,h.row,h.word⟩
def K8:List Str:=["a", "back", "ma", "front", "mbb", "side", "w", "zz"]
theorem acQ:∀ z∈K8,gc z=true/\z.length<=8:=by decide +kernel
def uo(p:Addr)(B:List Bth)(K:List Str)(x3 x4 x5 x6 x7 x8 x9 x10:Option W):DS:=[some (.m p),some (.d (eh B)),some (.d (.list (K.map PyData.str))),x3,x4,x5,x6,x7,x8,x9,x10]
def aI:SpD:=λ ws M Q=>∃ p:Addr,ws=[.m p]/\Bag M p/\fk M/\∀ M',Bag M' p->fk M'->Q (.d (.bool true)) M'
theorem g8:∀ ws M Q,aI ws M Q->ws.length=1:=by rintro ws M Q ⟨p,rfl,_⟩;rfl
theorem gM:∀ ws M Q,aI ws M Q->ff aD c4 cE cC aL {nx:=λ _ M'=>Q (.d .none) M',rt:=Q} (cf fh ws) M:=by
 rintro ws M Q ⟨p,rfl,b0,hC0,q⟩;have s16':=s16;have cp:=wj b0 hC0;refine⟨_,rfl,p,3,rfl,b0,by decide,by decide,λ n M1 n0 n1 b1 f1=>.inl ⟨_,_,rfl,rfl,6+n,rfl,by omega,by omega,?_⟩⟩;have x1:Exb p M M1:=Exb.of f1;refine⟨λ i acc τ M'=>i<=(6+n).toNat/\Bag M' p/\Exb p M M'/\∃ B:List Bth,B.length=i/\(∀ (j:Nat) (r:Bth),B[j]? =some r->r.1=nmB 0 j/\0<=r.2/\r.2<=10)/\acc=B.map bD/\∃ x,τ=[x,some (.m p)],⟨Nat.zero_le _,b1,x1,[],rfl,λ j r h=>by simp at h,rfl,_,rfl⟩,?_,?_⟩
 ·rintro i v acc τ M' hv ⟨hi,b3,x3,B,hl,hB,rfl,x,rfl⟩;obtain⟨hlt,rfl⟩:=o9 hv;refine⟨by rw[List.length_map];omega,?_⟩;refine⟨_,rfl,_,_,rfl,jJ (i:=i) (by omega) (by rw[show("abcdefgh" : Str).length=8 from by decide +kernel];omega),by decide +kernel,_,rfl,_,_,rfl,rfl,(show(0:Int)<2 by decide),.inl ⟨_,_,rfl,rfl,_,_,rfl,rfl,rfl,by omega,by omega,.inr ⟨_,_,rfl,rfl,?_,?_⟩⟩⟩
  ·have:=yL 0 (by decide) i (by omega);unfold xj at this;have e:(yB 0) = "m":= rfl;rw[e] at this;omega
  ·refine⟨_,rfl,p,6,rfl,b3,by decide,by decide,λ c M4 c0 c1 b4 f4=>.inl ⟨_,_,rfl,rfl,_,rfl,few (by simp),_,rfl,?_⟩⟩;refine⟨by omega,b4,x3.trans (Exb.of f4),B++[(nmB 0 i,1+c)],by rw[List.length_append,hl];rfl,λ j r h=>?_,by rw[List.map_append];rfl,_,rfl⟩;rw[List.getElem?_append] at h
   split at h
   ·exact hB j r h
   ·have:j=i:=by have:=(List.getElem?_eq_some_iff.mp h).1;simp at this;omega
    subst this;rw[hl,Nat.sub_self] at h;cases h;exact⟨rfl,by dsimp only;omega,by dsimp only;omega⟩
 rintro acc τ M2 ⟨hi,b2,x2,B,hl,hB,rfl,x,rfl⟩;have b8:B.length<=8:=by omega
 have okB:=wH b8 hB;have okN:=ow okB;clear hB hl hi f1 b1 x1;refine⟨K8.map PyData.str,rfl,few (by decide),_,rfl,p,5,rfl,b2,by decide,by decide,λ m M3 m0 m1 b3 f3=>.inl ⟨_,_,rfl,rfl,_,rfl,_,rfl,rfl,?_⟩⟩;have x3:=x2.trans (Exb.of f3);rw[i9];have hK:∀ z∈D.cutD K8 none (some (4+m)),gc z=true/\z.length<=8:=λ z hz=>acQ z ((cR _ _ _).subset hz);have kl:(D.cutD K8 none (some (4+m))).length<=8:=(cR K8 _ _).length_le;have k0:0<(D.cutD K8 none (some (4+m))).length:=by rw[show(4+m)=((m.toNat+4:Nat):Int) from by omega,n4 (by show _<=8;omega),List.length_take];show 0<min _ 8;omega
 generalize D.cutD K8 none (some (4+m))=K at *;refine⟨Nat.zero_le _,λ a ha=>⟨_,_,rfl,?_⟩⟩;have pa:p≠a:=pq b3 ha;have ha0:M a=none:=x3.none pa.symm ha;refine⟨_,rfl,_,rfl,λ i τ M'=>Bag M' p/\Exb p M M'/\∃ R num x5 x6 x7 x8,τ=uo p B K (some (.m a)) (some (.d (.int num))) x5 x6 x7 x8 none none/\M' a=some (.lst ((R.map dZ).map W.d))/\qz B R num (16 * i),
  ⟨dJ b3 (aw pa),x3.upd ha0,[],0,_,_,_,_,rfl,ag,Nat.le_refl _,by decide,λ r hr=>by simp at hr,λ r hr=>by simp at hr⟩,λ i w τ M' hw ⟨b4,x4,R,num,x5,x6,x7,x8,e,h1,I⟩=>?_,λ τ M4 ⟨b4,x4,R,num,x5,x6,x7,x8,e,h1,I⟩=>?_⟩
 ·subst e;rw[List.map_map] at hw;obtain⟨b,hb,rfl⟩:=dA hw;have hi:=(List.getElem?_eq_some_iff.mp hb).1;have hbN:b.1∈ao B:=List.mem_map.mpr ⟨b,List.mem_of_getElem? hb,rfl⟩;refine⟨_,rfl,rfl,_,_,rfl,_,_,rfl,rfl,?_⟩;refine⟨_,rfl,_,rfl,_,_,rfl,rfl,rfl,p,_,rfl,b4,by rw[List.length_map];omega,by rw[List.length_map];omega,λ t M5 t0 t1 b5 f5=>?_⟩;have x5':=x4.trans (Exb.of f5);have h5:M5 a=some (.lst ((R.map dZ).map W.d)):=by rw[f5 a pa.symm];exact h1
  refine⟨_,rfl,_,rfl,_,rfl,_,rfl,rfl,_,rfl,_,rfl,_,rfl,_,rfl,rfl,_,_,.d,.d,?_,?_⟩
  ·have a1:=(cR (K.map PyData.str) (some t) none).length_le;have a2:=(cR (K.map PyData.str) none (some t)).length_le;rw[List.length_map] at a1 a2;omega
  refine⟨_,rfl,_,rfl,p,5,rfl,b5,by decide,by decide,λ v M6 v0 v1 b6 f6=>⟨_,_,.d,.d,rfl,.inr ⟨_,rfl,_,_,rfl,rfl,_,rfl,_,rfl,rfl,?_⟩⟩⟩;have x6':=x5'.trans (Exb.of f6);have h6:M6 a=some (.lst ((R.map dZ).map W.d)):=by rw[f6 a pa.symm];exact h5
  rw[i9,i9,<- List.map_append,i9];generalize hL:D.cutD (D.cutD K (some t) none++D.cutD K none (some t)) none _=L;have lL:L.length<=16:=by rw[<- hL];refine Nat.le_trans (cR _ _ _).length_le ?_;rw[List.length_append];have a1:=(cR K (some t) none).length_le;have a2:=(cR K none (some t)).length_le;omega
  have hLK:∀ z∈L,gc z=true/\z.length<=8:=λ z hz=>by
   rw[<- hL] at hz;rcases List.mem_append.mp ((cR _ _ _).subset hz) with hz | hz
   ·exact hK z ((cR _ _ _).subset hz)
   ·exact hK z ((cR _ _ _).subset hz)
  clear hL;refine⟨_,rfl,λ j τ M'=>j<=L.length/\Bag M' p/\Exb p M M'/\∃ R num x8,τ=uo p B K (some (.m a)) (some (.d (.int num))) (some (.d (.str b.1))) (some (.d (.int b.2))) (some (.d (.int t))) x8 none none/\M' a=some (.lst ((R.map dZ).map W.d))/\qz B R num (16 * i+j),
   ⟨Nat.zero_le _,b6,x6',R,num,_,rfl,h6,I⟩,λ j w τ M' hw ⟨hj,b7,x7',R,num,x8,e,h7,I⟩=>?_,λ τ M' ⟨hj,b7,x7',R,num,x8,e,h7,I⟩=>?_⟩
  ·subst e;rw[List.map_map] at hw;obtain⟨z,hz,rfl⟩:=dA hw;have hj':=(List.getElem?_eq_some_iff.mp hz).1;refine⟨_,rfl,.inl ⟨_,_,rfl,rfl,_,rfl,p,2,rfl,b7,by decide,by decide,λ d M8 d0 d1 b8' f8=>.inl ⟨_,_,rfl,rfl,?_⟩⟩⟩;have h8:M8 a=some (.lst ((R.map dZ).map W.d)):=by rw[f8 a pa.symm];exact h7
   have hlen:=I.len;refine⟨_,rfl,a,_,rfl,h8,_,rfl,_,rfl,_,rfl,_,rfl,few (by simp),_,h8,by rw[List.length_map,List.length_map];omega,by omega,dJ b8' (aw pa),(x7'.trans (Exb.of f8)).upd ha0,R++[(num+1+d,z,b.1)],num+1+d,_,rfl,?_,I.put d0 (by omega) (hLK z (List.mem_of_getElem? hz)) hbN⟩;rw[ag,List.map_append,List.map_append];rfl
  ·subst e;exact⟨b7,x7',R,num,_,_,_,_,rfl,h7,I.mono (by omega)⟩
 subst e;have il:16 * (List.map W.d (List.map bD B)).length<=200:=by rw[List.length_map,List.length_map];omega
 have okR:=I.ok okB il;have hR:∀ r∈R,r.2.2∈ao B:=λ r hr=>(I.word r hr).2.2;refine⟨a,R.map dZ,rfl,h1,λ w hw=>?_⟩;have pw:p≠w:=pq (M:=iY M4 a) (by obtain⟨a1,a2,a3,ns,h1',h2'⟩:=b4;exact⟨a1,a2,a3,ns,by simp only[iY,if_neg pa];exact h1',h2'⟩) hw
 have b5:Bag (ba (iY M4 a) w (.dic [])) p:=dJ b4 (by rw[aw pw];simp only[iY,if_neg pa]);have x5':Exb p M (iY M4 a):=x4.del ha0;have w0:M w=none:=x5'.none pw.symm hw;refine⟨_,rfl,_,rfl,λ i τ M'=>Bag M' p/\Exb p M M'/\∃ f x5 x6,τ=uo p B K (some (.d (bx R))) (some (.d (.int num))) x5 x6 x7 x8 (some (.m w)) none/\M' w=some (.dic (kf ((ao B).take i) (oW f)))/\xH B R ((ao B).take i) f,
  ⟨b5,x5'.upd w0,λ _=>none,_,_,rfl,ag,⟨λ z hz=>by simp at hz,λ z hz=>by simp at hz⟩⟩,λ i v τ M' hv ⟨b6,x6',f,x5,x6,e,h6,wf⟩=>?_,λ τ M5 ⟨b6,x6',f,x5,x6,e,h6,wf⟩=>?_⟩
 ·subst e;rw[List.map_map] at hv;obtain⟨b,hb,rfl⟩:=dA hv;have hz:(ao B)[i]? =some b.1:=by rw[List.getElem?_map,hb];rfl
  have hbN:=List.mem_of_getElem? hz;have tk:(ao B).take (i+1)=(ao B).take i++[b.1]:=by rw[List.take_add_one,hz];rfl
  have nin:b.1 ∉ (ao B).take i:=rS okB.nd hz;have kl:(kf ((ao B).take i) (oW f)).length<sizeLine:=by rw[i6,List.length_take,List.length_map];omega
  refine⟨_,rfl,rfl,_,_,rfl,_,_,rfl,rfl,?_⟩;refine⟨_,rfl,_,rfl,_,rfl,_,rfl,_,rfl,_,rfl,B,R,b.1,rfl,okB,okR,hR,λ c N h hc F n8=>?_⟩;have cw:w≠c:=λ e=>by rw[<- e,h6] at hc;cases hc
  have pc:p≠c:=pq b6 hc;have c0:M c=none:=x6'.none pc.symm hc;have h6':ba M' c (.dic (kf N (nW h))) w=some (.dic (kf ((ao B).take i) (oW f))):=by rw[aw cw];exact h6
  have done:∀ o:Option (List Stp),(∀ ps,o=some ps->eN (λ t qs=>t=b.1/\Gr.to (grB B R) (aN B R) t qs) b.1 ps/\cF ps/\ps.length<=8)->(o=none->∀ ps,¬ Gr.to (grB B R) (aN B R) b.1 ps) ->
    ba (ba M' c (.dic (kf N (nW h)))) w (.dic (qA (kf ((ao B).take i) (oW f)) (.inr b.1) (.d (xC b.1 o)))) w=some (.dic (kf ((ao B).take (i+1)) (oW (iB f b.1 o))))/\xH B R ((ao B).take (i+1)) (iB f b.1 o):=λ o hy hn=>by
   constructor
   ·have e2:kf ((ao B).take i) (oW f)=kf ((ao B).take i) (oW (iB f b.1 o)):=kK λ z hz=>by show W.d (xC z (f z))=W.d (xC z (iB f b.1 o z));rw[cH λ(e:z=b.1)=>nin (by rw[<- e];exact hz)]
    have e3:=kL (f:=oW (iB f b.1 o)) nin;rw[show oW (iB f b.1 o) b.1=W.d (xC b.1 o) by show W.d (xC b.1 (iB f b.1 o b.1))=_;rw[df]] at e3;rw[ag,e2,e3,tk]
   ·rw[tk];refine⟨λ z hz ps e=>?_,λ z hz e=>?_⟩
    ·rcases List.mem_append.mp hz with hz | hz
     ·rw[cH λ(e:z=b.1)=>nin (by rw[<- e];exact hz)] at e;exact wf.yes z hz ps e
     ·rw[List.mem_singleton.mp hz] at e ⊢;rw[df] at e;exact hy ps e
    ·rcases List.mem_append.mp hz with hz | hz
     ·rw[cH λ(e:z=b.1)=>nin (by rw[<- e];exact hz)] at e;exact wf.no z hz e
     ·rw[List.mem_singleton.mp hz] at e ⊢;rw[df] at e;exact hn e
  have b7:∀ o,Bag (ba (ba M' c (.dic (kf N (nW h)))) w o) p:=λ o=>dJ b6 (by rw[aw pw,aw pc]);have x7':∀ o,Exb p M (ba (ba M' c (.dic (kf N (nW h)))) w o):=λ o=>(x6'.upd c0).upd w0;refine⟨B,R,b.1,c,N,h,rfl,okB,okR,hR,hbN,ag,F,λ ps l ok l8=>?_,λ no=>?_⟩
  ·obtain⟨d1,d2⟩:=done (some ps) (λ qs e=>by cases e;exact⟨l,ok,l8⟩) (λ e=>by cases e);exact⟨_,rfl,_,rfl,w,_,.inr b.1,rfl,h6',rfl,kl,b7 _,x7' _,_,_,_,rfl,d1,d2⟩
  ·obtain⟨d1,d2⟩:=done none (λ qs e=>by cases e) (λ _=>no);exact⟨_,rfl,_,rfl,w,_,.inr b.1,rfl,h6',rfl,kl,b7 _,x7' _,_,_,_,rfl,d1,d2⟩
 subst e;rw[show(ao B).take ((List.map W.d (List.map bD B)).length)=ao B from List.take_of_length_le (by simp)] at h6 wf;refine⟨_,rfl,[_],rfl,few (by simp),_,_,.d,.d,?_,?_⟩
 ·rw[List.length_map];show K.length+1<=sizeLine;omega
 refine⟨_,rfl,λ i τ M'=>Bag M' p/\Exb p M M'/\M' w=some (.dic (kf (ao B) (oW f)))/\∃ x8 x10,τ=uo p B K (some (.d (bx R))) (some (.d (.int num))) x5 x6 x7 x8 (some (.m w)) x10,⟨b6,x6',h6,_,_,rfl⟩,λ i v τ M' hv ⟨b7,x7',h7,x8,x10,e⟩=>?_,λ τ M' ⟨b7,x7',h7,x8,x10,e⟩=>?_⟩
 ·subst e;have hv':((K++(["other"]:List Str)).map (W.d ∘ PyData.str))[i]? =some v:=by rw[<- hv];simp
  obtain⟨k,hk,rfl⟩:=dA hv';have rest:∀ (M2:MH) (d:PyData),Ext M' M2->xQ B R k d->dIf (aG (dOp dy (dCB cA (ae (bI aL (ae (fV (dCB cJ (ae (af 1) (aF)))) (ae (fV (dCB cJ (ae (af 3) (aF)))) (ae (af 8) (aF))))) (aF))) (dCB cA (ae (af 10) (aF)))))
    (fJ (dC (.d (.bool false)))) (cN) {nx:=λ τ M'=>Bag M' p/\Exb p M M'/\M' w=some (.dic (kf (ao B) (oW f)))/\∃ x8 x10,τ=uo p B K (some (.d (bx R))) (some (.d (.int num))) x5 x6 x7 x8 (some (.m w)) x10,rt:=Q} (uo p B K (some (.d (bx R))) (some (.d (.int num))) x5 x6 x7 (some (.d (.str k))) (some (.m w)) (some (.d d))) M2:=λ M2 d x hd=>by
   obtain⟨_,rd⟩:=wA okB hd;have go:∀ M5 d',Ext M2 M5->xQ B R k d'->(dCB cA (ae (dC (.d d')) aF)) (uo p B K (some (.d (bx R))) (some (.d (.int num))) x5 x6 x7 (some (.d (.str k))) (some (.m w)) (some (.d d))) M5 λ w1 M1=>(dCB cA (ae (af 10) aF)) (uo p B K (some (.d (bx R))) (some (.d (.int num))) x5 x6 x7 (some (.d (.str k))) (some (.m w)) (some (.d d))) M1 λ w2 M2=>dy w1 w2 M2 λ w3 M3=>∃ kk,w3=.d (.bool kk)/\if kk=true then Q (.d (.bool false)) M3 else Bag M3 p/\Exb p M M3/\M3 w=some (.dic (kf (ao B) (oW f)))/\∃ x8 x10,(uo p B K (some (.d (bx R))) (some (.d (.int num))) x5 x6 x7 (some (.d (.str k))) (some (.m w)) (some (.d d)))=uo p B K (some (.d (bx R))) (some (.d (.int num))) x5 x6 x7 x8 (some (.m w)) x10:=λ M5 d' x' hd'=>by have e:=oT hd hd';subst e;refine⟨_,_,rfl,.d,rd,_,rfl,_,_,rfl,.d,rd,_,_,.d,.d,rfl,_,rfl,?_⟩;rw[cy,beq_self_eq_true];exact dF ⟨Ext.bag (x.trans x') b7,x7'.trans (Exb.ext (x.trans x')),(x.trans x') _ _ h7,_,_,rfl⟩
   refine⟨_,rfl,_,_,rfl,.l,λ q1 hq1=>⟨q1,_,rfl,ag,_,rfl,_,_,rfl,.l,λ q2 hq2=>⟨q2,_,rfl,ag,_,rfl,?_⟩⟩⟩;have y:=(sealed (o:=.lst ((B.map bD).map W.d)) hq1).trans (sealed (o:=.lst ((R.map dZ).map W.d)) hq2);refine⟨B,R,k,rfl,okB,okR,hR,y _ _ (x _ _ (x7' _ _ cp hC0)),λ M5 s ps z l ok l8=>?_,λ M5 z no=>?_⟩
   ·exact go M5 _ (y.trans z) (.inl ⟨s,ps,rfl,l,ok,l8⟩)
   ·exact go M5 _ (y.trans z) (.inr ⟨rfl,no⟩)
  refine⟨_,rfl,_,rfl,_,rfl,B,R,k,w,f,rfl,okB,okR,h7,wf,λ M2 s ps x l ok l8 _=>?_,λ M2 x no=>?_⟩
  ·exact rest M2 _ x (.inl ⟨s,ps,rfl,l,ok,l8⟩)
  ·exact rest M2 _ x (.inr ⟨rfl,no⟩)
 ·subst e;exact q M' b7 (x7' _ _ cp hC0)
theorem nO{M:MH}{l:Addr}{o:MO}(h:M l=none):iY (ba M l o) l=M:=by
 funext b;unfold iY ba
 by_cases e:b=l
 ·subst e;simp[h]
 ·simp[e]
theorem zz{R:List Row3}{m z k:Str}{n:Int}(h:∀ x,lg R x<=3)(hm:lg R m<3):lg (R++[(n,k,m)]) z<=3:=by
 have:=h z;unfold lg at *;rw[List.filter_append,List.length_append]
 by_cases e:m=z
 ·subst e;have:(List.filter (λ r:Row3=>r.2.2==m) [(n,k,m)]).length<=1:=List.length_filter_le _ _;omega
 ·have:List.filter (λ r:Row3=>r.2.2==z) [(n,k,m)]=[]:=by simp[e]
  rw[this];simp only[List.length_nil];omega
def kdN(K:List Str)(n:Int):List (Key×PyData):=K.map λ z=>(.inr z,.int n)
theorem abV(K:List Str)(n:Int):cg (kdN K n)=kf K λ _=>.d (.int n):=by unfold cg kdN kf;rw[List.map_map];rfl
def cD:SpD:=λ ws M Q=>∃ (p:Addr) (B:List Bth) (d:Addr) (K:List Str) (n:Int),ws=[.m p,.d (eh B),.m d]/\Bag M p/\OkB B/\(∀ b∈B,b.2<=3)/\M d=some (.dic (kf K λ _=>.d (.int n)))/\0<K.length/\K.length<=8/\(∀ z∈K,gc z=true/\z.length<=8) /\
 ∀ R a M',OkR R->(∀ r∈R,r.2.2∈ao B)->(∀ m,lg R m<=3)->Bag M' p->Exb p M M'->a≠p->M a=none->M' a=some (.lst ((R.map dZ).map W.d))->Q (.m a) M'
theorem nL:∀ ws M Q,cD ws M Q->ws.length=3:=by rintro ws M Q ⟨p,B,d,K,n,rfl,_⟩;rfl
def acW(p:Addr)(B:List Bth)(d a:Addr)(num:Int)(x5 x6 x7 x8 x9 x10:Option W):DS:=[some (.m p),some (.d (eh B)),some (.m d),some (.m a),some (.d (.int num)),x5,x6,x7,x8,x9,x10]
theorem jM{M:MH}{a:Addr}{R:List Row3}{τ:DS}{D:Ed}{i:Nat}{c:Row3->Str}{y:Str}{cx:Nat}{j l:Nat}(okR:OkR R)(ha:M a=some (.lst ((R.map dZ).map W.d)))(h3:τ[j]? =some (some (.m a)))(hx:∀ r∈R,∀ M:MH,ixW M (.d (dZ r)) (cx:Nat)=some (.d (.str (c r))))
  (hy:(τ[l]?).getD none=some (.d (.str y)))(k:D.nx (τ.set i (some (.d (.list ((R.filter λ r=>c r==y).map dZ))))) M) :
  iP (bP (dLC (kR (af j)) (gN 0) (aG (dOp fU (dOp dB (af 0) (dI (cx:Nat))) (af 1))) (af 0) 1 [l]) (gN i)) D τ M:=by
 refine⟨a,_,ha,⟨_,h3,a,_,rfl,ag,?_⟩⟩;rw[List.map_map];refine cT R (W.d ∘ dZ) dZ (λ r=>c r==y) (λ τ=>∃ x,τ=[x,some (.d (.str y))]) (λ M'=>M'=ba M a (.flst ((R.map dZ).map W.d))) (by have:=okR.len;omega) ⟨none,by simp[zE,hy]⟩ (by rw[List.map_map]) (λ r hr τ M' hτ hM R' h=>?_) λ τ M' hM=>?_
 ·obtain⟨x,rfl⟩:=hτ;refine⟨_,rfl,(cx:Nat),_,rfl,hx r hr M',rfl,_,rfl,_,_,.d,.d,rfl,_,rfl,?_⟩;rw[cy];have:=h [some (.d (dZ r)),some (.d (.str y))] M' ⟨_,rfl⟩ hM;cases e:c r==y with
  | false=>rw[e] at this;exact dF this
  | true=>rw[e] at this;exact fK ⟨_,rfl,_,rfl,this⟩
 ·subst hM;refine⟨by rw[ag,List.map_map],?_⟩;rw[bE];rw[List.map_map] at ha;rw[kD ha];exact k
theorem mi:∀ ws M Q,cD ws M Q->l6 aD {nx:=λ _ M'=>Q (.d .none) M',rt:=Q} (cf lW ws) M:=by
 rintro ws M Q ⟨p,B,d,K,n,rfl,b0,okB,hB3,hd,k0,k8,hK,q⟩;have sl:=s16;have b8:=okB.len;refine⟨Nat.zero_le _,λ a ha=>?_⟩;have pa:p≠a:=pq b0 ha;have dp:d≠p:=λ e=>by obtain⟨a1,a2,a3,ns,h1,_⟩:=b0;rw[<- e,hd] at h1;cases h1
 have da:d≠a:=λ e=>by rw[e,ha] at hd;cases hd
 refine⟨_,rfl,p,25,rfl,dJ b0 (aw pa),by decide,by decide,λ m M1 m0 m1 b1 f1=>?_⟩;have x1:Exb p M M1:=(Exb.upd (Exb.refl p M) ha).trans (Exb.of f1);have h1:M1 a=some (.lst (([]:List Row3).map dZ |>.map W.d)):=by rw[f1 a pa.symm];exact ag
 refine⟨_,rfl,_,_,rfl,rfl,rfl,_,_,rfl,_,_,rfl,rfl,.inl ⟨by omega,by omega⟩,?_⟩;generalize hN:m * (if (((B.map bD).length:Nat):Int)<1 then (((B.map bD).length:Nat):Int) else 1)=N;have hN2:0<=N/\N<=24/\(0<N->0<B.length):=by
  rw[List.length_map] at hN;rw[<- hN]
  by_cases e:B.length=0
  ·rw[e,if_pos (by decide)];simp
  ·rw[if_neg (by omega)];omega
 obtain⟨n0,n24,nB⟩:=hN2;refine⟨_,rfl,by omega,by omega,λ i τ M'=>i<=N.toNat/\Bag M' p/\Exb p M M'/\∃ R num x5 x6 x7 x8 x9 x10,τ=acW p B d a num x5 x6 x7 x8 x9 x10/\M' a=some (.lst ((R.map dZ).map W.d))/\qz B R num i/\∀ m,lg R m<=3,
  ⟨Nat.zero_le _,b1,x1,[],0,_,_,_,_,_,_,rfl,h1,⟨Nat.le_refl _,by decide,λ r hr=>by simp at hr,λ r hr=>by simp at hr⟩,λ m=>Nat.zero_le _⟩,λ i w τ M' hw ⟨hi,b2,x2,R,num,x5,x6,x7,x8,x9,x10,e,h2,I,hc⟩=>?_,λ τ M' ⟨hi,b2,x2,R,num,x5,x6,x7,x8,x9,x10,e,h2,I,hc⟩=>?_⟩
 ·subst e;obtain⟨hlt,rfl⟩:=o9 hw;have B0:=nB (by omega);refine⟨_,rfl,_,rfl,_,rfl,_,_,rfl,rfl,rfl,p,_,rfl,b2,by rw[List.length_map];omega,by rw[List.length_map];omega,λ r M3 r0 r1 b3 f3=>?_⟩;obtain⟨bd,hix,hbm⟩:=aab (M:=M3) (ds:=B.map bD) r0 (by exact r1);obtain⟨b,hb,rfl⟩:=List.mem_map.mp hbm;have hbN:b.1∈ao B:=List.mem_map.mpr ⟨b,hb,rfl⟩;refine⟨r,_,rfl,hix,rfl,_,rfl,rfl,_,_,rfl,_,_,rfl,rfl,?_⟩;have x3:=x2.trans (Exb.of f3);have h3:M3 a=some (.lst ((R.map dZ).map W.d)):=by rw[f3 a pa.symm];exact h2
  refine⟨_,rfl,d,_,K,rfl,x3 _ _ dp hd,zF K _,by omega,λ zs perm _ l hl=>⟨l,zs.map PyData.str,rfl,by rw[ag,List.map_map];rfl,?_⟩⟩;rw[nO hl];have zl:=perm.length_eq;refine⟨_,rfl,_,rfl,d,_,rfl,x3 _ _ dp hd,p,_,rfl,b3,by rw[i6];omega,by rw[i6];omega,λ r2 M4 q0 q1 b4 f4=>?_⟩;rw[i6] at q1;obtain⟨z,hiz,hz⟩:=sS (M:=M4) (zs:=zs) q0 (by rw[zl];exact q1);have hzK:=perm.mem_iff.mp hz;have x4:=x3.trans (Exb.of f4);have h4:M4 a=some (.lst ((R.map dZ).map W.d)):=by rw[f4 a pa.symm];exact h3
  have okR:OkR R:=I.ok okB (by omega);refine⟨r2,_,rfl,hiz,rfl,?_⟩;refine jM (c:=λ r=>r.2.2) (cx:=2) okR h4 rfl (λ r _ _=>rfl) rfl ?_;refine jM (c:=λ r=>r.2.1) (cx:=1) okR h4 rfl (λ r _ _=>rfl) rfl ?_;have skip:∀ y5 y6 y7 y8 y9 y10,(λ(i:Nat) (τ:DS) (M':MH)=>i<=N.toNat/\Bag M' p/\Exb p M M'/\∃ R num x5 x6 x7 x8 x9 x10,τ=acW p B d a num x5 x6 x7 x8 x9 x10/\M' a=some (.lst ((R.map dZ).map W.d))/\qz B R num i/\∀ m,lg R m<=3) (i+1) (acW p B d a num y5 y6 y7 y8 y9 y10) M4:=λ _ _ _ _ _ _=>⟨by omega,b4,x4,R,num,_,_,_,_,_,_,rfl,h4,I.mono (Nat.le_succ _),hc⟩;refine⟨_,rfl,_,_,rfl,rfl,rfl,_,rfl,_,_,rfl,rfl,_,rfl,?_⟩;refine gh (λ e1=>?_) λ _=>dF (skip _ _ _ _ _ _);have e1:=of_decide_eq_true e1;rw[List.length_map] at e1;have hcm:lg R b.1<3:=by have:=hB3 b hb;show(R.filter λ r=>r.2.2==b.1).length<3;omega
  refine⟨_,rfl,_,rfl,?_⟩;rw[List.map_map];refine cT (R.filter λ r=>r.2.2==b.1) (W.d ∘ dZ) dZ (λ r=>r.2.1==z) (λ τ=>∃ x,τ=[x,some (.d (.str z))]) (λ M'=>M'=M4) (by have:=okR.len;have:=List.length_filter_le (λ r:Row3=>r.2.2==b.1) R;omega) ⟨_,rfl⟩ rfl (λ r hr τ M' hτ hM R' h=>?_) λ τ M' hM=>?_
  ·obtain⟨x,rfl⟩:=hτ;subst hM;refine⟨_,rfl,1,_,rfl,rfl,rfl,_,rfl,_,_,.d,.d,rfl,_,rfl,?_⟩;rw[cy];have:=h [some (.d (dZ r)),some (.d (.str z))] M' ⟨_,rfl⟩ rfl;cases e:r.2.1==z with
   | false=>rw[e] at this;exact dF this
   | true=>rw[e] at this;exact fK ⟨_,rfl,_,rfl,this⟩
  subst hM;refine⟨[],rfl,Nat.zero_le _,_,_,.d,.d,dH (k:=3) (by decide) (cI λ dd hdd=>?_) rfl,_,rfl,?_⟩
  ·obtain⟨x,hx,rfl⟩:=List.mem_map.mp hdd;have hxR:=(List.mem_filter.mp (List.mem_filter.mp hx).1).1;obtain⟨w1,w2,w3,w4⟩:=okR.word x hxR;have:=okR.num x hxR;simp[dZ,okD,okA,w1,w2];omega
  refine gh (λ _=>?_) λ _=>dF (skip _ _ _ _ _ _);refine⟨_,rfl,_,_,rfl,rfl,rfl,_,rfl,_,rfl,d,_,.inr z,_,rfl,.inl (x4 _ _ dp hd),rfl,d3 hzK,_,_,rfl,rfl,_,rfl,?_⟩;refine gh (λ _=>?_) λ _=>skip _ _ _ _ _ _;refine⟨_,rfl,.inl ⟨_,_,rfl,rfl,_,rfl,p,3,rfl,b4,by decide,by decide,λ u M5 u0 u1 b5 f5=>.inl ⟨_,_,rfl,rfl,?_⟩⟩⟩;have h5:M5 a=some (.lst ((R.map dZ).map W.d)):=by rw[f5 a pa.symm];exact h4
  have hlen:=I.len;refine⟨_,rfl,a,_,rfl,h5,_,rfl,_,rfl,_,rfl,_,rfl,few (by simp),_,h5,by rw[List.length_map,List.length_map];omega,by omega,dJ b5 (aw pa),(x4.trans (Exb.of f5)).upd ha,R++[(num+1+u,z,b.1)],num+1+u,_,_,_,_,_,_,rfl,?_,I.put u0 (by omega) (hK z hzK) hbN,λ m=>zz hc hcm⟩;rw[ag,List.map_append,List.map_append];rfl
 ·subst e;exact⟨_,rfl,q R a M' (I.ok okB (by omega)) (λ r hr=>(I.word r hr).2.2) hc b2 x2 pa.symm ha h2⟩
def K5:List Str:=["back", "ma", "mbb", "side", "zz"]
theorem acp:∀ z∈K5,gc z=true/\z.length<=8:=by decide +kernel
def zj(k:Nat):Str:=Txt.mul ⟨#[("abcde" : Str).cps.toList.getD k 0]⟩ (1+(0+(k:Int)) % 2)
theorem ur:∀ k<5,("m" : Str)++zj k=nmB 0 k:=by decide +kernel
theorem rG:∀ k<5,("m" : Str).length+(zj k).length<=1000:=by decide +kernel
def jA:SpD:=λ ws M Q=>∃ ns:List Int,ws=[.d (.list (ns.map PyData.int))]/\ns.length<=63/\fk M/\∀ M',Q (.d (.bool true)) M'
theorem yx:∀ ws M Q,jA ws M Q->ws.length=1:=by rintro ws M Q ⟨ns,rfl,_⟩;rfl
theorem vF:∀ ns:List Int,ns.length<=63->jA [.d (.list (ns.map PyData.int))] (M1T aP eZ ⟨13,25,13,55⟩) (λ w _=>w=.d (.bool true)):=λ ns h=>⟨ns,rfl,h,if_pos rfl,λ _=>rfl⟩
def xO(p:Addr)(B:List Bth)(K:List Str)(R:List Row3)(x0 x2 x3 x7 x8 x9 x10 x11:Option W):DS:=[x0,some (.m p),x2,x3,some (.d (eh B)),some (.d (.list (K.map PyData.str))),some (.d (bx R)),x7,x8,x9,x10,x11]
def adw(cL aL:SpD):TSd:=
    bo (bP (bI cL (ae (af 4) (ae (af 6) (ae (af 7) (aF))))) (gN 8)) <|
    bo (bP (iV (ae (fV (dCB cJ (ae (af 4) (aF)))) (ae (fV (dCB cJ (ae (af 6) (aF)))) (aF)))) (gN 9)) <|
    ik (ip (ae (dI 2) (aF))) (gN 10)
     (bo (bP (bI aL (ae (dOp dB (af 9) (dI 0)) (ae (dOp dB (af 9) (dI 1)) (ae (af 7) (aF))))) (gN 11)) <|
     dIf (dOr (aG (dOp dy (af 11) (af 8))) (dOr (aG (dOp dy (dCB cA (ae (af 11) (aF))) (dCB cA (ae (af 8) (aF))))) (aG (dOp dy (af 9) (iV (ae (af 4) (ae (af 6) (aF))))))))
      (fJ (dC (.d (.bool false))))
      (cN))
theorem vK{R:List Row3}(okR:OkR R):okD 3 (bx R)=true:=cI λ d hd=>by obtain⟨r,hr,rfl⟩:=List.mem_map.mp hd;obtain⟨w1,w2,w3,w4⟩:=okR.word r hr;have:=okR.num r hr;simp[dZ,okD,okA,w1,w2];omega
theorem vt{B:List Bth}(okB:OkB B):okD 3 (eh B)=true:=cI λ d hd=>by obtain⟨b,hb,rfl⟩:=List.mem_map.mp hd;have w1:=(okB.word b hb).1;have:=okB.num b hb;simp[bD,okD,okA,w1];omega
theorem aav{p:Addr}{B:List Bth}{K:List Str}{R:List Row3}{x0 x2 x3 x8 x9 x10 x11:Option W}{k:Str}{M:MH}{D:Ed}(okB:OkB B)(okR:OkR R)(hR:∀ r∈R,r.2.2∈ao B)(h5:B.length<=5)(hc:∀ m,lg R m<=3)(hC:fk M)
  (nx:∀ x8 x9 x10 x11 M',Ext M M'->D.nx (xO p B K R x0 x2 x3 (some (.d (.str k))) x8 x9 x10 x11) M'):adw cL aL D (xO p B K R x0 x2 x3 (some (.d (.str k))) x8 x9 x10 x11) M:=by
 have rest:∀ d,xQ B R k d->(bo (bP (iV (ae (fV (dCB cJ (ae (af 4) (aF)))) (ae (fV (dCB cJ (ae (af 6) (aF)))) (aF)))) (gN 9)) <|
    ik (ip (ae (dI 2) (aF))) (gN 10)
     (bo (bP (bI aL (ae (dOp dB (af 9) (dI 0)) (ae (dOp dB (af 9) (dI 1)) (ae (af 7) (aF))))) (gN 11)) <|
     dIf (dOr (aG (dOp dy (af 11) (af 8))) (dOr (aG (dOp dy (dCB cA (ae (af 11) (aF))) (dCB cA (ae (af 8) (aF))))) (aG (dOp dy (af 9) (iV (ae (af 4) (ae (af 6) (aF))))))))
      (fJ (dC (.d (.bool false))))
      (cN))) D (xO p B K R x0 x2 x3 (some (.d (.str k))) (some (.d d)) x9 x10 x11) M:=λ d hd=>by
  obtain⟨od,rd⟩:=wA okB hd;have o4:okD 4 (.tuple [eh B,bx R])=true:=cI λ x hx=>by
   simp only[List.mem_cons,List.not_mem_nil,or_false] at hx;rcases hx with rfl | rfl
   ·exact vt okB
   ·exact vK okR
  refine⟨_,rfl,_,_,rfl,.l,λ q1 hq1=>⟨q1,_,rfl,ag,?_⟩⟩;rw[nO hq1];refine⟨_,rfl,_,_,rfl,.l,λ q2 hq2=>⟨q2,_,rfl,ag,?_⟩⟩;rw[nO hq2];refine⟨[_,_],rfl,few (by simp),2,rfl,by decide,by decide,λ i τ M'=>Ext M M'/\∃ x10 x11,τ=xO p B K R x0 x2 x3 (some (.d (.str k))) (some (.d d)) (some (.d (.tuple [eh B,bx R]))) x10 x11,⟨Ext.refl M,_,_,rfl⟩,λ i w τ M' hw ⟨x,y10,y11,e⟩=>?_,λ τ M' ⟨x,y10,y11,e⟩=>?_⟩
  ·subst e;have go:∀ M5 d',Ext M' M5->xQ B R k d'->dIf (dOr (aG (dOp dy (af 11) (af 8))) (dOr (aG (dOp dy (dCB cA (ae (af 11) (aF))) (dCB cA (ae (af 8) (aF))))) (aG (dOp dy (af 9) (iV (ae (af 4) (ae (af 6) (aF))))))))
      (fJ (dC (.d (.bool false))))
      (cN) {D with nx:=λ τ M'=>Ext M M'/\∃ x10 x11,τ=xO p B K R x0 x2 x3 (some (.d (.str k))) (some (.d d)) (some (.d (.tuple [eh B,bx R]))) x10 x11} (xO p B K R x0 x2 x3 (some (.d (.str k))) (some (.d d)) (some (.d (.tuple [eh B,bx R]))) (some w) (some (.d d'))) M5:=λ M5 d' z hd'=>by
    have e:=oT hd hd';subst e;refine⟨_,rfl,_,rfl,_,_,.d,.d,dH (k:=2) (by decide) od od,_,rfl,?_⟩;rw[uh od];refine dF ⟨_,rfl,_,_,rfl,.d,rd,_,rfl,_,_,rfl,.d,rd,_,_,.d,.d,rfl,_,rfl,?_⟩;rw[cy,beq_self_eq_true];refine dF ⟨_,rfl,_,rfl,_,rfl,[_,_],rfl,few (by simp),_,_,.d,.d,dH (k:=4) (by decide) o4 o4,_,rfl,?_⟩;rw[uh o4];exact dF ⟨x.trans z,_,_,rfl⟩
   refine⟨_,rfl,0,_,rfl,rfl,rfl,_,rfl,1,_,rfl,rfl,rfl,_,rfl,B,R,k,rfl,okB,okR,hR,x _ _ hC,λ M5 s ps z l ok l8=>?_,λ M5 z no=>?_⟩
   ·exact go M5 _ z (.inl ⟨s,ps,rfl,l,ok,l8⟩)
   ·exact go M5 _ z (.inr ⟨rfl,no⟩)
  ·subst e;exact nx _ _ _ _ M' x
 refine⟨_,rfl,_,rfl,_,rfl,B,R,k,rfl,okB,okR,h5,hc,λ s ps l ok l8=>?_,λ no=>?_⟩
 ·exact rest _ (.inl ⟨s,ps,rfl,l,ok,l8⟩)
 ·exact rest _ (.inr ⟨rfl,no⟩)
theorem uv:∀ ws M Q,jA ws M Q->aa2 dM aD cD cL aL aI {nx:=λ _ M'=>Q (.d .none) M',rt:=Q} (cf abq ws) M:=by
 rintro ws M Q ⟨ns,rfl,hl,hC,q⟩;have sl:=s16;refine⟨_,rfl,ns,rfl,by omega,λ p M1 hp f1 b1=>?_⟩;have cp:aP≠p:=λ e=>by have h:M aP=_:=hC;rw[e,hp] at h;cases h
 have c1:fk M1:=by unfold fk;rw[f1 _ cp];exact hC
 clear hC f1 hp;refine⟨2,rfl,by decide,by decide,λ i τ M'=>Bag M' p/\fk M'/\∃ x0 x2 x3 x4 x5 x6 x7 x8 x9 x10 x11,τ=[x0,some (.m p),x2,x3,x4,x5,x6,x7,x8,x9,x10,x11],⟨b1,c1,_,_,_,_,_,_,_,_,_,_,_,rfl⟩,?_,?_⟩
 ·rintro i w τ M2 hw ⟨b2,c2,x0,x2,x3,x4,x5,x6,x7,x8,x9,x10,x11,rfl⟩;refine⟨_,rfl,p,6,rfl,b2,by decide,by decide,λ many M3 m0 m1 b3 f3=>?_⟩;have x3':Exb p M2 M3:=Exb.of f3;obtain⟨top,htop,t0,t4⟩:∃ top:Int,(∀ M:MH,ixW M (.d (.list [.int 4,.int 3])) (many / 5)=some (.d (.int top)))/\0<top/\top<=4:=by
   have:many / 5=0\/many / 5=1:=by omega
   rcases this with e | e<;>rw[e]
   ·exact⟨4,λ _=>rfl,by decide,by decide⟩
   ·exact⟨3,λ _=>rfl,by decide,by decide⟩
  refine⟨_,rfl,many,rfl,by omega,by omega,?_⟩;refine⟨λ i acc τ M'=>i<=many.toNat/\Bag M' p/\Exb p M2 M'/\∃ B:List Bth,B.length=i/\(∀ (j:Nat) (r:Bth),B[j]? =some r->r.1=nmB 0 j/\0<=r.2/\r.2<=3)/\acc=B.map bD/\∃ x,τ=[x,some (.m p),some (.d (.int many))],⟨Nat.zero_le _,b3,x3',[],rfl,λ j r h=>by simp at h,rfl,_,rfl⟩,?_,?_⟩
  ·rintro i v acc τ M' hv ⟨hi,b4,x4',B,hl,hB,rfl,x,rfl⟩;obtain⟨hlt,rfl⟩:=o9 hv;refine⟨by rw[List.length_map];omega,?_⟩;refine⟨_,rfl,_,_,rfl,jJ (i:=i) (by omega) (by rw[show("abcde" : Str).length=5 from by decide +kernel];omega),by decide +kernel,_,rfl,_,_,rfl,rfl,(show(0:Int)<2 by decide),.inl ⟨_,_,rfl,rfl,_,_,rfl,rfl,rfl,by omega,by omega,.inr ⟨_,_,rfl,rfl,(by have:=rG i (by omega);unfold zj at this;omega),?_⟩⟩⟩;rw[show("m" : Str)++Txt.mul ⟨#[("abcde" : Str).cps.toList.getD i 0]⟩ (1+(0+(i:Int)) % 2)=nmB 0 i from ur i (by omega)];refine⟨_,rfl,[_,_],rfl,few (by simp),_,rfl,_,_,rfl,rfl,(⟨by decide,by decide⟩:(0:Int)<5/\(5:Int)<1073741824),_,_,rfl,htop _,rfl,p,top,rfl,b4,t0,by omega,λ c M4 c0 c1 b5 f5=>⟨_,rfl,few (by simp),_,rfl,?_⟩⟩;refine⟨by omega,b5,x4'.trans (Exb.of f5),B++[(nmB 0 i,c)],by rw[List.length_append,hl];rfl,λ j r h=>?_,by rw[List.map_append];rfl,_,rfl⟩;rw[List.getElem?_append] at h
   split at h
   ·exact hB j r h
   ·have:j=i:=by have:=(List.getElem?_eq_some_iff.mp h).1;simp at this;omega
    subst this;rw[hl,Nat.sub_self] at h;cases h;exact⟨rfl,by dsimp only;omega,by dsimp only;omega⟩
  rintro acc τ M4 ⟨hi,b4,x4',B,hl,hB,rfl,x,rfl⟩;have h5:B.length<=5:=by omega
  have okB:=wH (B:=B) (by omega) λ j r h=>by have:=hB j r h;exact⟨this.1,this.2.1,by omega⟩
  have hB3:∀ b∈B,b.2<=3:=λ b hb=>by obtain⟨j,hj,e⟩:=List.getElem_of_mem hb;exact(hB j b (by rw[List.getElem?_eq_getElem hj,e])).2.2
  clear hB hl hi b3 f3 x3';refine⟨K5.map PyData.str,rfl,few (by decide),_,rfl,p,4,rfl,b4,by decide,by decide,λ m M5 m0 m1 b5 f5=>.inl ⟨_,_,rfl,rfl,_,rfl,_,rfl,rfl,?_⟩⟩;have x5':=x4'.trans (Exb.of f5);rw[i9];have hK:∀ z∈D.cutD K5 none (some (2+m)),gc z=true/\z.length<=8:=λ z hz=>acp z ((cR _ _ _).subset hz);have kl:(D.cutD K5 none (some (2+m))).length<=5:=(cR K5 _ _).length_le;have k0:0<(D.cutD K5 none (some (2+m))).length:=by rw[show(2+m)=((m.toNat+2:Nat):Int) from by omega,n4 (by show _<=5;omega),List.length_take];show 0<min _ 5;omega
  have knd:(D.cutD K5 none (some (2+m))).Nodup:=(cR K5 _ _).nodup (by decide +kernel);generalize D.cutD K5 none (some (2+m))=K at *;refine⟨_,rfl,_,rfl,_,rfl,_,rfl,?_⟩;rw[List.map_map];refine mY K (W.d ∘ PyData.str) (λ z=>.tuple [.str z,.int many]) (λ τ=>∃ x,τ=[x,some (.d (.int many))]) (by omega) ⟨_,rfl⟩ (λ z hz τ hτ R h=>?_) (λ τ=>?_)
  ·obtain⟨x,rfl⟩:=hτ;exact⟨_,rfl,_,rfl,[_,_],rfl,few (by simp),_,rfl,h _ ⟨_,rfl⟩⟩
  have e0:K.map (λ z=>PyData.tuple [.str z,.int many])=(kdN K many).map D.pairD:=by unfold kdN;rw[List.map_map];rfl
  rw[e0];refine⟨_,_,rfl,.d,by unfold kdN;rw[List.map_map];exact List.pairwise_map.mpr (knd.imp λ h e=>h (Sum.inr.inj e)),λ d hd=>?_⟩;rw[abV];have d0:M2 d=none:=x5'.none (pq b5 hd).symm hd;have b6:Bag (ba M5 d (.dic (kf K λ _=>.d (.int many)))) p:=dJ b5 (aw (pq b5 hd));refine⟨p,B,d,K,many,rfl,b6,okB,hB3,ag,k0,by omega,hK,λ R a M6 okR hR hc b7 x7' ap ha0 ha=>⟨a,_,rfl,ha,?_⟩⟩;have cp2:=wj b2 c2;have b8:Bag (iY M6 a) p:=dJ b7 (rW ap.symm);have x8':Exb p M2 (iY M6 a):=((x5'.upd d0).trans x7').del (x5'.none ap (by
   have:a≠d:=λ e=>by rw[e,ag] at ha0;cases ha0
   rwa[aw this] at ha0))
  have c8:fk (iY M6 a):=x8' _ _ cp2 c2;generalize iY M6 a=M7 at b8 c8;refine⟨_,rfl,[_],rfl,few (by simp),_,_,.d,.d,?_,?_⟩
  ·rw[List.length_map];show K.length+1<=sizeLine;omega
  refine⟨_,rfl,λ i τ M'=>Bag M' p/\fk M'/\∃ x7 x8 x9 x10 x11,τ=xO p B K R x0 (some w) (some (.d (.int many))) x7 x8 x9 x10 x11,⟨b8,c8,_,_,_,_,_,rfl⟩,?_,?_⟩
  ·rintro i v τ M' hv ⟨b9,c9,y7,y8,y9,y10,y11,rfl⟩;have hv':((K++(["other"]:List Str)).map (W.d ∘ PyData.str))[i]? =some v:=by rw[<- hv];simp
   obtain⟨k,hk,rfl⟩:=dA hv';exact aav okB okR hR h5 hc c9 λ _ _ _ _ M8 x=>⟨Ext.bag x b9,x _ _ c9,_,_,_,_,_,rfl⟩
  ·rintro τ M' ⟨b9,c9,y7,y8,y9,y10,y11,rfl⟩;exact⟨b9,c9,_,_,_,_,_,_,_,_,_,_,_,rfl⟩
 ·rintro τ M2 ⟨b2,c2,x0,x2,x3,x4,x5,x6,x7,x8,x9,x10,x11,rfl⟩;exact⟨_,rfl,p,rfl,b2,c2,λ M3 b3 c3=>⟨_,rfl,fK ⟨_,rfl,p,rfl,b3,c3,λ M4 _ _=>q M4⟩⟩⟩
abbrev q_0:List Str:=["_law_script"]
abbrev q_1:List Str:=["_law_bag_here", "_law_many"]
abbrev q_2:List Str:=["_law_bag_here", "_law_berths", "_law_demands"]
abbrev q_3:List Str:=["_law_lying_here", "_law_machine", "_law_kind"]
abbrev q_4:List Str:=["_law_berths", "_law_lying_here"]
abbrev q_5:List Str:=["_law_berths", "_law_lying_here", "_law_ways"]
abbrev q_6:List Str:=["_law_berths", "_law_lying_here", "_law_kind"]
abbrev q_7:List Str:=["ways", "lying", "kinds", "reached"]
abbrev q_8:List Str:=["start", "lying", "kinds", "free"]
abbrev q_9:List Str:=["berths", "lying", "kind"]
abbrev zT:List Str:=["_law_berths", "_law_lying_here", "_law_start", "_law_steps_here"]
abbrev zJ:List Str:=["_law_berths", "_law_lying_here", "_law_start"]
abbrev zU:List Str:=["_law_lying_here", "_law_ways", "_law_kind"]
abbrev zL:List Str:=["_law_bag_here"]
local macro_rules | `(tactic| walk_at "sc")=>`(tactic| exact⟨rfl,rfl,rfl,by decide +kernel,rfl,by decide +kernel,by decide +kernel⟩)
local macro_rules | `(tactic| walk_at "b4")=>`(tactic| (intro _ _ _ _ _ _ us hl;obtain⟨_,_,_,_,e⟩:=D.adz hl;subst e;rfl))
local macro_rules | `(tactic| walk_at "b3")=>`(tactic| (intro _ _ _ _ _ _ us hl;obtain⟨_,_,_,e⟩:=D.yr hl;subst e;rfl))
local macro_rules | `(tactic| walk_at "b2")=>`(tactic| (intro _ _ _ _ _ _ us hl;obtain⟨_,_,e⟩:=D.aaE hl;subst e;rfl))
local macro_rules | `(tactic| walk_at "b1")=>`(tactic| (intro _ _ _ _ _ _ us hl;obtain⟨_,e⟩:=D.xq hl;subst e;rfl))
def top(i:Nat):Stmt:=PySem.Challenge.pw_placedworks_k36_whole_shortest_ways.main.body.getD i (.Pass ⟨0,0,0,0⟩)
abbrev k5:Stmt:=top 5
abbrev iI:Stmt:=top 6
abbrev gH:Stmt:=top 7
abbrev j5:Stmt:=top 9
abbrev iL:Stmt:=top 8
abbrev ft:Stmt:=top 10
abbrev kJ:Stmt:=top 11
abbrev dh:Stmt:=top 3
abbrev fw:Stmt:=top 2
abbrev dw:Stmt:=top 1
abbrev iM:Stmt:=top 13
abbrev gv:Stmt:=top 12
abbrev gO:Stmt:=top 14
abbrev cK:Stmt:=top 15
abbrev kz:Stmt:=top 16
structure Env(K:FG)(mg:Str->Option Value):Prop where
 h_way_for:W.codeHdIn K c5 aP=true
 b_abs:mg "abs" = none
 b_dict:mg "dict" = none
 b_int:mg "int" = none
 b_len:mg "len" = none
 b_list:mg "list" = none
 b_min:mg "min" = none
 b_range:mg "range" = none
 b_repr:mg "repr" = none
 b_sorted:mg "sorted" = none
section
variable (P:Program)(w:World)(K:FG)(mg:Str->Option Value)(base:Heap)
abbrev rp:=ZZ P w K mg base (Fn K mg "_law_bag" k5 q_0) 1 q_0 dM
abbrev iN:=ZZ P w K mg base (Fn K mg "_law_take" iI q_1) 1 q_1 aD
abbrev my:=ZZ P w K mg base (Fn K mg "_law_lying" gH q_2) 2 q_2 cD
abbrev g4:=ZZ P w K mg base (Fn K mg "_law_has" j5 q_3) 1 q_3 aM
abbrev kc:=ZZ P w K mg base (Fn K mg "_law_free" iL q_4) 1 q_4 bL
abbrev jL:=ZZ P w K mg base (Fn K mg "_law_longer" ft q_5) 2 q_5 bT
abbrev rZ:=ZZ P w K mg base (Fn K mg "_law_due" kJ q_6) 3 q_6 cL
abbrev gK:=ZZ P w K mg base (Fn K mg "one_further" dh q_7) 1 q_7 aV
abbrev jR:=ZZ P w K mg base (Fn K mg "way_from" fw q_8) 2 q_8 bQ
abbrev i4:=ZZ P w K mg base (Fn K mg "way_for" dw q_9) 3 q_9 aL
abbrev o8:=ZZ P w K mg base (Fn K mg "_law_from" iM zT) 2 zT c4
abbrev lS:=ZZ P w K mg base (Fn K mg "_law_steps" gv zJ) 2 zJ cE
abbrev lD:=ZZ P w K mg base (Fn K mg "_law_great" gO zU) 2 zU cC
abbrev eW:=ZZ P w K mg base (Fn K mg "_law_great_right" cK zL) 4 zL aI
end
section
variable {P:Program}{w:World}{K:FG}{mg:Str->Option Value}{base:Heap}
theorem adh:(["_law_cell"]:List Str).Nodup:=by decide +kernel
theorem vW:bA tV q_0 (au k5):=by walk_at "sc"
theorem vP(E:Env K mg)(F:Fn K mg "_law_bag" k5 q_0 f fq) :
  gu P w K mg base CX0 1 f fq q_0 (iu K dM):=by
 refine dG (t:=rR) F.fn vW rK (λ cdv A outer s H E' hr=>?_) ql;refine Jd.h ?_;exact ai (aO (fE (aB (ak) (aB (ak) (aB (ak) (aB (ig rfl (jI (own:=(["_law_cell"]:List Str)) (fr:=[]) rfl) (aA (dt (dvQ 0) (dv) (dq (ak)))) (λ _ _ _ _ _ _=>ah (i:=0) adh rfl (Or.inl rfl)) (λ _ _ _ _ _ _=>du) (λ _ _ _ _ _ _=>gX vL aag rfl E.b_abs aam (aB (dvQ 0) (aa)))) (aa)))))))
theorem ee:bA oE q_1 (au iI):=by walk_at "sc"
theorem tK(E:Env K mg)(F:Fn K mg "_law_take" iI q_1 f fq) :
  gu P w K mg base CX0 1 f fq q_1 (iu K aD):=by
 refine dG (t:=oY) F.fn ee pN (λ cdv A outer s H E' hr=>?_) mW;refine Jd.h ?_;exact ab (bF (az (wL hr.h) aaJ (bh bj bb (dvQ 0) (ak)) (ak))
   (ab (av (i:=2) ee.nd rfl (Or.inl rfl) (ak)) <|
   ab (bF (az tS lH (bh bj bb (dvQ 0) (ak)) (gX bY eg rfl E.b_len dO (aB (bh bj bb (dvQ 0) (ak)) (aa))))
    (ai (av (i:=2) ee.nd rfl (Or.inl rfl) (bh bj bb (bh bj bb (dvQ 0) (ak)) (bh bj bb (dvQ 0) (ak)))))
    (aK)) <|
   ab (tu (dvQ 0) (ak) (ak) abY) <|
   ab (bF (az acr aah (dvQ 2) (ak))
    (ai (iy (dvQ 2) (ka (dvQ 0) (ak))))
    (aK)) <|
   ai (iy (aH fL dU (aH bU bp (aH bU bp (aH i5 fX (bh bj bb (dvQ 0) (ak)) (ak)) (aH fL dU (dvQ 2) (ak))) (aH i5 fX (ak) (bh bj bb (dvQ 0) (ak)))) (ak)) (ka (dvQ 0) (ak))))
   (aK)) <|
  ab (bF (az abd wu (bh bj bb (dvQ 0) (ak)) (ak))
   (ab (av (i:=3) ee.nd rfl (Or.inl rfl) (aH fL dU (bh bj bb (dvQ 0) (ak)) (dvQ 1))) <|
   ab (iy (aH mM mV (bh bj bb (dvQ 0) (ak)) (dvQ 1)) (ka (dvQ 0) (ak))) <|
   ai (aO (dvQ 3)))
   (aK)) <|
  ab (av (i:=4) ee.nd rfl (Or.inl rfl) (aH fL dU (aH i5 fX (aH bU bp (bh bj bb (dvQ 0) (ak)) (ak)) (ak)) (ak))) <|
  ab (av (i:=5) ee.nd rfl (Or.inl rfl) (aH fL dU (aH i5 fX (aH fL dU (aH i5 fX (dvQ 4) (dvQ 4)) (ak)) (ak)) (ak))) <|
  ab (bF (az abd wu (dvQ 1) (ak))
   (ai (aO (aH fL dU (aH bU bp (aH i5 fX (dvQ 5) (ak)) (dvQ 4)) (dvQ 1))))
   (aK)) <|
  ai (aO (aH fL dU (aH mM mV (dvQ 5) (ak)) (dvQ 1)))
theorem ac2:(["_law_row", "_law_machine"]:List Str).Nodup:=by decide +kernel
theorem acD:(["_law_row", "_law_kind"]:List Str).Nodup:=by decide +kernel
theorem adx:(["_law_row", "_law_kind"]:List Str).Nodup:=by decide +kernel
theorem bM:bA lW q_2 (au gH):=by walk_at "sc"
theorem pT(E:Env K mg)(F:Fn K mg "_law_lying" gH q_2 f fq)(z1:iN P w K mg base) :
  gu P w K mg base CX0 2 f fq q_2 (iu K cD):=by
 obtain⟨_,_,G1,O1⟩:=z1;refine dG (t:=l6 aD) F.fn bM nL (λ cdv A outer s H E' hr=>?_) mi;refine Jd.h ?_;exact ab (av (i:=3) bM.nd rfl (Or.inl rfl) (fE (aa))) <|
  ab (av (i:=4) bM.nd rfl (Or.inl rfl) (ak)) <|
  ab (aR PassesOwn.never rfl (bR rfl E.b_range (aB (aH i5 fX (fH O1 hr.m rfl G1.mg G1.fn.kp G1.bd (aB (dvQ 0) (aB (ak) (aa)))) (gX (qQ rfl) xh rfl E.b_min hZ (aB (ak) (aB (gX bY eg rfl E.b_len dO (aB (dvQ 1) (aa))) (aa))))) (aa))) (ah (i:=5) bM.nd rfl (Or.inl rfl))
   (ab (iy (bh bj bb (dvQ 1) (fH O1 hr.m rfl G1.mg G1.fn.kp G1.bd (aB (dvQ 0) (aB (gX bY eg rfl E.b_len dO (aB (dvQ 1) (aa))) (aa))))) (bX rfl (ar (ah (i:=6) bM.nd rfl (Or.inr rfl)) (ar (ah (i:=7) bM.nd rfl (Or.inl rfl)) (bB))))) <|
   ab (av (i:=8) bM.nd rfl (Or.inr rfl) (bh bj bb (eB (gX (lN rfl) va rfl E.b_sorted qU (aB (dvQ 2) (aa)))) (fH O1 hr.m rfl G1.mg G1.fn.kp G1.bd (aB (dvQ 0) (aB (gX qJ xN rfl E.b_len dO (aB (dvQ 2) (aa))) (aa)))))) <|
   ab (ji (bC (i:=9) bM.nd rfl (Or.inl rfl) rfl (jI (own:=(["_law_row"]:List Str)) (fr:=[6]) rfl) (jf (dvQ 3)) (λ _ _ _ _ _ _=>ah (i:=0) ac2 rfl (Or.inl rfl)) (λ _ _ _ _ _ _=>bq (az (d4 hr.h) cU (bh bj bb (dvQ 0) (ak)) (dvQ 1))) (λ _ _ _ _ _ _=>dvQ 0))) <|
   ab (ji (bC (i:=10) bM.nd rfl (Or.inl rfl) rfl (jI (own:=(["_law_row"]:List Str)) (fr:=[8]) rfl) (jf (dvQ 3)) (λ _ _ _ _ _ _=>ah (i:=0) acD rfl (Or.inl rfl)) (λ _ _ _ _ _ _=>bq (az (d4 hr.h) cU (bh bj bb (dvQ 0) (ak)) (dvQ 1))) (λ _ _ _ _ _ _=>dvQ 0))) <|
   ai (bF (gL (cY (az tS lH (gX bY eg rfl E.b_len dO (aB (dvQ 9) (aa))) (dvQ 7)) (cY (az (d4 hr.h) cU (ig rfl (jI (own:=(["_law_row"]:List Str)) (fr:=[8]) rfl) (aA (dvQ 9)) (λ _ _ _ _ _ _=>ah (i:=0) adx rfl (Or.inl rfl)) (λ _ _ _ _ _ _=>bq (az (d4 hr.h) cU (bh bj bb (dvQ 0) (ak)) (dvQ 1))) (λ _ _ _ _ _ _=>dvQ 0)) (cS (aa))) (cZ (az tS lH (gX bY eg rfl E.b_len dO (aB (dvQ 10) (aa))) (cu (d6 hr) (dvQ 2) (dvQ 8)))))))
    (ab (av (i:=4) bM.nd rfl (Or.inl rfl) (aH bU bp (aH bU bp (dvQ 4) (ak)) (fH O1 hr.m rfl G1.mg G1.fn.kp G1.bd (aB (dvQ 0) (aB (ak) (aa)))))) <|
    ai (eX (el (dvQ 3) (cj (aB (dvQ 4) (aB (dvQ 8) (aB (dvQ 6) (aa))))))))
    (aK)))) <|
  ai (aO (dvQ 3))
theorem ade:(["_law_row", "_law_kind", "_law_machine"]:List Str).Nodup:=by decide +kernel
theorem uM:bA sF q_3 (au j5):=by walk_at "sc"
theorem vz(E:Env K mg)(F:Fn K mg "_law_has" j5 q_3 f fq) :
  gu P w K mg base CX0 1 f fq q_3 (iu K aM):=by
 refine dG (t:=tp) F.fn uM rD (λ cdv A outer s H E' hr=>?_) qa;refine Jd.h ?_;exact ai (aO (rV (fN hr.h) dY (ig rfl (jI (own:=(["_law_row"]:List Str)) (fr:=[2,1]) rfl) (aA (dvQ 0)) (λ _ _ _ _ _ _=>ah (i:=0) ade rfl (Or.inl rfl)) (λ _ _ _ _ _ _=>bq (gL (cY (az (d4 hr.h) cU (bh bj bb (dvQ 0) (ak)) (dvQ 1)) (cZ (az (d4 hr.h) cU (bh bj bb (dvQ 0) (ak)) (dvQ 2)))))) (λ _ _ _ _ _ _=>dvQ 0)) (cS (aa))))
theorem ab9:(["_law_machine", "_law_many", "_law_lying_here"]:List Str).Nodup:=by decide +kernel
theorem acv:(["_law_row", "_law_machine"]:List Str).Nodup:=by decide +kernel
theorem ua:bA oD q_4 (au iL):=by walk_at "sc"
theorem rJ(E:Env K mg)(F:Fn K mg "_law_free" iL q_4 f fq) :
  gu P w K mg base CX0 1 f fq q_4 (iu K bL):=by
 refine dG (t:=oy) F.fn ua pL (λ cdv A outer s H E' hr=>?_) ny;refine Jd.h ?_;exact ai (aO (yj rfl (ac7 (own:=(["_law_machine", "_law_many"]:List Str)) (fr:=[1]) rfl) (aA (dvQ 0)) (λ _ _ _ _ _ _=>bX rfl (ar (ah (i:=0) ab9 rfl (Or.inr rfl)) (ar (ah (i:=1) ab9 rfl (Or.inl rfl)) (bB)))) (λ _ _ _ _ _ _=>bq (az tS lH (gX bY eg rfl E.b_len dO (aB (ig rfl (jI (own:=(["_law_row"]:List Str)) (fr:=[0]) rfl) (aA (dvQ 2)) (λ _ _ _ _ _ _=>ah (i:=0) acv rfl (Or.inl rfl)) (λ _ _ _ _ _ _=>bq (az (d4 hr.h) cU (bh bj bb (dvQ 0) (ak)) (dvQ 1))) (λ _ _ _ _ _ _=>dvQ 0)) (aa))) (dvQ 1))) (λ _ _ _ _ _ _=>dvQ 0)))
theorem abI:(["_law_other", "_law_many", "_law_one", "_law_lying_here", "_law_kind"]:List Str).Nodup:=by decide +kernel
theorem adn:(["_law_other", "_law_one", "_law_number"]:List Str).Nodup:=by decide +kernel
theorem bW:bA j1 q_5 (au ft):=by walk_at "sc"
theorem nE(E:Env K mg)(F:Fn K mg "_law_longer" ft q_5 f fq)(z3:g4 P w K mg base) :
  gu P w K mg base CX0 2 f fq q_5 (iu K bT):=by
 obtain⟨_,_,G3,O3⟩:=z3;refine dG (t:=jG aM) F.fn bW lY (λ cdv A outer s H E' hr=>?_) kh;refine Jd.h ?_;exact ab (av (i:=3) bW.nd rfl (Or.inl rfl) (cS (aa))) <|
  ab (aR PassesOwn.never rfl (aA (dvQ 2)) (ah (i:=4) bW.nd rfl (Or.inr rfl))
   (ai (aR PassesOwn.never rfl (aA (dvQ 1)) (bX rfl (ar (ah (i:=5) bW.nd rfl (Or.inr rfl)) (ar (ah (i:=6) bW.nd rfl (Or.inr rfl)) (ar (ah (i:=7) bW.nd rfl (Or.inl rfl)) (bB)))))
    (ai (bF (az (d4 hr.h) cU (dvQ 7) (bh bj bb (dvQ 4) (qP sV nP (ak))))
     (ab (bC (i:=8) bW.nd rfl (Or.inl rfl) rfl (jI (own:=(["_law_other", "_law_many"]:List Str)) (fr:=[4,1,6]) rfl) (aA (dvQ 0)) (λ _ _ _ _ _ _=>bX rfl (ar (ah (i:=0) abI rfl (Or.inl rfl)) (ar (ah (i:=1) abI rfl (Or.inl rfl)) (bB)))) (λ _ _ _ _ _ _=>bq (gL (cY (az (lE hr.h) jU (dvQ 0) (dvQ 2)) (cZ (gb (gB (fH O3 hr.m rfl G3.mg G3.fn.kp G3.bd (aB (dvQ 3) (aB (dvQ 0) (aB (dvQ 4) (aa))))))))))) (λ _ _ _ _ _ _=>dvQ 0)) <|
     ai (av (i:=3) bW.nd rfl (Or.inl rfl) (jk (dvQ 3) (ig rfl (jI (own:=(["_law_other"]:List Str)) (fr:=[4,5]) rfl) (aA (dvQ 8)) (λ _ _ _ _ _ _=>ah (i:=0) adn rfl (Or.inl rfl)) (λ _ _ _ _ _ _=>du) (λ _ _ _ _ _ _=>aH mR j8 (dvQ 1) (cj (aB (dvQ 2) (aB (dvQ 0) (aa)))))))))
     (aK)))))) <|
  ai (aO (dvQ 3))
theorem aaq:(["_law_machine", "_law_many", "_law_lying_here", "_law_kind"]:List Str).Nodup:=by decide +kernel
theorem aaz:(["_law_one", "_law_free_here"]:List Str).Nodup:=by decide +kernel
theorem fC:bA tJ q_6 (au kJ):=by walk_at "sc"
theorem uR(E:Env K mg)(F:Fn K mg "_law_due" kJ q_6 f fq)(z3:g4 P w K mg base)(z4:kc P w K mg base)(z5:jL P w K mg base) :
  gu P w K mg base CX0 3 f fq q_6 (iu K cL):=by
 obtain⟨_,_,G3,O3⟩:=z3;obtain⟨_,_,G4,O4⟩:=z4;obtain⟨_,_,G5,O5⟩:=z5;refine dG (t:=qE aM bL bT) F.fn fC t8 (λ cdv A outer s H E' hr=>?_) qk;refine Jd.h ?_;exact ab (bC (i:=3) fC.nd rfl (Or.inl rfl) rfl (jI (own:=(["_law_machine", "_law_many"]:List Str)) (fr:=[1,2]) rfl) (aA (dvQ 0)) (λ _ _ _ _ _ _=>bX rfl (ar (ah (i:=0) aaq rfl (Or.inl rfl)) (ar (ah (i:=1) aaq rfl (Or.inl rfl)) (bB)))) (λ _ _ _ _ _ _=>bq (gb (gB (fH O3 hr.m rfl G3.mg G3.fn.kp G3.bd (aB (dvQ 2) (aB (dvQ 0) (aB (dvQ 3) (aa)))))))) (λ _ _ _ _ _ _=>cj (aB (dvQ 0) (aa)))) <|
  ab (av (i:=4) fC.nd rfl (Or.inr rfl) (fH O4 hr.m rfl G4.mg G4.fn.kp G4.bd (aB (dvQ 0) (aB (dvQ 1) (aa))))) <|
  ab (aR PassesOwn.never rfl (bR rfl E.b_range (aB (gX bY eg rfl E.b_len dO (aB (dvQ 0) (aa))) (aa))) (ah (i:=5) fC.nd rfl (Or.inl rfl))
   (ab (av (i:=3) fC.nd rfl (Or.inl rfl) (fH O5 hr.m rfl G5.mg G5.fn.kp G5.bd (aB (dvQ 0) (aB (dvQ 1) (aB (dvQ 3) (aa)))))) <|
   ab (bC (i:=6) fC.nd rfl (Or.inl rfl) rfl (jI (own:=(["_law_one"]:List Str)) (fr:=[4]) rfl) (aA (dvQ 3)) (λ _ _ _ _ _ _=>ah (i:=0) aaz rfl (Or.inl rfl)) (λ _ _ _ _ _ _=>bq (az lB (iz false) (bh bj bb (dvQ 0) (qP sV nP (ak))) (dvQ 1))) (λ _ _ _ _ _ _=>dvQ 0)) <|
   ai (bF (az (fN hr.h) dY (dvQ 6) (cS (aa)))
    (ai (aO (gX (fe hr) jo rfl E.b_min hZ (aB (dvQ 6) (aa)))))
    (aK)))) <|
  ai (aO (fQ))
theorem bu:bA gf q_7 (au dh):=by walk_at "sc"
theorem jB(E:Env K mg)(F:Fn K mg "one_further" dh q_7 f fq) :
  gu P w K mg base CX0 1 f fq q_7 (iu K aV):=by
 refine dG (t:=gi) F.fn bu iX (λ cdv A outer s H E' hr=>?_) ir;refine Jd.h ?_;exact ab (av (i:=4) bu.nd rfl (Or.inl rfl) (jK)) <|
  ab (aR PassesOwn.never rfl (aA (dvQ 1)) (bX rfl (ar (ah (i:=5) bu.nd rfl (Or.inl rfl)) (ar (ah (i:=6) bu.nd rfl (Or.inl rfl)) (ar (ah (i:=7) bu.nd rfl (Or.inl rfl)) (bB)))))
   (ai (bF (vX (d6 hr) (dvQ 7) (dvQ 0))
    (ai (aR PassesOwn.never rfl (js (dvQ 2)) (ah (i:=8) bu.nd rfl (Or.inl rfl))
     (ai (bF (gL (cY (jd (d6 hr) (dvQ 8) (dvQ 3)) (cZ (az ie (iz true) (dvQ 6) (cu (d6 hr) (dvQ 2) (dvQ 8))))))
      (ab (av (i:=9) bu.nd rfl (Or.inl rfl) (aH mR j8 (cu (d6 hr) (dvQ 0) (dvQ 7)) (cj (aB (dvQ 5) (aB (dvQ 8) (aa)))))) <|
      ai (gJ (d6 hr) (dvQ 4) (dvQ 8) (gX (qd hr) uE rfl E.b_min hZ (aB (uY (d6 hr) (dvQ 4) (dvQ 8) (dvQ 9)) (aB (dvQ 9) (aa))))))
      (aK)))))
    (aK)))) <|
  ai (aO (dvQ 4))
theorem ab7:(["machine", "ways", "free"]:List Str).Nodup:=by decide +kernel
theorem cQ:bA jO q_8 (au fw):=by walk_at "sc"
theorem nN(E:Env K mg)(F:Fn K mg "way_from" fw q_8 f fq)(z7:gK P w K mg base) :
  gu P w K mg base CX0 2 f fq q_8 (iu K bQ):=by
 obtain⟨_,_,G7,O7⟩:=z7;refine dG (t:=jP aV) F.fn cQ ml (λ cdv A outer s H E' hr=>?_) ki;refine Jd.h ?_;exact ab (av (i:=4) cQ.nd rfl (Or.inl rfl) (lC (trs:=[(af 0,dC (.d (.bool true)))]) (me (dvQ 0) (lA) (oo)))) <|
  ab (av (i:=5) cQ.nd rfl (Or.inr rfl) (lC (trs:=[(af 0,iV (ae (af 0) (aF)))]) (me (dvQ 0) (cj (aB (dvQ 0) (aa))) (oo)))) <|
  ab (pA PassesOwn.never (jX (dvQ 5))
   (ab (av (i:=5) cQ.nd rfl (Or.inr rfl) (fH O7 hr.m rfl G7.mg G7.fn.kp G7.bd (aB (dvQ 5) (aB (dvQ 1) (aB (dvQ 2) (aB (dvQ 4) (aa))))))) <|
   ab (dn (bC (i:=6) cQ.nd rfl (Or.inl rfl) rfl (jI (own:=(["machine"]:List Str)) (fr:=[5,3]) rfl) (d9 (dvQ 5)) (λ _ _ _ _ _ _=>ah (i:=0) ab7 rfl (Or.inl rfl)) (λ _ _ _ _ _ _=>bq (az lB (iz false) (dvQ 0) (dvQ 2))) (λ _ _ _ _ _ _=>cu (d6 hr) (dvQ 1) (dvQ 0)))) <|
   ab (bF (jX (dvQ 6))
    (ai (aO (gX (fe hr) jo rfl E.b_min hZ (aB (dvQ 6) (aa)))))
    (aK)) <|
   ai (dn (aR PassesOwn.never rfl (d9 (dvQ 5)) (ah (i:=7) cQ.nd rfl (Or.inl rfl))
    (ai (gJ (d6 hr) (dvQ 4) (dvQ 7) (lA))))))) <|
  ai (aO (fQ))
theorem wV:(["machine", "many"]:List Str).Nodup:=by decide +kernel
theorem wU:(["machine", "many", "kinds"]:List Str).Nodup:=by decide +kernel
theorem bZ:bA mw q_9 (au dw):=by walk_at "sc"
theorem pQ(E:Env K mg)(F:Fn K mg "way_for" dw q_9 f fq)(hcd:fq.code=.ref c5)(z8:jR P w K mg base) :
  gu P w K mg base CX0 3 f fq q_9 (iu K aL):=by
 obtain⟨_,_,G8,O8⟩:=z8;refine zB (t:=l7 bQ) F.fn hcd bZ nR (λ A outer s H E' hr=>?_) lP;refine Jd.h ?_;exact ab (av (i:=3) bZ.nd rfl (Or.inr rfl) (aai rfl (jI (own:=(["machine", "many"]:List Str)) (fr:=[]) rfl) (aA (dvQ 0)) (λ _ _ _ _ _ _=>bX rfl (ar (ah (i:=0) wV rfl (Or.inl rfl)) (ar (ah (i:=1) wV rfl (Or.inl rfl)) (bB)))) (λ _ _ _ _ _ _=>du) (λ _ _ _ _ _ _=>dvQ 0) (λ _ _ _ _ _ _=>fE (aa)))) <|
  ab (aR PassesOwn.never rfl (aA (dvQ 1)) (bX rfl (ar (ah (i:=4) bZ.nd rfl (Or.inl rfl)) (ar (ah (i:=5) bZ.nd rfl (Or.inl rfl)) (ar (ah (i:=6) bZ.nd rfl (Or.inl rfl)) (bB)))))
   (ai (eX (el (cu (d6 hr) (dvQ 3) (dvQ 6)) (dvQ 5))))) <|
  ab (bC (i:=7) bZ.nd rfl (Or.inl rfl) rfl (jI (own:=(["machine", "many"]:List Str)) (fr:=[3]) rfl) (aA (dvQ 0)) (λ _ _ _ _ _ _=>bX rfl (ar (ah (i:=0) wU rfl (Or.inl rfl)) (ar (ah (i:=1) wU rfl (Or.inl rfl)) (bB)))) (λ _ _ _ _ _ _=>bq (az tS lH (gX bY eg rfl E.b_len dO (aB (cu (d6 hr) (dvQ 2) (dvQ 0)) (aa))) (dvQ 1))) (λ _ _ _ _ _ _=>dvQ 0)) <|
  ab (av (i:=8) bZ.nd rfl (Or.inl rfl) (fE (aa))) <|
  ab (dn (aR PassesOwn.never rfl (js (dvQ 3)) (ah (i:=9) bZ.nd rfl (Or.inl rfl))
   (ai (bF (az ie (iz true) (dvQ 2) (cu (d6 hr) (dvQ 3) (dvQ 9)))
    (ab (av (i:=10) bZ.nd rfl (Or.inl rfl) (fH O8 hr.m rfl G8.mg G8.fn.kp G8.bd (aB (dvQ 9) (aB (dvQ 1) (aB (dvQ 3) (aB (dvQ 7) (aa))))))) <|
    ai (bF (az qH oQ (dvQ 10) (fQ))
     (ai (eX (el (dvQ 8) (dvQ 10))))
     (aK)))
    (aK))))) <|
  ai (aO (uc (k:=0) (q:=eZ) hr.m rfl rfl E.b_min (acV (x:= "each") (fr:=[]) rfl) rfl E.h_way_for rfl (λ _ _ _ _ _=>rfl) (eB (dvQ 8)) (λ _ _ _ _ _ _ hr=>cj (aB (gX bY eg rfl E.b_len dO (aB (dvQ 0) (aa))) (aB (dvQ 0) (aa))))))
theorem aap:(["_law_other", "_law_lying_here", "_law_kind", "_law_found"]:List Str).Nodup:=by decide +kernel
theorem aaV:(["_law_other", "_law_steps_here", "_law_number"]:List Str).Nodup:=by decide +kernel
theorem ck:bA og zT (au iM):=by walk_at "sc"
theorem so(E:Env K mg)(F:Fn K mg "_law_from" iM zT f fq)(z3:g4 P w K mg base) :
  gu P w K mg base CX0 2 f fq zT (iu K c4):=by
 obtain⟨_,_,G3,O3⟩:=z3;refine dG (t:=ot aM) F.fn ck pJ (λ cdv A outer s H E' hr=>?_) nr;refine Jd.h ?_;exact ab (av (i:=4) ck.nd rfl (Or.inr rfl) (cj (aB (dvQ 2) (aa)))) <|
  ab (aR PassesOwn.never rfl (bR rfl E.b_range (aB (gX bY eg rfl E.b_len dO (aB (dvQ 0) (aa))) (aa))) (ah (i:=5) ck.nd rfl (Or.inl rfl))
   (ab (av (i:=6) ck.nd rfl (Or.inl rfl) (cS (aa))) <|
   ab (aR PassesOwn.never rfl (aA (dvQ 1)) (bX rfl (ar (ah (i:=7) ck.nd rfl (Or.inr rfl)) (ar (ah (i:=8) ck.nd rfl (Or.inr rfl)) (ar (ah (i:=9) ck.nd rfl (Or.inl rfl)) (bB)))))
    (ai (bF (az (d4 hr.h) cU (dvQ 9) (bh bj bb (dvQ 4) (qP sV nP (ak))))
     (ab (dn (bC (i:=10) ck.nd rfl (Or.inl rfl) rfl (jI (own:=(["_law_other"]:List Str)) (fr:=[1,8,4]) rfl) (d9 (dvQ 3)) (λ _ _ _ _ _ _=>ah (i:=0) aap rfl (Or.inl rfl)) (λ _ _ _ _ _ _=>bq (gL (cY (gb (gB (fH O3 hr.m rfl G3.mg G3.fn.kp G3.bd (aB (dvQ 1) (aB (dvQ 0) (aB (dvQ 2) (aa))))))) (cZ (az (lE hr.h) jU (dvQ 0) (dvQ 3)))))) (λ _ _ _ _ _ _=>dvQ 0))) <|
     ai (av (i:=6) ck.nd rfl (Or.inl rfl) (jk (dvQ 6) (ig rfl (jI (own:=(["_law_other"]:List Str)) (fr:=[3,7]) rfl) (aA (dvQ 10)) (λ _ _ _ _ _ _=>ah (i:=0) aaV rfl (Or.inl rfl)) (λ _ _ _ _ _ _=>du) (λ _ _ _ _ _ _=>cj (aB (cu (d6 hr) (dvQ 1) (dvQ 0)) (aB (dvQ 2) (aB (dvQ 0) (aa)))))))))
     (aK)))) <|
   ab (bF (az (d4 hr.h) cU (dvQ 6) (cS (aa)))
    (ai (aO (fQ)))
    (aK)) <|
   ab (av (i:=4) ck.nd rfl (Or.inr rfl) (aH mR j8 (dvQ 4) (dt (gX (fe hr) jo rfl E.b_min hZ (aB (dvQ 6) (aa))) (dq (ak)) (dv)))) <|
   ai (bF (az (d4 hr.h) cU (bh bj bb (gX (fe hr) jo rfl E.b_min hZ (aB (dvQ 6) (aa))) (ak)) (ak))
    (ai (aO (dvQ 4)))
    (aK)))) <|
  ai (aO (fQ))
theorem aaw:(["_law_machine", "_law_start"]:List Str).Nodup:=by decide +kernel
theorem aa6:(["_law_other", "_law_found", "_law_far", "_law_lying_here", "_law_kind"]:List Str).Nodup:=by decide +kernel
theorem cW:bA lp zJ (au gv):=by walk_at "sc"
theorem pE(E:Env K mg)(F:Fn K mg "_law_steps" gv zJ f fq)(z4:kc P w K mg base)(z3:g4 P w K mg base) :
  gu P w K mg base CX0 2 f fq zJ (iu K cE):=by
 obtain⟨_,_,G4,O4⟩:=z4;obtain⟨_,_,G3,O3⟩:=z3;refine dG (t:=ly bL aM) F.fn cW nT (λ cdv A outer s H E' hr=>?_) mq;refine Jd.h ?_;exact ab (av (i:=3) cW.nd rfl (Or.inr rfl) (yc (jz rfl) lR rfl E.b_dict rm (aB (ig rfl (jI (own:=(["_law_machine"]:List Str)) (fr:=[2]) rfl) (aA (fH O4 hr.m rfl G4.mg G4.fn.kp G4.bd (aB (dvQ 0) (aB (dvQ 1) (aa))))) (λ _ _ _ _ _ _=>ah (i:=0) aaw rfl (Or.inl rfl)) (λ _ _ _ _ _ _=>bq (az (fN hr.h) dY (dvQ 0) (dvQ 1))) (λ _ _ _ _ _ _=>cj (aB (dvQ 0) (aB (ak) (aa))))) (aa)))) <|
  ab (aR PassesOwn.never rfl (bR rfl E.b_range (aB (gX bY eg rfl E.b_len dO (aB (dvQ 0) (aa))) (aa))) (ah (i:=4) cW.nd rfl (Or.inr rfl))
   (ai (aR PassesOwn.never rfl (aA (dvQ 1)) (bX rfl (ar (ah (i:=5) cW.nd rfl (Or.inl rfl)) (ar (ah (i:=6) cW.nd rfl (Or.inr rfl)) (ar (ah (i:=7) cW.nd rfl (Or.inl rfl)) (bB)))))
    (ab (dn (bC (i:=8) cW.nd rfl (Or.inl rfl) rfl (jI (own:=(["_law_other"]:List Str)) (fr:=[3,4,1,6]) rfl) (d9 (dvQ 3)) (λ _ _ _ _ _ _=>ah (i:=0) aa6 rfl (Or.inl rfl)) (λ _ _ _ _ _ _=>bq (gL (cY (az (d4 hr.h) cU (cu (d6 hr) (dvQ 1) (dvQ 0)) (dvQ 2)) (cZ (gb (gB (fH O3 hr.m rfl G3.mg G3.fn.kp G3.bd (aB (dvQ 3) (aB (dvQ 0) (aB (dvQ 4) (aa))))))))))) (λ _ _ _ _ _ _=>dvQ 0))) <|
    ai (bF (gL (cY (jd (d6 hr) (dvQ 7) (dvQ 3)) (cY (az (fN hr.h) dY (dvQ 7) (dvQ 2)) (cZ (az (fN hr.h) dY (dvQ 8) (cS (aa)))))))
     (ai (gJ (d6 hr) (dvQ 3) (dvQ 7) (aH bU bp (dvQ 4) (ak))))
     (aK)))))) <|
  ai (aO (dvQ 3))
theorem g9:bA lK zU (au gO):=by walk_at "sc"
theorem pW(E:Env K mg)(F:Fn K mg "_law_great" gO zU f fq)(z3:g4 P w K mg base) :
  gu P w K mg base CX0 2 f fq zU (iu K cC):=by
 obtain⟨_,_,G3,O3⟩:=z3;refine dG (t:=lz aM) F.fn g9 nh (λ cdv A outer s H E' hr=>?_) lu;refine Jd.h ?_;exact ab (av (i:=3) g9.nd rfl (Or.inl rfl) (fE (aa))) <|
  ab (dn (aR PassesOwn.never rfl (d9 (dvQ 1)) (ah (i:=4) g9.nd rfl (Or.inl rfl))
   (ai (bF (gL (cY (az qH oQ (cu (d6 hr) (dvQ 1) (dvQ 4)) (fQ)) (cZ (gb (gB (fH O3 hr.m rfl G3.mg G3.fn.kp G3.bd (aB (dvQ 0) (aB (dvQ 4) (aB (dvQ 2) (aa))))))))))
    (ai (eX (el (dvQ 3) (cj (aB (gX bY eg rfl E.b_len dO (aB (cu (d6 hr) (dvQ 1) (dvQ 4)) (aa))) (aB (cu (d6 hr) (dvQ 1) (dvQ 4)) (aa)))))))
    (aK))))) <|
  ai (aO (tP (az (fN hr.h) dY (dvQ 3) (cS (aa))) (bh bj bb (gX (fe hr) jo rfl E.b_min hZ (aB (dvQ 3) (aa))) (ak)) (fQ)))
theorem abl:(["_law_j", "_law_bag_here"]:List Str).Nodup:=by decide +kernel
theorem ay:bA fh zL (au cK):=by walk_at "sc"
theorem ij(E:Env K mg)(F:Fn K mg "_law_great_right" cK zL f fq)(z1:iN P w K mg base)(z10:o8 P w K mg base)(z11:lS P w K mg base)(z12:lD P w K mg base)(z9:i4 P w K mg base) :
  gu P w K mg base CX0 4 f fq zL (iu K aI):=by
 obtain⟨_,_,G1,O1⟩:=z1;obtain⟨_,_,G10,O10⟩:=z10;obtain⟨_,_,G11,O11⟩:=z11;obtain⟨_,_,G12,O12⟩:=z12;obtain⟨_,_,G9,O9⟩:=z9;refine dG (t:=ff aD c4 cE cC aL) F.fn ay g8 (λ cdv A outer s H E' hr=>?_) gM;refine Jd.h ?_;exact ab (bC (i:=1) ay.nd rfl (Or.inl rfl) rfl (jI (own:=(["_law_j"]:List Str)) (fr:=[0]) rfl) (bR rfl E.b_range (aB (aH bU bp (ak) (fH O1 hr.m rfl G1.mg G1.fn.kp G1.bd (aB (dvQ 0) (aB (ak) (aa))))) (aa))) (λ _ _ _ _ _ _=>ah (i:=0) abl rfl (Or.inl rfl)) (λ _ _ _ _ _ _=>du) (λ _ _ _ _ _ _=>cj (aB (aH bU bp (bJ) (aH qZ oA (bh bj bb (bJ) (dvQ 0)) (aH bU bp (ak) (aH fL dU (dvQ 0) (ak))))) (aB (aH bU bp (ak) (fH O1 hr.m rfl G1.mg G1.fn.kp G1.bd (aB (dvQ 1) (aB (ak) (aa))))) (aa))))) <|
  ab (av (i:=2) ay.nd rfl (Or.inl rfl) (dt (cS (aB (bJ) (aB (bJ) (aB (bJ) (aB (bJ) (aB (bJ) (aB (bJ) (aB (bJ) (aB (bJ) (aa)))))))))) (dv) (dq (aH bU bp (ak) (fH O1 hr.m rfl G1.mg G1.fn.kp G1.bd (aB (dvQ 0) (aB (ak) (aa)))))))) <|
  ab (vq (i:=3) (j:=4) rfl ay.nd rfl rfl (by decide) rfl rfl (aB (fE (aa)) (aB (ak) (aa)))) <|
  ab (aR PassesOwn.never rfl (aA (dvQ 1)) (bX rfl (ar (ah (i:=5) ay.nd rfl (Or.inl rfl)) (ar (ah (i:=6) ay.nd rfl (Or.inl rfl)) (bB))))
   (ab (av (i:=7) ay.nd rfl (Or.inl rfl) (fH O1 hr.m rfl G1.mg G1.fn.kp G1.bd (aB (dvQ 0) (aB (gX bY eg rfl E.b_len dO (aB (dvQ 2) (aa))) (aa))))) <|
   ai (aR PassesOwn.never rfl (aA (dt (jk (dt (dvQ 2) (dq (dvQ 7)) (dv)) (dt (dvQ 2) (dv) (dq (dvQ 7)))) (dv) (dq (aH aao xK (dvQ 6) (yc sG abw rfl E.b_int aaL (aB (rV (d4 hr.h) cU (fH O1 hr.m rfl G1.mg G1.fn.kp G1.bd (aB (dvQ 0) (aB (ak) (aa)))) (ak)) (aa))))))) (ah (i:=8) ay.nd rfl (Or.inl rfl))
    (ab (av (i:=4) ay.nd rfl (Or.inl rfl) (aH bU bp (aH bU bp (dvQ 4) (ak)) (fH O1 hr.m rfl G1.mg G1.fn.kp G1.bd (aB (dvQ 0) (aB (ak) (aa)))))) <|
    ai (eX (el (dvQ 3) (cj (aB (dvQ 4) (aB (dvQ 8) (aB (dvQ 5) (aa))))))))))) <|
  ab (rH (av (i:=9) ay.nd rfl (Or.inl rfl) (jK))) <|
  ab (aR PassesOwn.never rfl (aA (dvQ 1)) (bX rfl (ar (ah (i:=5) ay.nd rfl (Or.inl rfl)) (ar (ah (i:=6) ay.nd rfl (Or.inl rfl)) (bB))))
   (ai (gJ (d6 hr) (dvQ 9) (dvQ 5) (fH O10 hr.m rfl G10.mg G10.fn.kp G10.bd (aB (dvQ 1) (aB (dvQ 3) (aB (dvQ 5) (aB (fH O11 hr.m rfl G11.mg G11.fn.kp G11.bd (aB (dvQ 1) (aB (dvQ 3) (aB (dvQ 5) (aa))))) (aa))))))))) <|
  ab (aR PassesOwn.never rfl (aA (jk (dvQ 2) (cS (aB (bJ) (aa))))) (ah (i:=8) ay.nd rfl (Or.inl rfl))
   (ab (av (i:=10) ay.nd rfl (Or.inl rfl) (fH O12 hr.m rfl G12.mg G12.fn.kp G12.bd (aB (dvQ 3) (aB (dvQ 9) (aB (dvQ 8) (aa)))))) <|
   ai (bF (az (fN hr.h) dY (gX (fo hr.h) iT rfl E.b_repr ko (aB (fH O9 hr.m rfl G9.mg G9.fn.kp G9.bd (aB (eB (yc dE gE rfl E.b_list kb (aB (dvQ 1) (aa)))) (aB (eB (yc dE gE rfl E.b_list kb (aB (dvQ 3) (aa)))) (aB (dvQ 8) (aa))))) (aa))) (gX (fo hr.h) iT rfl E.b_repr ko (aB (dvQ 10) (aa))))
    (ai (aO (lA)))
    (aK)))) <|
  ai (aO (lA))
theorem abk:(["_law_j", "_law_bag_here", "_law_many"]:List Str).Nodup:=by decide +kernel
theorem aac:(["_law_kind", "_law_many"]:List Str).Nodup:=by decide +kernel
theorem eJ:bA abq q_0 (au kz):=by walk_at "sc"
theorem abT(E:Env K mg)(F:Fn K mg "law" kz q_0 f fq)(z0:rp P w K mg base)(z1:iN P w K mg base)(z2:my P w K mg base)(z6:rZ P w K mg base)(z9:i4 P w K mg base)(z13:eW P w K mg base) :
  gu P w K mg base CX0 5 f fq q_0 (iu K jA):=by
 obtain⟨_,_,G0,O0⟩:=z0;obtain⟨_,_,G1,O1⟩:=z1;obtain⟨_,_,G2,O2⟩:=z2;obtain⟨_,_,G6,O6⟩:=z6;obtain⟨_,_,G9,O9⟩:=z9;obtain⟨_,_,G13,O13⟩:=z13;refine dG (t:=aa2 dM aD cD cL aL aI) F.fn eJ yx (λ cdv A outer s H E' hr=>?_) uv;refine Jd.h ?_;exact ab (av (i:=1) eJ.nd rfl (Or.inr rfl) (fH O0 hr.m rfl G0.mg G0.fn.kp G0.bd (aB (dvQ 0) (aa)))) <|
  ab (aR PassesOwn.never rfl (bR rfl E.b_range (aB (ak) (aa))) (ah (i:=2) eJ.nd rfl (Or.inl rfl))
   (ab (av (i:=3) eJ.nd rfl (Or.inr rfl) (fH O1 hr.m rfl G1.mg G1.fn.kp G1.bd (aB (dvQ 1) (aB (ak) (aa))))) <|
   ab (bC (i:=4) eJ.nd rfl (Or.inl rfl) rfl (jI (own:=(["_law_j"]:List Str)) (fr:=[1,3]) rfl) (bR rfl E.b_range (aB (dvQ 3) (aa))) (λ _ _ _ _ _ _=>ah (i:=0) abk rfl (Or.inl rfl)) (λ _ _ _ _ _ _=>du) (λ _ _ _ _ _ _=>cj (aB (aH bU bp (bJ) (aH qZ oA (bh bj bb (bJ) (dvQ 0)) (aH bU bp (ak) (aH fL dU (dvQ 0) (ak))))) (aB (fH O1 hr.m rfl G1.mg G1.fn.kp G1.bd (aB (dvQ 1) (aB (bh bj bb (cS (aB (ak) (aB (ak) (aa)))) (aH mM mV (dvQ 2) (ak))) (aa)))) (aa))))) <|
   ab (av (i:=5) eJ.nd rfl (Or.inl rfl) (dt (cS (aB (bJ) (aB (bJ) (aB (bJ) (aB (bJ) (aB (bJ) (aa))))))) (dv) (dq (aH bU bp (ak) (fH O1 hr.m rfl G1.mg G1.fn.kp G1.bd (aB (dvQ 1) (aB (ak) (aa)))))))) <|
   ab (av (i:=6) eJ.nd rfl (Or.inl rfl) (eB (fH O2 hr.m rfl G2.mg G2.fn.kp G2.bd (aB (dvQ 1) (aB (dvQ 4) (aB (yc (jz rfl) lR rfl E.b_dict rm (aB (ig rfl (jI (own:=(["_law_kind"]:List Str)) (fr:=[3]) rfl) (aA (dvQ 5)) (λ _ _ _ _ _ _=>ah (i:=0) aac rfl (Or.inl rfl)) (λ _ _ _ _ _ _=>du) (λ _ _ _ _ _ _=>cj (aB (dvQ 0) (aB (dvQ 1) (aa))))) (aa))) (aa))))))) <|
   ai (aR PassesOwn.never rfl (aA (jk (dvQ 5) (cS (aB (bJ) (aa))))) (ah (i:=7) eJ.nd rfl (Or.inl rfl))
    (ab (av (i:=8) eJ.nd rfl (Or.inl rfl) (fH O6 hr.m rfl G6.mg G6.fn.kp G6.bd (aB (dvQ 4) (aB (dvQ 6) (aB (dvQ 7) (aa)))))) <|
    ab (av (i:=9) eJ.nd rfl (Or.inl rfl) (cj (aB (eB (yc dE gE rfl E.b_list kb (aB (dvQ 4) (aa)))) (aB (eB (yc dE gE rfl E.b_list kb (aB (dvQ 6) (aa)))) (aa))))) <|
    ai (aR PassesOwn.never rfl (bR rfl E.b_range (aB (ak) (aa))) (ah (i:=10) eJ.nd rfl (Or.inl rfl))
     (ab (av (i:=11) eJ.nd rfl (Or.inl rfl) (fH O9 hr.m rfl G9.mg G9.fn.kp G9.bd (aB (bh bj bb (dvQ 9) (ak)) (aB (bh bj bb (dvQ 9) (ak)) (aB (dvQ 7) (aa)))))) <|
     ai (bF (gL (sy (az (fN hr.h) dY (dvQ 11) (dvQ 8)) (sy (az (fN hr.h) dY (gX (fo hr.h) iT rfl E.b_repr ko (aB (dvQ 11) (aa))) (gX (fo hr.h) iT rfl E.b_repr ko (aB (dvQ 8) (aa)))) (uN (az (fN hr.h) dY (dvQ 9) (cj (aB (dvQ 4) (aB (dvQ 6) (aa)))))))))
      (ai (aO (lA)))
      (aK)))))))) <|
  ai (aO (xI (fH O13 hr.m rfl G13.mg G13.fn.kp G13.bd (aB (dvQ 1) (aa))) (xG (fH O13 hr.m rfl G13.mg G13.fn.kp G13.bd (aB (dvQ 1) (aa))))))
theorem all_mk{l:W.OpenLaw}{w:World}{K:FG}{h:Heap}{mg:Str->Option Value}{fa:Addr}(X:K.In h)(G:h.Ns mainGlobals mg)(hfa:mg "law" = some (.ref fa))
  (p0:PFn K "_law_bag" k5)
  (p1:PFn K "_law_take" iI)
  (p2:PFn K "_law_lying" gH)
  (p3:PFn K "_law_has" j5)
  (p4:PFn K "_law_free" iL)
  (p5:PFn K "_law_longer" ft)
  (p6:PFn K "_law_due" kJ)
  (p7:PFn K "one_further" dh)
  (p8:PFn K "way_from" fw)
  {f9:Addr}{oc9 kV9 dc9 pm9 cd9 ct9:Value}{od9 an9:Option Addr}{sl9:Array (Option Value)}
  (a9:W.nsIn K mainGlobals "way_for" = some (some (.ref f9)))(l9:K.lookup f9=some ⟨oc9,od9,.func (W.fnOf "way_for" "way_for" (cv dw) (bN dw) (au dw) .none kV9 dc9 pm9 an9 cd9 ct9),sl9⟩)(c9:W.codeIn K cd9 "way_for" = true)(k9:W.keepIn K (.ref f9)=true)
  (cc9:cd9=.ref c5)
  (p10:PFn K "_law_from" iM)
  (p11:PFn K "_law_steps" gv)
  (p12:PFn K "_law_great" gO)
  (p13:PFn K "_law_great_right" cK)
  {f14:Addr}{oc14 kV14 dc14 pm14 cd14 ct14:Value}{od14 an14:Option Addr}{sl14:Array (Option Value)}
  (a14:W.nsIn K mainGlobals "law" = some (some (.ref f14)))(l14:K.lookup f14=some ⟨oc14,od14,.func (W.fnOf "law" "law" (cv kz) (bN kz) (au kz) .none kV14 dc14 pm14 an14 cd14 ct14),sl14⟩)(c14:W.codeIn K cd14 "law" = true)(k14:W.keepIn K (.ref f14)=true)
  (xf_h_way_for:W.codeHdIn K c5 aP=true)
  (b_abs:W.nsIn K mainGlobals "abs" = some none)
  (b_dict:W.nsIn K mainGlobals "dict" = some none)
  (b_int:W.nsIn K mainGlobals "int" = some none)
  (b_len:W.nsIn K mainGlobals "len" = some none)
  (b_list:W.nsIn K mainGlobals "list" = some none)
  (b_min:W.nsIn K mainGlobals "min" = some none)
  (b_range:W.nsIn K mainGlobals "range" = some none)
  (b_repr:W.nsIn K mainGlobals "repr" = some none)
  (b_sorted:W.nsIn K mainGlobals "sorted" = some none) :
  ∃ fq:FuncData,(∀ (s:Shared) (v:Value),BindsTo s fq ⟨[v],[]⟩ [("_law_script",v)])/\∀ base:Heap,K.In base->base.Ns mainGlobals mg->gu l.prog w K mg base CX0 5 fa fq q_0 (iu K jA):=by
 have e:=hfa.symm.trans (W.mg_of X G a14);cases e;have E:Env K mg:=⟨xf_h_way_for,W.mg_none_of X G b_abs,W.mg_none_of X G b_dict,W.mg_none_of X G b_int,W.mg_none_of X G b_len,W.mg_none_of X G b_list,W.mg_none_of X G b_min,W.mg_none_of X G b_range,W.mg_none_of X G b_repr,W.mg_none_of X G b_sorted⟩;obtain⟨_,_,G0⟩:=p0.fn (ps:=q_0) X G (by walk_at "b1");obtain⟨_,_,G1⟩:=p1.fn (ps:=q_1) X G (by walk_at "b2");obtain⟨_,_,G2⟩:=p2.fn (ps:=q_2) X G (by walk_at "b3");obtain⟨_,_,G3⟩:=p3.fn (ps:=q_3) X G (by walk_at "b3");obtain⟨_,_,G4⟩:=p4.fn (ps:=q_4) X G (by walk_at "b2");obtain⟨_,_,G5⟩:=p5.fn (ps:=q_5) X G (by walk_at "b3");obtain⟨_,_,G6⟩:=p6.fn (ps:=q_6) X G (by walk_at "b3");obtain⟨_,_,G7⟩:=p7.fn (ps:=q_7) X G (by walk_at "b4");obtain⟨_,_,G8⟩:=p8.fn (ps:=q_8) X G (by walk_at "b4");have G9:Fn K mg "way_for" dw q_9 _ _:=yb X G a9 l9 c9 k9 (λ _ _ _ _ _ _ us hl=>by obtain⟨_,_,_,rfl⟩:=D.yr hl;rfl);obtain⟨_,_,G10⟩:=p10.fn (ps:=zT) X G (by walk_at "b4");obtain⟨_,_,G11⟩:=p11.fn (ps:=zJ) X G (by walk_at "b3");obtain⟨_,_,G12⟩:=p12.fn (ps:=zU) X G (by walk_at "b3");obtain⟨_,_,G13⟩:=p13.fn (ps:=zL) X G (by walk_at "b1");have G14:Fn K mg "law" kz q_0 _ _:=yb X G a14 l14 c14 k14 (λ _ _ _ _ _ _ us hl=>by obtain⟨_,rfl⟩:=D.xq hl;rfl);refine⟨W.fnOf "law" "law" (cv kz) (bN kz) (au kz) .none kV14 dc14 pm14 an14 cd14 ct14,λ s v=>.of_eq rfl,λ base _ _=>?_⟩;have z0:rp l.prog w K mg base:=⟨_,_,G0,vP E G0⟩;have z1:iN l.prog w K mg base:=⟨_,_,G1,tK E G1⟩;have z2:my l.prog w K mg base:=⟨_,_,G2,pT E G2 z1⟩;have z3:g4 l.prog w K mg base:=⟨_,_,G3,vz E G3⟩;have z4:kc l.prog w K mg base:=⟨_,_,G4,rJ E G4⟩;have z5:jL l.prog w K mg base:=⟨_,_,G5,nE E G5 z3⟩;have z6:rZ l.prog w K mg base:=⟨_,_,G6,uR E G6 z3 z4 z5⟩;have z7:gK l.prog w K mg base:=⟨_,_,G7,jB E G7⟩;have z8:jR l.prog w K mg base:=⟨_,_,G8,nN E G8 z7⟩;have z9:i4 l.prog w K mg base:=⟨_,_,G9,pQ E G9 cc9 z8⟩;have z10:o8 l.prog w K mg base:=⟨_,_,G10,so E G10 z3⟩;have z11:lS l.prog w K mg base:=⟨_,_,G11,pE E G11 z4 z3⟩;have z12:lD l.prog w K mg base:=⟨_,_,G12,pW E G12 z3⟩;have z13:eW l.prog w K mg base:=⟨_,_,G13,ij E G13 z1 z10 z11 z12 z9⟩;have O14:=abT (P:=l.prog) (w:=w) (base:=base) E G14 z0 z1 z2 z6 z9 z13;exact O14
end
theorem walk{l:W.OpenLaw}{q:Program}{loose:List Str}{XP:(Str->Option Value)->Heap->Prop}{YP:World->Heap->Prop}{d:DefRec}{K:Params->FG}(hq:PyProof.Rows.importsNone q=true)(hn:l.most=some 63)(hdf:d.params.defaults=[])
  (hT:∀ w:World,W.codeHdIn (K w.params) c5 aP=true/\(K w.params).lookup aP=none)(hY:∀ (w:World) (h:Heap),YP w h->(K w.params).In h/\∀ T∈[aP],h.get? T=some {cls:=.none,data:=.fields #[]})
  (F:∀ (w:World) (mg:Str->Option Value) (fa:Addr) (h:Heap),(K w.params).In h->h.Ns mainGlobals mg->mg d.name=some (.ref fa) ->
   ∃ fq:FuncData,(∀ (s:Shared) (u:Value),BindsTo s fq ⟨[u],[]⟩ [("_law_script",u)])/\∀ base:Heap,(K w.params).In base->base.Ns mainGlobals mg->gu l.prog w (K w.params) mg base CX0 5 fa fq q_0 (iu (K w.params) jA)) :
  W.WalkO q loose XP YP l.row.toRowW d [] (λ f vs=>PySem.call f vs):=
 L2.uH (n:=63) (k:=5) (x:= "_law_script") (CX:=λ _=>CX0) (sp:=λ w=>iu (K w.params) jA) hq hn (by decide) hdf ⟨rfl,rfl,by decide,by decide⟩ [aP] (λ w T h=>by rw[List.mem_singleton.mp h];exact⟨⟨_,(hT w).1⟩,(hT w).2⟩) hY F (λ _ H a ns hl hO hB hS=>D.qh (q:=eZ) (lpos:=⟨13,25,13,55⟩) hl hO hB hS vF) λ _ _ _ _ _ z=>z
end K36
end
namespace PySem.W.Fast
def tw7143174266930818046:=0
def tw9512813069349596509:=0
def tw14327322901348179478:=0
def tw12135992845712334351:=0
def tw8582872885256443982:=0
def tw18280413497815059623:=0
def tw6778446736505284098:=0
def tw9611241968393751035:=0
end PySem.W.Fast
open PySem PySem.W PyProof.Rows
local macro_rules | `(tactic| walk_at "kf")=>`(tactic| (refine' D.abi ?a ?l ?c ?k; (case a=>k_is); (case l=>k_is); (case c=>k_is); (case k=>k_is)))
local macro_rules | `(tactic| walk_at "km")=>`(tactic| (refine' D.aaI ?a ?i ?l ?c ?k; (case a=>k_is); (case i=>k_is); (case l=>k_is); (case c=>k_is); (case k=>k_is)))
local macro_rules | `(tactic| walk_at "kx")=>`(tactic| (refine' D.pxi_mk ?a ?i ?l ?c ?k ?m ?t ?n; (case a=>k_is); (case i=>k_is); (case l=>k_is); (case c=>k_is); (case k=>k_is); (case m=>kernel_rfl); (case t=>k_is); (case n=>k_is)))
local macro_rules | `(tactic| walk_at "ke")=>`(tactic| (refine' ⟨?a,?b,?c,?d,?e⟩; (case a=>kernel_rfl); (case b=>k_is); (case c=>k_is); (case d=>k_is); (case e=>k_is)))
set_option maxRecDepth 100000
set_option maxHeartbeats 0
theorem PySem.Challenge.cw_placedworks_k36_whole_shortest_ways_holds : PySem.Challenge.rw_placedworks_k36_whole_shortest_ways.Holds := by
 w_on;o_law;k_head; (case hw=>w_witness2)
 k_fill
 refine K36.walk (l:=PySem.Challenge.rw_placedworks_k36_whole_shortest_ways) ?Q rfl rfl ?T (λ w h Y=>⟨PySem.W.km_in_of Y,PySem.W.km_tabs_of Y⟩) ?F
 case Q=>kernel_rfl
 case T=>(intro w;exact⟨by kernel_rfl,by kernel_rfl⟩)
 case F =>
  intro w mg fa h KX G hmg;refine' K36.all_mk KX G hmg ?v0 ?v1 ?v2 ?v3 ?v4 ?v5 ?v6 ?v7 ?v8 ?v9 ?v10 ?v11 ?v12 ?v13 ?v14 ?v15 ?v16 ?v17 ?v18 ?v19 ?v20 ?v21 ?v22 ?v23 ?v24 ?v25 ?v26 ?v27 ?v28 ?v29 ?v30 ?v31
  (case v0 | v1 | v2 | v3 | v4 | v5 | v6 | v7 | v8 | v14 | v15 | v16 | v17=>walk_at "kf")
  (case v9 | v10 | v11 | v12 | v18 | v19 | v20 | v21 | v23 | v24 | v25 | v26 | v27 | v28 | v29 | v30 | v31=>k_is)
  (case v13=>exact rfl)
  (case v22=>kernel_rfl)
