import PyProof.Rows.All
import Wide.All
import OpenK.AllK
import Wide.FinOn
import Lean
import PyProof.EqAt
import PyProof.EqKinds
import PyProof.TupleCall
import KE.KSortTup
import KE.KDictSum
import PyProof.Rows.Range3
import PyProof.Rows.SortRev
import PyProof.StrBlock2
import PyProof.ZipIter
import PyProof.Rows.ZipGen
import PyProof.NeKinds
import PyProof.DictCompW
import PyProof.DictWalks
import PyProof.AttrMissHeap
import PyProof.WalksS
import KE.KDictOf
import KE.KListMore
import KE.KEqDict
import PyProof.StationsW
import PyProof.InstStoreFacts
import PyProof.ExcBaseAll.ValueError
import PyProof.ExcClass2
import PyProof.RulesAs
import KE.KTryMore
import PyProof.ExcArgs
import KE.KIsAll
import OpenK.KOwn
import PyProof.P3In
import PyProof.DictUpdate
import PyProof.MeetsSeq2
import KE.KIntText
import KE.KRevSl
import PyProof.Rows.StrLawsPart
import PyProof.EnumMake
import PyProof.Draws
import PyProof.ListRange
import PyProof.TupleOfStr
import KE.KLam
import KE.KNestM
import KE.KMinKey
import PyProof.Rows.StrSplitMax
import PyProof.StrLawsOccR
import PySem.Challenge.RW_placedworks_k38_sums_refused
set_option genSizeOf false
set_option genSizeOfSpec false
set_option bootstrap.genMatcherCode false
set_option Elab.async false
set_option linter.all false
set_option maxRecDepth 100000
abbrev FG:=PySem.W.Frag
abbrev PN:=List (PySem.Addr×PySem.Obj)
abbrev VP:=PySem.Value->PySem.Shared->Prop
abbrev ND(x:PySem.Str):Prop:=(x==("__debug__" : PySem.Str))=false
section
open PySem PySem.Spec PyProof.Rows
namespace L2
abbrev Key:=Sum Int Str
def qp:Key->Value->Bool
 | .inl k,v=>Value.isInt k v
 | .inr x,v=>Value.isStrOf x v
def ajq(w:World):Key->Int
 | .inl k=>hashInt k
 | .inr x=>hashStr w x
theorem bV:∀ {k:Key} {v:Value},qp k v=true->(∃ i t,k=Sum.inl i/\v=Value.int i t)\/(∃ x t,k=Sum.inr x/\v=Value.str x t)
 | .inl i,v,h=>by obtain⟨t,e⟩:=Value.isInt_shape (k:=i) (v:=v) h;exact .inl ⟨i,t,rfl,e⟩
 | .inr x,v,h=>by obtain⟨t,e⟩:=Value.isStrOf_shape (x:=x) (v:=v) h;exact .inr ⟨x,t,rfl,e⟩
theorem yh(i:Int)(t:Tok):qp (.inl i) (.int i t)=true:=by simp[qp,Value.isInt]
theorem yH(x:Str)(t:Tok):qp (.inr x) (.str x t)=true:=by simp[qp,Value.isStrOf]
theorem agl(a b:Int):decide ((Sum.inl a:Key)=Sum.inl b)=(a==b):=by
 by_cases e:a=b
 ·subst e;simp
 ·have h:¬ (Sum.inl a:Key)=Sum.inl b:=λ q=>e (Sum.inl.inj q);rw[decide_eq_false h];exact(beq_eq_false_iff_ne.mpr e).symm
theorem aeX(a b:Str):decide ((Sum.inr a:Key)=Sum.inr b)=decide (a=b):=by
 by_cases e:a=b
 ·subst e;simp
 ·have h:¬ (Sum.inr a:Key)=Sum.inr b:=λ q=>e (Sum.inr.inj q);rw[decide_eq_false h,decide_eq_false e]
theorem ae6(a:Int)(b:Str):decide ((Sum.inl a:Key)=Sum.inr b)=false:=decide_eq_false (λ q=>nomatch q)
theorem agd(a:Str)(b:Int):decide ((Sum.inr a:Key)=Sum.inl b)=false:=decide_eq_false (λ q=>nomatch q)
def bu(prog:Program)(w:World):PySem.KeyKind prog w Key where
 is:=qp
 hash:=ajq w
 inj:=λ v a b ha hb=>by
  rcases bV ha with ⟨i,t,rfl,rfl⟩ | ⟨x,t,rfl,rfl⟩
  ·rcases bV hb with ⟨j,u,rfl,e⟩ | ⟨y,u,rfl,e⟩
   ·injection e with e1 _;rw[e1]
   ·exact nomatch e
  ·rcases bV hb with ⟨j,u,rfl,e⟩ | ⟨y,u,rfl,e⟩
   ·exact nomatch e
   ·injection e with e1 _;rw[e1]
 byValue:=λ k v h=>by
  rcases bV h with ⟨i,t,rfl,rfl⟩ | ⟨x,t,rfl,rfl⟩<;>rfl
 pyHash:=λ hv h=>by
  rcases bV hv with ⟨i,t,rfl,rfl⟩ | ⟨x,t,rfl,rfl⟩
  ·exact wpAny_pyHash_int h
  ·exact wpAny_pyHash_str h
 eqBool:=λ hu hv h=>by
  rcases bV hu with ⟨i,t,rfl,rfl⟩ | ⟨x,t,rfl,rfl⟩
  ·rcases bV hv with ⟨j,u,rfl,rfl⟩ | ⟨y,u,rfl,rfl⟩
   ·rw[agl] at h;exact wpAny_eqBool_int h
   ·rw[ae6] at h;exact SeqAt.EqAt.int_str i t y u _ _ _ _ h
  ·rcases bV hv with ⟨j,u,rfl,rfl⟩ | ⟨y,u,rfl,rfl⟩
   ·rw[agd] at h;exact SeqAt.EqAt.str_int x t j u _ _ _ _ h
   ·rw[aeX] at h;exact wpAny_eqBool_str h
 «strs»:=λ k x t v h=>by
  rcases bV h with ⟨i,u,rfl,e⟩ | ⟨y,u,rfl,e⟩
  ·exact nomatch e
  ·injection e with e1 _
   subst e1;cases v<;>rfl
theorem uQ(prog:Program)(w:World)(k:Key)(v:Value):(bu prog w).is k v=qp k v:=rfl
theorem rK(prog:Program)(w:World)(i:Int)(t:Tok):(bu prog w).is (.inl i) (.int i t)=true:=yh i t
theorem sE(prog:Program)(w:World)(x:Str)(t:Tok):(bu prog w).is (.inr x) (.str x t)=true:=yH x t
inductive V where
 | non | bl (b:Bool) | int (i:Int) | str (x:Str) | byt (b:Array UInt8) | flt (b:UInt64) | ref (a:Addr) | ty (n:String)
 deriving DecidableEq
def RelV:V->Value->Prop
 | .non,u=>u=Value.none
 | .bl b,u=>u=Value.bool b
 | .int i,u=>∃ t,u=Value.int i t
 | .str x,u=>∃ t,u=Value.str x t
 | .byt b,u=>∃ t,u=Value.bytes b t
 | .flt b,u=>∃ t,u=Value.float b t
 | .ref a,u=>u=Value.ref a
 | .ty n,u=>u=Value.type n
abbrev Vals:List V->List Value->Prop:=Paired RelV
theorem Vals.length{xs:List V}{us:List Value}(r:Vals xs us):xs.length=us.length:=Paired.length r
theorem Vals.get:∀ {xs:List V} {us:List Value} {i:Nat} {x:V},Vals xs us->xs[i]? =some x->∃ u,us[i]? =some u/\RelV x u
 | _,_,_,_,.nil,e=>by simp at e
 | _,_,0,_,.cons r _,e=>by simp at e;subst e;exact⟨_,rfl,r⟩
 | _,_,i+1,x,.cons _ t,e=>by obtain⟨u,h1,h2⟩:=Vals.get (i:=i) (x:=x) t (by simpa using e);exact⟨u,by simpa using h1,h2⟩
theorem Vals.set{x:V}{u:Value}(r:RelV x u):∀ {xs:List V} {us:List Value} (i:Nat),Vals xs us->Vals (xs.set i x) (us.set i u)
 | _,_,_,.nil=>.nil
 | _,_,0,.cons _ t=>.cons r t
 | _,_,i+1,.cons q t=>.cons q (Vals.set r i t)
theorem Vals.append:∀ {xs ys:List V} {us ws:List Value},Vals xs us->Vals ys ws->Vals (xs++ys) (us++ws)
 | _,_,_,_,.nil,s=>s
 | _,_,_,_,.cons r t,s=>.cons r (Vals.append t s)
theorem Vals.take:∀ {xs:List V} {us:List Value} (n:Nat),Vals xs us->Vals (xs.take n) (us.take n)
 | _,_,0,_=>.nil
 | _,_,_+1,.nil=>.nil
 | _,_,n+1,.cons r t=>.cons r (Vals.take n t)
theorem Vals.drop:∀ {xs:List V} {us:List Value} (n:Nat),Vals xs us->Vals (xs.drop n) (us.drop n)
 | _,_,0,r=>r
 | _,_,_+1,.nil=>.nil
 | _,_,n+1,.cons _ t=>Vals.drop n t
def uF:Option V->Option Value->Prop
 | some v,some u=>RelV v u
 | none,none=>True
 | _,_=>False
def KV{κ:Type}:List (κ×V)->List (κ×Value)->Prop:=Paired λ(p:κ×V) (q:κ×Value)=>p.1=q.1/\RelV p.2 q.2
def kV:Key->V
 | .inl i=>.int i
 | .inr x=>.str x
inductive HO where
 | lst (xs:List V)
 | tup (xs:List V)
 | dK (kvs:List (Key×V)) | dT (kvs:List (List Key×V))
 | set (S:Int->Bool) (n:Nat)
 | ins (C dx:Addr) (fs:List (Str×V))
 | own (x:Addr)
 | xd (fs:List (Str×V))
 | met (f x:Addr)
 | rng (lo hi:Int)
 | frz (o:Obj) (u:HO)
 | tbl (ps:Array Value)
 | ext (φ:Heap->Prop)
abbrev Hp:=Addr->Option HO
def upd(H:Hp)(a:Addr)(o:HO):Hp:=λ b=>if b=a then some o else H b
theorem ar{H:Hp}{a:Addr}{o:HO}:upd H a o a=some o:=by unfold upd;rw[if_pos rfl]
theorem ao{H:Hp}{a b:Addr}{o:HO}(h:b≠a):upd H a o b=H b:=by unfold upd;rw[if_neg h]
theorem yS{H:Hp}{a:Addr}{o u:HO}:upd (upd H a o) a u=upd H a u:=by
 funext b;unfold upd;split<;>rfl
theorem vp{H:Hp}{a b:Addr}{o u:HO}(h:H a=some o)(h':H b=some u)(d:o≠u):a≠b:=by intro e;subst e;rw[h] at h';exact d (Option.some.inj h')
theorem aV{H:Hp}{a b:Addr}{o:HO}(h:H a=some o)(h':H b=none):a≠b:=by intro e;subst e;rw[h] at h';cases h'
def yq(h:Heap)(a:Addr)(items:Array Value):Prop:=∃ o,h.get? a=some o/\o.cls=.type "tuple" /\ o.dict=none/\∃ n,o.data=.seq items n
theorem yq.tup{h:Heap}{a:Addr}{items:Array Value}(x:yq h a items):IsTup h a items:=let ⟨o,h1,h2,_,h3⟩:=x; ⟨o,h1,h2,h3⟩
theorem yq.new(h:Heap)(items:Array Value):yq (h.push {cls:=.type "tuple",data:=.seq items}) h.objs.size items:=⟨_,Heap.get?_push_size _ rfl,rfl,rfl,_,rfl⟩
section
variable (P:Program)(w:World)
def cV(H:Hp)(h:Heap)(a:Addr):HO->Prop
 | .lst xs=>xs.length<=sizeLine/\∃ (its:List Value) (n:Nat),Vals xs its/\h.get? a=some {cls:=.type "list",data:=.seq its.toArray n}
 | .tup xs=>xs.length<=sizeLine/\∃ its:List Value,Vals xs its/\yq h a its.toArray
 | .dK kvs=>kvs.length<=sizeLine/\(a==sysModules)=false/\∃ vs,KV kvs vs/\h.DictOf (bu P w) a vs
 | .dT kvs=>kvs.length<=sizeLine/\(a==sysModules)=false/\∃ xs:List (List Key×Addr×Value),
   Paired (λ(p:List Key×V) (q:List Key×Addr×Value)=>p.1=q.1/\H q.2.1=some (.tup (p.1.map kV))/\RelV p.2 q.2.2) kvs xs /\
   ∃ o es ep,h.get? a=some o/\o.ExactDict/\o.data=.dict es ep/\es.toList=xs.map (entryOfKey (tupleKind (bu P w)))/\(xs.map (·.1)).Nodup
 | .set S n=>h.SetOf (intKind P w) a S n
 | .ins C dx fs=>H dx=some (.own a)/\fs.length<=1000/\dx≠a/\h.get? a=some (W.instObj C dx) /\
   ∃ mA,h.Ns1 dx mA/\(∀ f,uF (fs.lookup f) (mA f))/\PySem.Within mA (fs.map (·.1))
 | .own _=>∃ o,h.get? a=some o
 | .xd fs=>∃ mA,h.Ns1 a mA/\∀ f,uF (fs.lookup f) (mA f)
 | .rng lo hi=>∃ t u v,h.get? a=some {cls:=.type "range",data:=.fields #[.int lo t,.int hi u,.int 1 v]}
 | .frz o u=>h.get? a=some o/\cV H h a u
 | .tbl ps=>h.get? a=some {cls:=.none,data:=.fields ps}
 | .met f x=>h.get? a=some (W.methodObj (.ref f) (.ref x))
 | .ext φ=>φ h/\(∃ o,h.get? a=some o)/\∀ h1 h2:Heap,φ h1->(∀ o,h1.get? a=some o->h2.get? a=some o)->φ h2
def HOk(H:Hp)(h:Heap):Prop:=∀ a o,H a=some o->cV P w H h a o
end
section
variable {P:Program}{w:World}{H H':Hp}{h h':Heap}{a:Addr}{o:HO}
theorem cV.lt(x:cV P w H h a o):a<h.objs.size:=by
 cases o with
 | lst xs=>obtain⟨_,_,_,_,e⟩:=x;exact Heap.lt_size e
 | tup xs=>obtain⟨_,_,_,p⟩:=x;exact p.tup.lt
 | dK kvs=>obtain⟨_,_,_,_,o,_,_,e,_⟩:=x;exact Heap.lt_size e
 | dT kvs=>obtain⟨_,_,_,_,o,_,_,e,_⟩:=x;exact Heap.lt_size e
 | set S n=>obtain⟨o,_,_,_,e,_⟩:=x;exact Heap.lt_size e
 | ins C dx fs=>obtain⟨_,_,_,e,_⟩:=x;exact Heap.lt_size e
 | own y=>obtain⟨_,e⟩:=x;exact Heap.lt_size e
 | xd fs=>obtain⟨_,⟨_,_,_,e,_⟩,_⟩:=x;exact Heap.lt_size e
 | rng lo hi=>obtain⟨_,_,_,e⟩:=x;exact Heap.lt_size e
 | frz ob u=>obtain⟨e,_⟩:=x;exact Heap.lt_size e
 | tbl ps=>exact Heap.lt_size (show h.get? a=some _ from x)
 | met f y=>exact Heap.lt_size (show h.get? a=some _ from x)
 | ext φ=>obtain⟨_,⟨_,e⟩,_⟩:=x;exact Heap.lt_size e
theorem Paired.jL{α β:Type}{F G:α->β->Prop}:∀ {l₁:List α} {l₂:List β},Paired F l₁ l₂->(∀ a b,F a b->G a b)->Paired G l₁ l₂
 | _,_,.nil,_=>.nil
 | _,_,.cons r t,f=>.cons (f _ _ r) (Paired.jL t f)
theorem cV.oO(x:cV P w H h a o)(k:∀ b u,(b=a\/H b=some (.own a))->h.get? b=some u->h'.get? b=some u)
  (ho:∀ b,H b=some (.own a)->H' b=some (.own a))(ht:∀ b xs,H b=some (.tup xs)->H' b=some (.tup xs)):cV P w H' h' a o:=by
 induction o with
 | lst xs=>obtain⟨z,its,n,r,e⟩:=x;exact⟨z,its,n,r,k _ _ (.inl rfl) e⟩
 | tup xs=>obtain⟨z,its,r,ob,e,c⟩:=x;exact⟨z,its,r,ob,k _ _ (.inl rfl) e,c⟩
 | dK kvs=>obtain⟨z,y,vs,r,ob,es,ep,e,c⟩:=x;exact⟨z,y,vs,r,ob,es,ep,k _ _ (.inl rfl) e,c⟩
 | dT kvs =>
  obtain⟨z,y,xs,r,ob,es,ep,e,c⟩:=x;exact⟨z,y,xs,Paired.jL r λ p q z=>⟨z.1,ht _ _ z.2.1,z.2.2⟩,ob,es,ep,k _ _ (.inl rfl) e,c⟩
 | set S n=>obtain⟨ob,es,ep,t,e,c⟩:=x;exact⟨ob,es,ep,t,k _ _ (.inl rfl) e,c⟩
 | ins C dx fs =>
  obtain⟨d,z,ne,e,mA,⟨od,es,ep,e2,c⟩,r⟩:=x;exact⟨ho _ d,z,ne,k _ _ (.inl rfl) e,mA,⟨od,es,ep,k _ _ (.inr d) e2,c⟩,r⟩
 | own y=>obtain⟨ob,e⟩:=x;exact⟨ob,k _ _ (.inl rfl) e⟩
 | xd fs=>obtain⟨mA,⟨od,es,ep,e,c⟩,r⟩:=x;exact⟨mA,⟨od,es,ep,k _ _ (.inl rfl) e,c⟩,r⟩
 | rng lo hi=>obtain⟨t,u,v,e⟩:=x;exact⟨t,u,v,k _ _ (.inl rfl) e⟩
 | frz ob u ih=>obtain⟨e,q⟩:=x;exact⟨k _ _ (.inl rfl) e,ih q⟩
 | tbl ps =>
  have e:h.get? a=some {cls:=.none,data:=.fields ps}:=x;show h'.get? a=some {cls:=.none,data:=.fields ps};exact k a _ (.inl rfl) e
 | met f y =>
  have e:h.get? a=some (W.methodObj (.ref f) (.ref y)):=x;show h'.get? a=some (W.methodObj (.ref f) (.ref y));exact k a _ (.inl rfl) e
 | ext φ=>obtain⟨p,⟨o,e⟩,st⟩:=x;exact⟨st _ _ p λ o q=>k _ _ (.inl rfl) q,⟨o,k _ _ (.inl rfl) e⟩,st⟩
theorem HOk.lt(x:HOk P w H h)(e:H a=some o):a<h.objs.size:=(x a o e).lt
theorem HOk.fresh(x:HOk P w H h)(e:h.objs.size<=a):H a=none:=by
 cases q:H a with
 | none=>rfl
 | some u=>exact absurd (Nat.lt_of_lt_of_le (x.lt q) e) (Nat.lt_irrefl _)
theorem HOk.kept(x:HOk P w H h)(k:∀ b u,h.get? b=some u->h'.get? b=some u):HOk P w H h':=λ a o e =>
 (x a o e).oO (λ b u _ q=>k b u q) (λ _ q=>q) λ _ _ q=>q
theorem HOk.laid(x:HOk P w H h)(k:∀ b u,h.get? b=some u->h'.get? b=some u)(hp:h.objs.size<=a)(new:cV P w (upd H a o) h' a o):HOk P w (upd H a o) h':=λ b u e=>by
 have hn:=x.fresh hp
 by_cases hb:b=a
 ·subst hb;rw[ar] at e;cases e;exact new
 ·rw[ao hb] at e;exact(x b u e).oO (λ c v _ q=>k c v q) (λ c q=>by rw[ao (aV q hn)];exact q) λ c xs q=>by rw[ao (aV q hn)];exact q
end
def Rd(H:Hp)(a:Addr)(u:HO):Prop:=H a=some u\/∃ o,H a=some (.frz o u)
theorem Rd.ok{P:Program}{w:World}{H:Hp}{h:Heap}{a:Addr}{u:HO}(r:Rd H a u)(x:HOk P w H h):cV P w H h a u:=by
 rcases r with r | ⟨o,r⟩
 ·exact x a u r
 ·obtain⟨_,q⟩:=x a _ r;exact q
def Mut:Option HO->Prop
 | some (.lst _)=>True
 | some (.dK _)=>True
 | some (.dT _)=>True
 | some (.set _ _)=>True
 | some (.ins _ _ _)=>True
 | some (.ext _)=>True
 | _=>False
section
variable {P:Program}{w:World}{H:Hp}{h h':Heap}{x e:Addr}{o':HO}
theorem HOk.write(ok:HOk P w H h)(mu:Mut (H x))(he:e=x\/H e=some (.own x))(k:∀ b u,b≠e->h.get? b=some u->h'.get? b=some u)(heo:∃ u,h'.get? e=some u)
  (new:cV P w (upd H x o') h' x o'):HOk P w (upd H x o') h':=λ b u q=>by
 have nown:∀ c y,H c=some (.own y)->c≠x:=λ c y r z=>by subst z;rw[r] at mu;exact mu
 have ntup:∀ c xs,H c=some (.tup xs)->c≠x:=λ c xs r z=>by subst z;rw[r] at mu;exact mu
 by_cases hb:b=x
 ·subst hb;rw[ar] at q;cases q;exact new
 ·rw[ao hb] at q
  by_cases hbe:b=e
  ·have q':H b=some (.own x):=by
    rcases he with z | z
    ·exact absurd (hbe.trans z) hb
    ·rw[hbe];exact z
   rw[q] at q';cases q';obtain⟨v,hv⟩:=heo;exact⟨v,by rw[hbe];exact hv⟩
  ·refine(ok b u q).oO (λ c v hc r=>k c v ?_ r) (λ c r=>by rw[ao (nown c b r)];exact r) λ c xs r=>by rw[ao (ntup c xs r)];exact r
   rcases hc with rfl | hc
   ·exact hbe
   ·rintro rfl;rcases he with z | z
    ·exact nown c b hc z
    ·rw[hc] at z;cases z;exact hb rfl
end
structure Un(fs ex:List Addr)(H H':Hp)(h h':Heap):Prop where
 keep:∀ b o,h.get? b=some o->H b=none->b ∉ fs->b ∉ ex->h'.get? b=some o
 slot:∀ b o,h.get? b=some o->H b=none->b∈fs->b ∉ ex->∃ sl,h'.get? b=some {o with slots:=sl}
 free:∀ b o,h.get? b=some o->H b=none->b ∉ ex->H' b=none
 there:∀ b o,h.get? b=some o->b ∉ ex->∃ o',h'.get? b=some o'
 mS:∀ b xs,H b=some (.tup xs)->H' b=some (.tup xs)
 frzs:∀ b o u,H b=some (.frz o u)->H' b=some (.frz o u)
 tbls:∀ b ps,H b=some (.tbl ps)->∃ more,H' b=some (.tbl (ps++more))
section
variable {fs fs' ex ex':List Addr}{H H1 H2:Hp}{h h1 h2 h':Heap}{a x e:Addr}{o:HO}
theorem Un.any(u:Un fs ex H H1 h h1){b:Addr}{ob:Obj}(q:h.get? b=some ob)(n:H b=none)(hx:b ∉ ex):∃ sl,h1.get? b=some {ob with slots:=sl}:=by
 by_cases hb:b∈fs
 ·exact u.slot b ob q n hb hx
 ·exact⟨ob.slots,u.keep b ob q n hb hx⟩
theorem Un.kept(k:∀ b u,h.get? b=some u->h'.get? b=some u):Un fs ex H H h h':=
 ⟨λ b ob q _ _ _=>k b ob q,λ b ob q _ _ _=>⟨ob.slots,k b ob q⟩,λ _ _ _ n _=>n,λ b ob q _=>⟨ob,k b ob q⟩,λ _ _ q=>q,λ _ _ _ q=>q,λ _ ps q=>⟨#[],by rw[q];simp⟩⟩
theorem Un.refl:Un fs ex H H h h:=Un.kept λ _ _ q=>q
theorem Un.laid(k:∀ b u,h.get? b=some u->h'.get? b=some u)(hp:h.objs.size<=a)(hn:H a=none):Un fs ex H (upd H a o) h h' where
 keep:=λ b u q _ _ _=>k b u q
 slot:=λ b u q _ _ _=>⟨u.slots,k b u q⟩
 free:=λ b u q n _=>by rw[ao (Nat.ne_of_lt (Nat.lt_of_lt_of_le (Heap.lt_size q) hp))];exact n
 there:=λ b u q _=>⟨u,k b u q⟩
 mS:=λ b xs q=>by rw[ao (aV q hn)];exact q
 frzs:=λ b u xs q=>by rw[ao (aV q hn)];exact q
 tbls:=λ b ps q=>⟨#[],by rw[ao (aV q hn),q];simp⟩
theorem Un.write(mu:Mut (H x))(he:e=x\/H e=some (.own x))(k:∀ b u,b≠e->h.get? b=some u->h'.get? b=some u)(heo:∃ u,h'.get? e=some u):Un fs ex H (upd H x o) h h':=by
 have hx:∀ b,H b=none->b≠x:=λ b n z=>by subst z;rw[n] at mu;exact mu
 have hb:∀ b,H b=none->b≠e:=λ b n z=>by
  subst z;rcases he with r | r
  ·exact hx b n r
  ·rw[n] at r;cases r
 have hm:∀ b u,H b=some u->¬ Mut (some u)->b≠x:=λ b u q nm z=>by subst z;rw[q] at mu;exact nm mu
 refine⟨λ b u q n _ _=>k b u (hb b n) q,λ b u q n _ _=>⟨u.slots,k b u (hb b n) q⟩,λ b u q n _=>by rw[ao (hx b n)];exact n,λ b u q _=>?_,
  λ b xs q=>by rw[ao (hm b _ q λ z=>z)];exact q,λ b u xs q=>by rw[ao (hm b _ q λ z=>z)];exact q,λ b ps q=>⟨#[],by rw[ao (hm b _ q λ z=>z),q];simp⟩⟩
 by_cases hbe:b=e
 ·subst hbe;exact heo
 ·exact⟨u,k b u hbe q⟩
end
def trk(h:Heap)(H:Hp):List Addr:=(List.range h.objs.size).filter λ a=>(H a).isSome
def aaJ(h:Heap)(H:Hp):Heap:=W.hideAll h (trk h H)
theorem xF(h:Heap)(H:Hp):(aaJ h H).objs.size=h.objs.size:=W.hideAll_size _ _
theorem aaH{h:Heap}{H:Hp}{b:Addr}{o:Obj}(e:h.get? b=some o)(n:H b=none):(aaJ h H).get? b=some o:=
 W.hideAll_get _ e λ hm=>by have q:(H b).isSome=true:=(List.mem_filter.mp hm).2;rw[n] at q;simp at q
theorem adZ{h:Heap}{H:Hp}{b:Addr}{o:Obj}(e:(aaJ h H).get? b=some o):h.get? b=some o/\H b=none:=by
 have e':h.get? b=some o:=W.of_hideAll (trk h H) e;refine⟨e',?_⟩;cases q:H b with
 | none=>rfl
 | some x =>
  have hm:b∈trk h H:=List.mem_filter.mpr ⟨List.mem_range.mpr (Heap.lt_size e'),by simp[q]⟩;have z:(aaJ h H).get? b=none:=W.hideAll_none (trk h H) hm;rw[z] at e;cases e
def BM(mg:Str->Option Value)(h:Heap):Prop:=(∃ bm o,mg "__builtins__" = some (.ref bm)/\bm≠builtinsNs/\h.get? bm=some o/\o.cls=.type "module" /\ o.dict=some builtinsNs/\o.data=.plain)/\∃ mm,h.Ns sysModules mm
structure Mod(K:FG)(mg:Str->Option Value)(base:Heap):Prop where
 kin:K.In base
 glob:base.Ns mainGlobals mg
 blt:∃ mb,base.Ns builtinsNs mb/\∀ x:Str,x ≠ "__name__" -> mb x=bootBuiltins x
 nolimit:base.NoLimit
 bm:BM mg base
structure Cx where
 prog:Program
 w:World
 K:FG
 mg:Str->Option Value
 base:Heap
 A:Around
 N:List Str
 s₀:Shared
 H₀:Hp
 env:Env
 outer:List Env
 stack:List Env
 ex:List Addr
 fn:Str->Bool
 calm:Bool
 pn:PN
 xe:VP
def frs(l:List Env):List Addr:=l.filterMap (·.frame)
abbrev Cx.fs(X:Cx):List Addr:=frs X.outer
def Vis(sc:Scope)(x:Str):Prop:=sc.names.lookup x=some .local\/sc.names.lookup x=some .cell\/sc.names.lookup x=some .free
def Loc(sc:Scope)(x:Str):Prop:=sc.names.lookup x=some .local\/sc.names.lookup x=some .cell
def Look(env:Env)(h:Heap)(m:Str->Option Value)(x:Str)(u:Value):Prop:=
 (env.kindOf x=some .local/\m x=some u)\/((env.kindOf x=some .cell\/env.kindOf x=some .free)/\∃ c,env.cells.lookup x=some c/\h.IsCell c (some u))
structure Cx.Ok(X:Cx):Prop where
 mod:Mod X.K X.mg X.base
 kind:X.env.scope.kind=.function
 glob:X.env.globals=mainGlobals
 blt:X.env.builtins=builtinsNs
 above:X.s₀.heap.objs.size<=X.env.locals
 inj:∀ x y c,X.env.cells.lookup x=some c->X.env.cells.lookup y=some c->x=y
 has:∀ x,(X.env.kindOf x=some .cell\/X.env.kindOf x=some .free)->∃ c,X.env.cells.lookup x=some c
 cab:∀ x c,X.fn x=true->X.env.cells.lookup x=some c->X.s₀.heap.objs.size<=c
 hd:X.calm=true->X.A.handled=none
 frames:X.A.frames=some X.stack
 stk:X.stack=X.outer\/(X.stack=X.env::X.outer/\X.env.frame=some X.env.locals)
 exf:∀ b∈X.ex,b≠X.env.locals/\∀ x c,X.env.cells.lookup x=some c->c≠b
 bs:∀ b o,X.base.get? b=some o->X.s₀.heap.get? b=some o/\X.H₀ b=none
 bsz:X.base.objs.size<=X.s₀.heap.objs.size
 noex:∀ b o,X.base.get? b=some o->b ∉ X.ex
 exfs:∀ b∈X.ex,b ∉ X.fs
 nS:X.s₀.heap.FunFrames X.base X.outer
 frf:∀ b∈X.fs,X.H₀ b=none
structure Inv(X:Cx)(pins:PN)(σ:List (Option V))(H:Hp)(s:Shared):Prop where
 ok:X.Ok
 os:s.os=X.s₀.os
 bare:AllBare s.gens
 base:Un X.fs X.ex X.H₀ H X.s₀.heap s.heap
 loc:∃ m,s.heap.Ns X.env.locals m/\∀ (i:Nat) (x:Str) (v:V),X.N[i]? =some x->σ[i]? =some (some v)->Vis X.env.scope x->∃ u,RelV v u/\Look X.env s.heap m x u
 cell:∀ x c,X.env.cells.lookup x=some c->∃ v,s.heap.IsCell c v
 free:H X.env.locals=none
 freeC:∀ x c,X.env.cells.lookup x=some c->H c=none
 pin:∀ p∈X.pn++pins,s.heap.get? p.1=some p.2/\H p.1=none/\p.1≠X.env.locals/\p.1 ∉ X.fs/\∀ v,p.2.data ≠ .cell v
 hok:HOk X.prog X.w H s.heap
 len:σ.length=X.N.length
section
variable {X:Cx}{pins:PN}{σ:List (Option V)}{H H':Hp}{s:Shared}{h':Heap}
theorem Cx.Ok.ajb(ok:X.Ok){b:Addr}{o:Obj}(e:X.base.get? b=some o):b ∉ X.fs:=λ hb=>by have:=(ok.nS.mem hb).1;rw[e] at this;cases this
theorem Inv.bs(I:Inv X pins σ H s):∀ b o,X.base.get? b=some o->s.heap.get? b=some o/\H b=none:=λ b o e =>
 ⟨I.base.keep b o (I.ok.bs b o e).1 (I.ok.bs b o e).2 (I.ok.ajb e) (I.ok.noex b o e),I.base.free b o (I.ok.bs b o e).1 (I.ok.bs b o e).2 (I.ok.noex b o e)⟩
theorem Inv.bk(I:Inv X pins σ H s):∀ b o,X.base.get? b=some o->s.heap.get? b=some o:=λ b o e=>(I.bs b o e).1
theorem Inv.mod(I:Inv X pins σ H s):Mod X.K X.mg X.base:=I.ok.mod
theorem Inv.kIn(I:Inv X pins σ H s):X.K.In s.heap:=I.ok.mod.kin.keeps I.bk
theorem Inv.nolimit(I:Inv X pins σ H s):s.heap.NoLimit:=I.ok.mod.nolimit.keeps I.bk
theorem Inv.fr(I:Inv X pins σ H s):∃ m,Fr X.base X.env.locals s.heap m:=
 let ⟨m,hn,_⟩:=I.loc
 ⟨m,hn,I.bk,Nat.le_trans I.ok.bsz I.ok.above⟩
theorem Inv.lt(I:Inv X pins σ H s):X.env.locals<s.heap.objs.size:=let ⟨_,hn,_⟩:=I.loc;hn.lt
theorem Inv.sz(I:Inv X pins σ H s):X.s₀.heap.objs.size<=s.heap.objs.size:=Nat.le_trans I.ok.above (Nat.le_of_lt I.lt)
theorem Inv.ai8(I:Inv X pins σ H s){a:Addr}(h:s.heap.objs.size<=a):a ∉ X.fs:=λ hb=>by obtain⟨_,o,ho,_⟩:=I.ok.nS.mem hb;exact absurd (Nat.lt_of_lt_of_le (Heap.lt_size ho) (Nat.le_trans I.sz h)) (Nat.lt_irrefl _)
theorem Inv.cne(I:Inv X pins σ H s):∀ x c,X.env.cells.lookup x=some c->c≠X.env.locals:=λ x c e z=>by obtain⟨v,o,ho,hd⟩:=I.cell x c e;obtain⟨m,⟨o',es,ep,ho',hd',_⟩,_⟩:=I.loc;rw[z,ho'] at ho;cases ho;rw[hd'] at hd;cases hd
theorem Inv.nS(I:Inv X pins σ H s):s.heap.FunFrames X.base X.outer:=by
 have all:∀ (l:List Env),(∀ b∈frs l,b∈X.fs)->X.s₀.heap.FunFrames X.base l->s.heap.FunFrames X.base l:=by
  intro l
  induction l with
  | nil=>intro _ _;trivial
  | cons env r ih =>
   intro hs hl;obtain⟨hk,⟨L,o,hf,hn,ho,hd⟩,hr⟩:=hl;have hL:L∈X.fs:=hs L (by unfold frs;rw[List.filterMap_cons,hf];exact List.mem_cons_self);obtain⟨sl,e⟩:=I.base.slot L o ho (I.ok.frf L hL) hL λ z=>I.ok.exfs L z hL;exact⟨hk,⟨L,_,hf,hn,e,hd⟩,ih (λ b hb=>hs b (by unfold frs;rw[List.filterMap_cons,hf];exact List.mem_cons_of_mem _ hb)) hr⟩
 exact all X.outer (λ _ hb=>hb) I.ok.nS
theorem Inv.stack(I:Inv X pins σ H s):s.heap.FunFrames X.base X.stack:=by
 rcases I.ok.stk with e | ⟨e,hf⟩
 ·rw[e];exact I.nS
 ·rw[e];obtain⟨m,hn,_⟩:=I.loc;refine .cons (by rw[I.ok.kind];decide) hf hn ?_ I.nS;exact Heap.get?_none_of_le (Nat.le_trans I.ok.bsz I.ok.above)
theorem Inv.jR(I:Inv X pins σ H s):∀ b∈frs X.stack,b∈X.env.locals::X.fs:=λ b hb=>by
 rcases I.ok.stk with e | ⟨e,hf⟩
 ·rw[e] at hb;exact List.mem_cons_of_mem _ hb
 ·rw[e] at hb;unfold frs at hb;rw[List.filterMap_cons,hf] at hb;exact hb
theorem Inv.nI(I:Inv X pins σ H s):∀ b∈frs X.stack,H b=none:=λ b hb=>by
 rcases List.mem_cons.mp (I.jR b hb) with e | hb
 ·rw[e];exact I.free
 ·obtain⟨_,o,ho,_⟩:=I.ok.nS.mem hb;exact I.base.free b o ho (I.ok.frf b hb) λ z=>I.ok.exfs b z hb
theorem Inv.step{g':Array GenState}{t':Nat}{d':Drawn}{ch:List Addr}(I:Inv X pins σ H s)
  (hch:∀ b∈ch,(b∈X.ex\/X.s₀.heap.objs.size<=b)/\b≠X.env.locals/\(∀ x c,X.env.cells.lookup x=some c->c≠b)/\∀ p∈X.pn++pins,p.1≠b)
  (keep:∀ b o,b≠X.env.locals->b ∉ X.fs->b ∉ ch->s.heap.get? b=some o->H b=none->h'.get? b=some o)
  (slot:∀ b o,b≠X.env.locals->b∈X.fs->b ∉ ch->s.heap.get? b=some o->H b=none->∃ sl,h'.get? b=some {o with slots:=sl})(free:∀ b o,b ∉ ch->s.heap.get? b=some o->H b=none->H' b=none)
  (there:∀ b o,b ∉ ch->s.heap.get? b=some o->∃ o',h'.get? b=some o')
  (mS:∀ b xs,H b=some (.tup xs)->H' b=some (.tup xs))(frzs:∀ b o u,H b=some (.frz o u)->H' b=some (.frz o u))(tbls:∀ b ps,H b=some (.tbl ps)->∃ more,H' b=some (.tbl (ps++more)))
  (ns:∀ m,s.heap.Ns X.env.locals m->h'.Ns X.env.locals m)(hok:HOk X.prog X.w H' h')(hg:AllBare g') :
  Inv X pins σ H' {s with heap:=h',gens:=g',drawn:=d',toks:=t'}:=by
 have neL:∀ b o,X.s₀.heap.get? b=some o->b≠X.env.locals:=λ b o e=>Nat.ne_of_lt (Nat.lt_of_lt_of_le (Heap.lt_size e) I.ok.above);have neC:∀ b o,X.s₀.heap.get? b=some o->b ∉ X.ex->b ∉ ch:=λ b o e hx hb=>by
  rcases(hch b hb).1 with z | z
  ·exact hx z
  ·exact absurd (Nat.lt_of_lt_of_le (Heap.lt_size e) z) (Nat.lt_irrefl _)
 have cellK:∀ x c,X.env.cells.lookup x=some c->∀ v,s.heap.IsCell c v->h'.IsCell c v:=λ x c e v hq0=>by
  obtain⟨o,ho,hd⟩:=hq0;have nch:c ∉ ch:=λ z=>(hch c z).2.2.1 x c e rfl
  by_cases hc:c∈X.fs
  ·obtain⟨sl,q⟩:=slot c o (I.cne x c e) hc nch ho (I.freeC x c e);exact⟨_,q,hd⟩
  ·exact⟨o,keep c o (I.cne x c e) hc nch ho (I.freeC x c e),hd⟩
 refine⟨I.ok,I.os,hg,⟨λ b o e n hb hx=>?_,λ b o e n hb hx=>?_,λ b o e n hx=>?_,λ b o e hx=>?_,λ b xs e=>mS b xs (I.base.mS b xs e),λ b o xs e=>frzs b o xs (I.base.frzs b o xs e),λ b ps e=>?_⟩,?_,λ x c e=>?_,?_,λ x c e=>?_,λ p hp=>?_,hok,I.len⟩
 ·exact keep b o (neL b o e) hb (neC b o e hx) (I.base.keep b o e n hb hx) (I.base.free b o e n hx)
 ·obtain⟨sl,e1⟩:=I.base.slot b o e n hb hx;obtain⟨sl',e2⟩:=slot b _ (neL b o e) hb (neC b o e hx) e1 (I.base.free b o e n hx);exact⟨sl',e2⟩
 ·obtain⟨o',e1⟩:=I.base.there b o e hx;exact free b o' (neC b o e hx) e1 (I.base.free b o e n hx)
 ·obtain⟨o',e1⟩:=I.base.there b o e hx;exact there b o' (neC b o e hx) e1
 ·obtain⟨m1,e1⟩:=I.base.tbls b ps e;obtain⟨m2,e2⟩:=tbls b _ e1;exact⟨m1++m2,by rw[e2,Array.append_assoc]⟩
 ·obtain⟨m,hn,hl⟩:=I.loc;refine⟨m,ns m hn,λ i x v e1 e2 e3=>?_⟩;obtain⟨u,r,l⟩:=hl i x v e1 e2 e3;refine⟨u,r,?_⟩;rcases l with l | ⟨k,c,e,z⟩
  ·exact .inl l
  ·exact .inr ⟨k,c,e,cellK x c e _ z⟩
 ·obtain⟨v,z⟩:=I.cell x c e;exact⟨v,cellK x c e v z⟩
 ·obtain⟨m,⟨o,_,_,ho,_⟩,_⟩:=I.loc;exact free _ o (λ z=>(hch _ z).2.1 rfl) ho I.free
 ·obtain⟨v,o,ho,hd⟩:=I.cell x c e;exact free c o (λ z=>(hch c z).2.2.1 x c e rfl) ho (I.freeC x c e)
 ·obtain⟨e,n,ne,nf,d⟩:=I.pin p hp;have nch:p.1 ∉ ch:=λ z=>(hch p.1 z).2.2.2 p hp rfl;exact⟨keep p.1 p.2 ne nf nch e n,free p.1 p.2 nch e n,ne,nf,d⟩
theorem Inv.un{t':Nat}(I:Inv X pins σ H s)(u:Un X.fs [] H H' s.heap h')(hok:HOk X.prog X.w H' h'):Inv X pins σ H' {s with heap:=h',toks:=t'}:=by
 obtain⟨m,⟨o,es,ep,ho,r⟩,_⟩:=id I.loc;obtain⟨sl,hL⟩:=u.any ho I.free (by simp);exact I.step (g':=s.gens) (d':=s.drawn) (ch:=[]) (λ _ z=>nomatch z) (λ b o _ hb _ e n=>u.keep b o e n hb (by simp)) (λ b o _ hb _ e n=>u.slot b o e n hb (by simp)) (λ b o _ e n=>u.free b o e n (by simp)) (λ b o _ e=>u.there b o e (by simp)) u.mS u.frzs u.tbls (λ m' hm=>by obtain⟨o',es',ep',ho',r'⟩:=hm;rw[ho] at ho';cases ho';exact⟨_,es',ep',hL,r'⟩) hok I.bare
theorem Inv.call{g':Array GenState}{t':Nat}{d':Drawn}{ch:List Addr}(I:Inv X pins σ H s)(u:Un (frs X.stack) ch H H' s.heap h')(hok:HOk X.prog X.w H' h')(hg:AllBare g')
  (hch:∀ b∈ch,(b∈X.ex\/X.s₀.heap.objs.size<=b)/\b≠X.env.locals/\(∀ x c,X.env.cells.lookup x=some c->c≠b)/\∀ p∈X.pn++pins,p.1≠b) :
  Inv X pins σ H' {s with heap:=h',gens:=g',drawn:=d',toks:=t'}:=by
 obtain⟨m,⟨o,es,ep,ho,r⟩,_⟩:=id I.loc;obtain⟨sl,hL⟩:=u.any ho I.free λ z=>(hch _ z).2.1 rfl;exact I.step (ch:=ch) hch (λ b o hL hb hc e n=>u.keep b o e n (λ z=>(List.mem_cons.mp (I.jR b z)).elim hL hb) hc) (λ b o _ _ hc e n=>u.any e n hc) (λ b o hc e n=>u.free b o e n hc) (λ b o hc e=>u.there b o e hc) u.mS u.frzs u.tbls (λ m' hm=>by obtain⟨o',es',ep',ho',r'⟩:=hm;rw[ho] at ho';cases ho';exact⟨_,es',ep',hL,r'⟩) hok hg
theorem Inv.turned{t':Nat}{it:Addr}(I:Inv X pins σ H s)(k:∀ b o,b≠it->s.heap.get? b=some o->h'.get? b=some o)(hn:H it=none)(hL:it≠X.env.locals)
  (h1:it∈X.ex\/X.s₀.heap.objs.size<=it)(h2:∀ x c,X.env.cells.lookup x=some c->c≠it)(h3:∀ p∈X.pn++pins,p.1≠it):Inv X pins σ H {s with heap:=h',toks:=t'}:=by
 have nit:∀ b u,H b=some u->b≠it:=λ b u e z=>by rw[z,hn] at e;cases e
 refine I.step (g':=s.gens) (d':=s.drawn) (ch:=[it]) (λ b hb=>?_) (λ b o _ _ hc e _=>k b o (λ z=>hc (by simp[z])) e) (λ b o _ _ hc e _=>⟨o.slots,k b o (λ z=>hc (by simp[z])) e⟩) (λ _ _ _ _ n=>n)
  (λ b o hc e=>⟨o,k b o (λ z=>hc (by simp[z])) e⟩) (λ _ _ e=>e) (λ _ _ _ e=>e) (λ b ps e=>⟨#[],by rw[e];simp⟩) (λ m hm=>?_) (λ b u e=>?_) I.bare
 ·have e:b=it:=by simpa using hb
  subst e;exact⟨h1,hL,h2,h3⟩
 ·obtain⟨o,es,ep,ho,r⟩:=hm;exact⟨o,es,ep,k _ o (Ne.symm hL) ho,r⟩
 ·refine(I.hok b u e).oO (λ c v hc q=>k c v ?_ q) (λ _ q=>q) λ _ _ q=>q;rcases hc with z | z
  ·rw[z];exact nit b u e
  ·exact nit c _ z
theorem Inv.tok(I:Inv X pins σ H s)(t:Nat):Inv X pins σ H {s with toks:=t}:=I.un (h':=s.heap) (t':=t) Un.refl I.hok
theorem Inv.kept{t':Nat}(I:Inv X pins σ H s)(k:∀ b u,s.heap.get? b=some u->h'.get? b=some u):Inv X pins σ H {s with heap:=h',toks:=t'}:=I.un (Un.kept k) (I.hok.kept k)
theorem Inv.laid{a:Addr}{o:HO}{t':Nat}(I:Inv X pins σ H s)(k:∀ b u,s.heap.get? b=some u->h'.get? b=some u)(hp:s.heap.objs.size<=a)(new:cV X.prog X.w (upd H a o) h' a o) :
  Inv X pins σ (upd H a o) {s with heap:=h',toks:=t'}:=I.un (Un.laid k hp (I.hok.fresh hp)) (I.hok.laid k hp new)
theorem Inv.write{x e:Addr}{o:HO}{t':Nat}(I:Inv X pins σ H s)(mu:Mut (H x))(he:e=x\/H e=some (.own x))(k:∀ b u,b≠e->s.heap.get? b=some u->h'.get? b=some u)(heo:∃ u,h'.get? e=some u)
  (new:cV X.prog X.w (upd H x o) h' x o):Inv X pins σ (upd H x o) {s with heap:=h',toks:=t'}:=I.un (Un.write mu he k heo) (I.hok.write mu he k heo new)
theorem Inv.fm{pins':PN}(I:Inv X pins σ H s)(h:∀ p∈pins',s.heap.get? p.1=some p.2/\H p.1=none/\p.1≠X.env.locals/\p.1 ∉ X.fs/\∀ v,p.2.data ≠ .cell v):Inv X pins' σ H s:=
 ⟨I.ok,I.os,I.bare,I.base,I.loc,I.cell,I.free,I.freeC,λ p hp=>(List.mem_append.mp hp).elim (λ z=>I.pin p (List.mem_append_left _ z)) (h p),I.hok,I.len⟩
theorem tw{N:List Str}(hN:N.Nodup){i j:Nat}{x:Str}(a:N[i]? =some x)(b:N[j]? =some x):i=j:=by obtain⟨h1,e1⟩:=List.getElem?_eq_some_iff.mp a;obtain⟨h2,e2⟩:=List.getElem?_eq_some_iff.mp b;exact(List.getElem_inj hN).mp (e1.trans e2.symm)
theorem xK{M:Model}{A:Around}{E:VP}{i:Nat}{x:Str}{v:V}{u:Value}{Q:Unit->Shared->Prop}(I:Inv X pins σ H s)(hN:X.N.Nodup)(hi:X.N[i]? =some x)(hx:Loc X.env.scope x)(r:RelV v u)
  (h:∀ s',Inv X pins (σ.set i (some v)) H s'->(∃ a,Heap.SameBut a s.heap s'.heap/\(a=X.env.locals\/X.env.cells.lookup x=some a))->Q () s')(hf:X.fn x=true\/X.env.scope.names.lookup x=some .local:=by first | exact .inl rfl | exact .inr rfl | assumption):wpAny M A (storeName X.env x u) Q E s:=by
 obtain⟨m,hn,hl⟩:=id I.loc;have hcls:(X.env.scope.kind==.class || (X.env.scope.kind==.module&&X.env.locals != X.env.globals))=false:=by rw[I.ok.kind];rfl
 have hiσ:i<σ.length:=by rw[I.len];exact(List.getElem?_eq_some_iff.mp hi).1
 have cne:=I.cne;have tracked:∀ {a:Addr} {h':Heap},(∃ o,s.heap.get? a=some o/\H a=none)->Heap.SameBut a s.heap h'->HOk X.prog X.w H h':=λ {a h'} ha hs b ob e=>by
  obtain⟨_,_,hfree⟩:=ha;refine(I.hok b ob e).oO (λ c w' hc q=>(hs.2 c ?_).trans q) (λ _ q=>q) λ _ _ q=>q;rintro rfl;rcases hc with rfl | hc
  ·rw[hfree] at e;cases e
  ·rw[hfree] at hc;cases hc
 rcases hx with hk | hk
 ·refine wpAny_storeName_local hk hn (λ h' hn' hs=>?_) hcls;obtain⟨oL,_,_,hoL,_⟩:=id hn;refine h _ ⟨I.ok,I.os,I.bare,⟨λ b o e n hb hx=>?_,λ b o e n hb hx=>?_,I.base.free,λ b o e hx=>?_,I.base.mS,I.base.frzs,I.base.tbls⟩,⟨_,hn',λ j y v' e1 e2 e3=>?_⟩,λ y c e=>?_,I.free,I.freeC,λ p hp=>?_,tracked ⟨oL,hoL,I.free⟩ hs,by simpa using I.len⟩ ⟨_,hs,.inl rfl⟩
  ·exact(hs.2 b (Nat.ne_of_lt (Nat.lt_of_lt_of_le (Heap.lt_size e) I.ok.above))).trans (I.base.keep b o e n hb hx)
  ·obtain⟨sl,e1⟩:=I.base.slot b o e n hb hx;exact⟨sl,(hs.2 b (Nat.ne_of_lt (Nat.lt_of_lt_of_le (Heap.lt_size e) I.ok.above))).trans e1⟩
  ·obtain⟨o',e1⟩:=I.base.there b o e hx;exact⟨o',(hs.2 b (Nat.ne_of_lt (Nat.lt_of_lt_of_le (Heap.lt_size e) I.ok.above))).trans e1⟩
  ·by_cases hj:j=i
   ·subst hj;rw[hi] at e1;cases e1;rw[List.getElem?_set_self hiσ] at e2;cases e2;exact⟨u,r,.inl ⟨hk,by simp⟩⟩
   ·rw[List.getElem?_set_ne (Ne.symm hj)] at e2;obtain⟨u',r',q⟩:=hl j y v' e1 e2 e3;refine⟨u',r',?_⟩;rcases q with ⟨k,e⟩ | ⟨k,c,e,z⟩
    ·refine .inl ⟨k,?_⟩;have:y≠x:=λ e=>hj (tw hN e1 (e ▸ hi));simp[this,e]
    ·exact .inr ⟨k,c,e,z.sameBut hs (cne y c e)⟩
  ·obtain⟨w',z⟩:=I.cell y c e;exact⟨w',z.sameBut hs (cne y c e)⟩
  ·obtain⟨e,n,ne,nf,d⟩:=I.pin p hp;exact⟨(hs.2 p.1 ne).trans e,n,ne,nf,d⟩
 ·have hfn:X.fn x=true:=by
   rcases hf with z | z
   ·exact z
   ·rw[z] at hk;cases hk
  obtain⟨c,hc⟩:=I.ok.has x (.inl hk);obtain⟨w',z⟩:=I.cell x c hc;refine wpAny_storeName_cell I.ok.kind hk hc z (λ h' hc' hs=>?_);obtain⟨oc,hoc,hocd⟩:=id z;refine h {s with heap:=h'} ⟨I.ok,I.os,I.bare,⟨λ b o e n hb hx=>?_,λ b o e n hb hx=>?_,I.base.free,λ b o e hx=>?_,I.base.mS,I.base.frzs,I.base.tbls⟩,⟨m,hn.sameBut hs (Ne.symm (cne x c hc)),λ j y v' e1 e2 e3=>?_⟩,λ y c' e=>?_,I.free,I.freeC,λ p hp=>?_,tracked ⟨oc,hoc,I.freeC x c hc⟩ hs,by simpa using I.len⟩ ⟨c,hs,.inr hc⟩
  ·exact(hs.2 b (Nat.ne_of_lt (Nat.lt_of_lt_of_le (Heap.lt_size e) (I.ok.cab x c hfn hc)))).trans (I.base.keep b o e n hb hx)
  ·obtain⟨sl,e1⟩:=I.base.slot b o e n hb hx;exact⟨sl,(hs.2 b (Nat.ne_of_lt (Nat.lt_of_lt_of_le (Heap.lt_size e) (I.ok.cab x c hfn hc)))).trans e1⟩
  ·obtain⟨o',e1⟩:=I.base.there b o e hx;exact⟨o',(hs.2 b (Nat.ne_of_lt (Nat.lt_of_lt_of_le (Heap.lt_size e) (I.ok.cab x c hfn hc)))).trans e1⟩
  ·by_cases hj:j=i
   ·subst hj;rw[hi] at e1;cases e1;rw[List.getElem?_set_self hiσ] at e2;cases e2;exact⟨u,r,.inr ⟨.inl hk,c,hc,hc'⟩⟩
   ·rw[List.getElem?_set_ne (Ne.symm hj)] at e2;obtain⟨u',r',q⟩:=hl j y v' e1 e2 e3;refine⟨u',r',?_⟩;rcases q with q | ⟨k,c',e,z'⟩
    ·exact .inl q
    ·refine .inr ⟨k,c',e,z'.sameBut hs ?_⟩;rintro rfl;exact hj (tw hN e1 (I.ok.inj _ _ _ e hc ▸ hi))
  ·by_cases hcc:c'=c
   ·subst hcc;exact⟨_,hc'⟩
   ·obtain⟨w2,z2⟩:=I.cell y c' e;exact⟨w2,z2.sameBut hs hcc⟩
  ·obtain⟨e,n,ne,nf,d⟩:=I.pin p hp;refine⟨(hs.2 p.1 ?_).trans e,n,ne,nf,d⟩;intro q;rw[q,hoc] at e;have q':oc=p.2:=Option.some.inj e;exact d w' (by rw[<- q'];exact hocd)
theorem gE{M:Model}{A:Around}{E:VP}{i:Nat}{x:Str}{v:V}{u:Value}{Q:Unit->Shared->Prop}(I:Inv X pins σ H s)(hN:X.N.Nodup)(hi:X.N[i]? =some x)(hx:Loc X.env.scope x)(r:RelV v u)
  (h:∀ s',Inv X pins (σ.set i (some v)) H s'->Q () s')(hf:X.fn x=true\/X.env.scope.names.lookup x=some .local:=by first | exact .inl rfl | exact .inr rfl | assumption):wpAny M A (storeName X.env x u) Q E s:=
 xK I hN hi hx r (λ s' I' _=>h s' I') hf
theorem Inv.acD{s':Shared}{ch:List Addr}(I:Inv X pins σ H s)(ho:s'.os=s.os)(u:Un (frs X.stack) ch H H' s.heap s'.heap)(hok:HOk X.prog X.w H' s'.heap)(hg:AllBare s'.gens)
  (hch:∀ b∈ch,(b∈X.ex\/X.s₀.heap.objs.size<=b)/\b≠X.env.locals/\(∀ x c,X.env.cells.lookup x=some c->c≠b)/\∀ p∈X.pn++pins,p.1≠b):Inv X pins σ H' s':=by
 obtain⟨h',g',d',t',o'⟩:=s';have e:o'=s.os:=ho;subst e;exact I.call (g':=g') (t':=t') (d':=d') u hok hg hch
end
abbrev XK:=Value->Option Addr->Hp->Prop
abbrev St:=List (Option V)
abbrev VK:=V->Hp->Prop
abbrev TE:=St->Hp->VK->Prop
abbrev TT:=St->Hp->(Bool->Hp->Prop)->Prop
abbrev TA:=St->Hp->(List V->Hp->Prop)->Prop
structure Ends where
 nx:St->Hp->Prop
 rt:VK
 bk:St->Hp->Prop:=λ _ _=>False
 ct:St->Hp->Prop:=λ _ _=>False
abbrev TS:=Ends->St->Hp->Prop
def EP(X:Cx)(pins:PN)(σ:St)(Q:VK)(u:Value)(s':Shared):Prop:=∃ v H',Inv X pins σ H' s'/\RelV v u/\Q v H'
def TP(X:Cx)(pins:PN)(σ:St)(Q:Bool->Hp->Prop)(b:Bool)(s':Shared):Prop:=∃ H',Inv X pins σ H' s'/\Q b H'
def AP(X:Cx)(pins:PN)(σ:St)(Q:List V->Hp->Prop)(us:List Value)(s':Shared):Prop:=∃ vs H',Inv X pins σ H' s'/\Vals vs us/\Q vs H'
def SP(X:Cx)(pins:PN)(D:Ends)(f:Flow)(s':Shared):Prop:=
 match f with
 | .next=>∃ σ' H',Inv X pins σ' H' s'/\D.nx σ' H'
 | .brk=>∃ σ' H',Inv X pins σ' H' s'/\D.bk σ' H'
 | .cont=>∃ σ' H',Inv X pins σ' H' s'/\D.ct σ' H'
 | .ret u=>∃ v σ' H',Inv X pins σ' H' s'/\RelV v u/\D.rt v H'
def PE(X:Cx)(e:Expr)(t:TE):Prop:=
 ∀ (pins:PN) (s:Shared) (σ:St) (H:Hp) (Q:VK),Inv X pins σ H s->t σ H Q->wpAny (model X.prog X.w) X.A (eval e X.env) (EP X pins σ Q) X.xe s
def PT(X:Cx)(e:Expr)(t:TT):Prop:=
 ∀ (pins:PN) (s:Shared) (σ:St) (H:Hp) (Q:Bool->Hp->Prop),Inv X pins σ H s->t σ H Q->wpAny (model X.prog X.w) X.A (isTrue e X.env (eval e X.env)) (TP X pins σ Q) X.xe s
def PW(X:Cx)(e:Expr)(t:TT):Prop:=
 ∀ (whole:Sem Value) (pins:PN) (s:Shared) (σ:St) (H:Hp) (Q:Bool->Hp->Prop),Inv X pins σ H s->t σ H Q->wpAny (model X.prog X.w) X.A (isTrue e X.env whole) (TP X pins σ Q) X.xe s
theorem PW.pt{X:Cx}{e:Expr}{t:TT}(h:PW X e t):PT X e t:=h _
def PA(X:Cx)(es:List Expr)(t:TA):Prop:=
 ∀ (pos:Pos) (pins:PN) (s:Shared) (σ:St) (H:Hp) (Q:List V->Hp->Prop),Inv X pins σ H s->t σ H Q->wpAny (model X.prog X.w) X.A (spliced (backTo pos (starEach es X.env))) (AP X pins σ Q) X.xe s
def PS(X:Cx)(st:Stmt)(t:TS):Prop:=
 ∀ (pins:PN) (s:Shared) (σ:St) (H:Hp) (D:Ends),Inv X pins σ H s->t D σ H->wpAny (model X.prog X.w) X.A (exec st X.env) (SP X pins D) X.xe s
def PSs(X:Cx)(st:List Stmt)(t:TS):Prop:=
 ∀ (pins:PN) (s:Shared) (σ:St) (H:Hp) (D:Ends),Inv X pins σ H s->t D σ H->wpAny (model X.prog X.w) X.A (execs st X.env) (SP X pins D) X.xe s
theorem thn{α:Type}{t:Sem α}{Q Q':α->Shared->Prop}{M:Model}{A:Around}{E:VP}{s:Shared}(h:wpAny M A t Q E s)(hQ:∀ a s,Q a s->Q' a s):wpAny M A t Q' E s:=wpAny_mono h hQ λ _ _ x=>x
section
variable {X:Cx}
def aiN(i:Nat):TE:=λ σ H Q=>∃ v,σ[i]? =some (some v)/\Q v H
def tC(v:V):TE:=λ _ H Q=>Q v H
theorem iS{i:Nat}{x:Str}{pos:Pos}(hN:X.N[i]? =some x)(hv:Vis X.env.scope x)(hd:ND x:=by decide)(hcd:(x==("__classdict__" : Str))=false:=by decide):PE X (.Name x pos) (aiN i):=by
 intro pins s σ H Q I h;obtain⟨v,e,h⟩:=h;obtain⟨m,hn,hl⟩:=I.loc;obtain⟨u,r,l⟩:=hl i x v hN e hv;have fin:EP X pins σ Q u s:=⟨v,H,I,r,h⟩;rcases l with ⟨hk,hm⟩ | ⟨hk,c,hc,hcell⟩
 ·exact wpAny_Name (wpAny_loadName_local I.ok.kind hk hn hm fin) hd
 ·rcases hk with hk | hk
  ·exact wpAny_Name (wpAny_loadName_cell I.ok.kind hk hc hcell fin) hd
  ·exact wpAny_Name (wpAny_loadName_free I.ok.kind hk hc hcell fin hcd) hd
theorem afX{i j pos}:PE X (.Constant (.int i) j pos) (tC (.int i)):=λ _ _ _ H _ I h=>wpAny_Constant_int ⟨.int i,H,I.tok _,⟨_,rfl⟩,h⟩
theorem ac3{b j pos}:PE X (.Constant (.bool b) j pos) (tC (.bl b)):=λ _ _ _ H _ I h=>Constant_bool ⟨.bl b,H,I,rfl,h⟩
theorem afE{j pos}:PE X (.Constant .none j pos) (tC .non):=λ _ _ _ H _ I h=>Constant_none ⟨.non,H,I,rfl,h⟩
theorem afc{x j pos}:PE X (.Constant (.str x) j pos) (tC (.str x)):=λ _ _ _ H _ I h=>Calls.Constant_str ⟨.str x,H,I.tok _,⟨_,rfl⟩,h⟩
def Gl(X:Cx)(x:Str):Prop:=X.env.kindOf x=some .globalImplicit
theorem jy{E:VP}{pins:PN}{s:Shared}{σ:St}{H:Hp}{x:Str}{u:Value}{pos:Pos}{Q:VP}(I:Inv X pins σ H s)(hg:Gl X x)(hm:X.mg x=some u)(h:Q u s)
  (hd:ND x:=by decide):wpAny (model X.prog X.w) X.A (eval (.Name x pos) X.env) Q E s:=
 Calls.Name_function_global I.ok.kind hg (Calls.loadGlobal_global (by rw[I.ok.glob];exact I.mod.glob.keeps I.bk) hm h) hd
theorem g6{E:VP}{pins:PN}{s:Shared}{σ:St}{H:Hp}{x:Str}{u:Value}{pos:Pos}{Q:VP}(I:Inv X pins σ H s)(hg:Gl X x)(hm:X.mg x=none)(hv:bootBuiltins x=some u)(h:Q u s)
  (hn:x ≠ "__name__":= by decide)(hd:ND x:=by decide):wpAny (model X.prog X.w) X.A (eval (.Name x pos) X.env) Q E s:=by
 obtain⟨mb,h1,h2⟩:=I.mod.blt;exact Calls.Name_function_global I.ok.kind hg (Calls.loadGlobal_builtin (by rw[I.ok.glob];exact I.mod.glob.keeps I.bk) hm (by rw[I.ok.blt];exact h1.keeps I.bk) ((h2 x hn).trans hv) h) hd
theorem sd{x:Str}{v:V}{u:Value}{pos:Pos}(hg:Gl X x)(hm:X.mg x=some u)(r:RelV v u)(hd:ND x:=by decide):PE X (.Name x pos) (tC v):=
 λ _ _ _ H _ I h=>jy I hg hm ⟨v,H,I,r,h⟩ hd
theorem aek{x:Str}{v:V}{u:Value}{pos:Pos}(hg:Gl X x)(hm:X.mg x=none)(hv:bootBuiltins x=some u)(r:RelV v u)(hn:x ≠ "__name__":= by decide)(hd:ND x:=by decide):PE X (.Name x pos) (tC v):=
 λ _ _ _ H _ I h=>g6 I hg hm hv ⟨v,H,I,r,h⟩ hn hd
variable {a b:Expr}{ta tb:TE}{pos:Pos}
theorem kC(b:Expr){op:CmpOp}(h:op ≠ .In)(h2:op ≠ .NotIn):behindInMarks op b=false:=by
 have e1:(op==CmpOp.In)=false:=by cases op<;>first | rfl | exact absurd rfl h
 have e2:(op==CmpOp.NotIn)=false:=by cases op<;>first | rfl | exact absurd rfl h2
 cases b<;>simp[behindInMarks,e1,e2]
def tB(t:TE):TT:=λ σ H Q=>t σ H λ x H1=>∃ c,x=.bl c/\Q c H1
theorem af0{e:Expr}{t:TE}(h:PE X e t)(he:∀ whole,isTrue e X.env whole=(do let v <- whole;standAt e.pos;holding [v] (truthy v)):=by intro _;rfl):PT X e (tB t):=by intro pins s σ H Q I hw;refine isTrue_plain (thn (h pins s σ H _ I hw) λ v s1 ⟨x,H1,I1,r1,q1⟩=>?_) (he _);obtain⟨d,rfl,q⟩:=q1;cases r1;exact wpAny_truthy_bool ⟨H1,I1,q⟩
variable {tA tB':TT}{rest:List Expr}
def ajd(t u:TT):TT:=λ σ H Q=>t σ H λ c H1=>if c=true then u σ H1 Q else Q false H1
def tOr(t u:TT):TT:=λ σ H Q=>t σ H λ c H1=>if c=true then Q true H1 else u σ H1 Q
def ajx(t:TT):TT:=λ σ H Q=>t σ H λ c H1=>Q (!c) H1
theorem pw_and1(ha:PT X a tA):PW X (.BoolOp .And [a] pos) tA:=by
 intro wh pins s σ H Q I h;refine isTrue_and (thn (ha pins s σ H Q I h) λ c s1 e=>?_);cases c with
 | true=>exact isTrue_and_nil e
 | false=>exact e
theorem pw_or1(ha:PT X a tA):PW X (.BoolOp .Or [a] pos) tA:=by
 intro wh pins s σ H Q I h;refine isTrue_or (thn (ha pins s σ H Q I h) λ c s1 e=>?_);cases c with
 | false=>exact isTrue_or_nil e
 | true=>exact e
theorem pw_and(ha:PT X a tA)(hb:PW X (.BoolOp .And (b::rest) pos) tB'):PW X (.BoolOp .And (a::b::rest) pos) (ajd tA tB'):=by
 intro wh pins s σ H Q I h;refine isTrue_and (thn (ha pins s σ H _ I h) λ c s1 hq1=>?_);obtain⟨H1,I1,q1⟩:=hq1;cases c with
 | true=>exact hb wh pins s1 σ H1 Q I1 q1
 | false=>exact⟨H1,I1,q1⟩
theorem pw_or(ha:PT X a tA)(hb:PW X (.BoolOp .Or (b::rest) pos) tB'):PW X (.BoolOp .Or (a::b::rest) pos) (tOr tA tB'):=by
 intro wh pins s σ H Q I h;refine isTrue_or (thn (ha pins s σ H _ I h) λ c s1 hq2=>?_);obtain⟨H1,I1,q1⟩:=hq2;cases c with
 | true=>exact⟨H1,I1,q1⟩
 | false=>exact hb wh pins s1 σ H1 Q I1 q1
theorem afH(ha:PT X a tA):PT X (.UnaryOp .Not a pos) (ajx tA):=by intro pins s σ H Q I h;exact isTrue_not (ha pins s σ H (λ c H1=>Q (!c) H1) I h)
def ahX(ta tb:TE):TE:=λ σ H Q=>ta σ H λ x H1=>∃ c,x=.bl c/\if c=true then tb σ H1 Q else Q (.bl false) H1
def ahJ(ta:TE):TE:=λ σ H Q=>ta σ H λ x H1=>∃ c,x=.bl c/\Q (.bl (!c)) H1
theorem agU{op}{t:TE}(h:PE X a t):PE X (.BoolOp op [a] pos) t:=λ pins s σ H Q I hw=>BoolOp_one (h pins s σ H Q I hw)
theorem agi(ha:PE X a ta)(hb:PE X (.BoolOp .And (b::rest) pos) tb):PE X (.BoolOp .And (a::b::rest) pos) (ahX ta tb):=by
 intro pins s σ H Q I h;refine BoolOp_and (thn (ha pins s σ H _ I h) λ v s1 hq3=>?_);obtain⟨x,H1,I1,r1,q1⟩:=hq3;obtain⟨c,rfl,q1⟩:=q1;cases r1;refine wpAny_truthy_bool ?_;cases c with
 | true=>exact hb pins s1 σ H1 Q I1 q1
 | false=>exact⟨.bl false,H1,I1,rfl,q1⟩
theorem afh(ha:PE X a ta):PE X (.UnaryOp .Not a pos) (ahJ ta):=by intro pins s σ H Q I h;refine UnaryOp_ (thn (ha pins s σ H _ I h) λ v s1 hq4=>?_);obtain⟨x,H1,I1,r1,q1⟩:=hq4;obtain⟨c,rfl,q1⟩:=q1;cases r1;exact not_of (wpAny_truthy_bool ⟨.bl (!c),H1,I1,rfl,q1⟩)
def tIf(t:TT)(ta tb:TE):TE:=λ σ H Q=>t σ H λ c H1=>if c=true then ta σ H1 Q else tb σ H1 Q
theorem aaz{c:Expr}(hc:PT X c tA)(ha:PE X a ta)(hb:PE X b tb):PE X (.IfExp c a b pos) (tIf tA ta tb):=by
 intro pins s σ H Q I h;refine wpAny_IfExp (thn (hc pins s σ H _ I h) λ d s1 hq5=>?_);obtain⟨H1,I1,q1⟩:=hq5;cases d with
 | true=>exact ha pins s1 σ H1 Q I1 q1
 | false=>exact hb pins s1 σ H1 Q I1 q1
end
def SqL(K:FG)(H:Hp)(a:Addr)(xs:List V):Prop:=
 Rd H a (.lst xs) \/
  ∃ (o:Obj) (its:Array Value) (n:Nat),K.lookup a=some o/\o.cls=.type "list" /\ o.dict=none/\o.data=.seq its n/\its.size<=sizeLine/\Vals xs its.toList
def SqT(K:FG)(H:Hp)(a:Addr)(xs:List V):Prop:=
 Rd H a (.tup xs) \/
  ∃ (o:Obj) (its:Array Value) (n:Nat),K.lookup a=some o/\o.cls=.type "tuple" /\ o.dict=none/\o.data=.seq its n/\its.size<=sizeLine/\Vals xs its.toList
def ajA:Value->Option V
 | .none=>some .non
 | .bool b=>some (.bl b)
 | .int i _=>some (.int i)
 | .str x _=>some (.str x)
 | .bytes b _=>some (.byt b)
 | .float b _=>some (.flt b)
 | .ref a=>some (.ref a)
 | .type n=>some (.ty n)
 | _=>none
theorem RelV.abs{x:V}{u:Value}(r:RelV x u):ajA u=some x:=by
 cases x with
 | non=>cases r;rfl
 | bl _=>cases r;rfl
 | int _=>obtain⟨t,rfl⟩:=r;rfl
 | str _=>obtain⟨t,rfl⟩:=r;rfl
 | byt _=>obtain⟨t,rfl⟩:=r;rfl
 | flt _=>obtain⟨t,rfl⟩:=r;rfl
 | ref _=>cases r;rfl
 | ty _=>cases r;rfl
theorem RelV.inj{x y:V}{u:Value}(r:RelV x u)(q:RelV y u):x=y:=Option.some.inj (r.abs.symm.trans q.abs)
theorem Vals.inj:∀ {xs ys:List V} {us:List Value},Vals xs us->Vals ys us->xs=ys
 | _,_,_,.nil,.nil=>rfl
 | _,_,_,.cons r t,.cons r' t'=>by rw[r.inj r',Vals.inj t t']
section
variable {X:Cx}{pins:PN}{σ:St}{H:Hp}{s:Shared}{a:Addr}{xs ys:List V}
theorem SqL.of{K:FG}(h:H a=some (.lst xs)):SqL K H a xs:=.inl (.inl h)
theorem Inv.list(I:Inv X pins σ H s)(h:SqL X.K H a xs):∃ its:List Value,Vals xs its/\PlainL s.heap a its.toArray/\xs.length<=sizeLine:=by
 rcases h with h | ⟨o,its,n,hk,hc,hd,hs,hz,r⟩
 ·obtain⟨z,its,n,r,e⟩:=h.ok I.hok;exact⟨its,r,⟨_,n,e,rfl,rfl,rfl⟩,z⟩
 ·refine⟨its.toList,r,⟨o,n,I.kIn a o hk,hc,hd,by simpa using hs⟩,?_⟩;have e:=r.length;simp only[Array.length_toList] at e;omega
theorem Inv.aiZ(I:Inv X pins σ H s)(h:SqT X.K H a xs):∃ its:List Value,Vals xs its/\yq s.heap a its.toArray/\xs.length<=sizeLine:=by
 rcases h with h | ⟨o,its,n,hk,hc,hd,hs,hz,r⟩
 ·obtain⟨z,its,r,p⟩:=h.ok I.hok;exact⟨its,r,p,z⟩
 ·refine⟨its.toList,r,⟨o,I.kIn a o hk,hc,hd,n,by simpa using hs⟩,?_⟩;have e:=r.length;simp only[Array.length_toList] at e;omega
theorem Inv.tuple(I:Inv X pins σ H s)(h:SqT X.K H a xs):∃ its:List Value,Vals xs its/\IsTup s.heap a its.toArray/\xs.length<=sizeLine:=by obtain⟨its,r,p,z⟩:=I.aiZ h;exact⟨its,r,p.tup,z⟩
theorem Inv.ki(I:Inv X pins σ H s)(h:SqL X.K H a xs)(h':SqL X.K H a ys):xs=ys:=by
 obtain⟨its,r,⟨o,n,e,_,_,d⟩,_⟩:=I.list h;obtain⟨its',r',⟨o',n',e',_,_,d'⟩,_⟩:=I.list h';rw[e] at e';cases e';rw[d] at d'
 injection d' with d1 _
 have:its=its':=by simpa using congrArg Array.toList d1
 subst this;exact r.inj r'
theorem Inv.xu(I:Inv X pins σ H s)(h:SqT X.K H a xs)(h':SqT X.K H a ys):xs=ys:=by
 obtain⟨its,r,⟨o,e,_,n,d⟩,_⟩:=I.tuple h;obtain⟨its',r',⟨o',e',_,n',d'⟩,_⟩:=I.tuple h';rw[e] at e';cases e';rw[d] at d'
 injection d' with d1 _
 have:its=its':=by simpa using congrArg Array.toList d1
 subst this;exact r.inj r'
end
abbrev Cx.zo(X:Cx)(E:VP):Cx:={X with xe:=E}
abbrev Cx.nox(X:Cx):Cx:=X.zo λ _ _=>False
theorem Cx.Ok.zo{X:Cx}(ok:X.Ok)(E:VP):(X.zo E).Ok:=
 ⟨ok.mod,ok.kind,ok.glob,ok.blt,ok.above,ok.inj,ok.has,ok.cab,ok.hd,ok.frames,ok.stk,ok.exf,ok.bs,ok.bsz,ok.noex,ok.exfs,ok.nS,ok.frf⟩
theorem Cx.Ok.jP{X:Cx}{E:VP}(ok:(X.zo E).Ok):X.Ok:=
 ⟨ok.mod,ok.kind,ok.glob,ok.blt,ok.above,ok.inj,ok.has,ok.cab,ok.hd,ok.frames,ok.stk,ok.exf,ok.bs,ok.bsz,ok.noex,ok.exfs,ok.nS,ok.frf⟩
section
variable {X:Cx}{pins:PN}{σ:St}{H:Hp}{s:Shared}{E:VP}
theorem Inv.zo(I:Inv X pins σ H s)(E:VP):Inv (X.zo E) pins σ H s:=⟨I.ok.zo E,I.os,I.bare,I.base,I.loc,I.cell,I.free,I.freeC,I.pin,I.hok,I.len⟩
theorem Inv.jP(I:Inv (X.zo E) pins σ H s):Inv X pins σ H s:=⟨I.ok.jP,I.os,I.bare,I.base,I.loc,I.cell,I.free,I.freeC,I.pin,I.hok,I.len⟩
theorem SP.jP{D:Ends}{f:Flow}{s':Shared}(h:SP (X.zo E) pins D f s'):SP X pins D f s':=by
 cases f with
 | next=>obtain⟨σ',H',I,q⟩:=h;exact⟨σ',H',I.jP,q⟩
 | brk=>obtain⟨σ',H',I,q⟩:=h;exact⟨σ',H',I.jP,q⟩
 | cont=>obtain⟨σ',H',I,q⟩:=h;exact⟨σ',H',I.jP,q⟩
 | ret u=>obtain⟨v,σ',H',I,r,q⟩:=h;exact⟨v,σ',H',I.jP,r,q⟩
theorem PSs.nox{st:List Stmt}{t:TS}(h:PSs X.nox st t):PSs X st t:=λ pins s σ H D I hw =>
 wpAny_mono (h pins s σ H D (I.zo _) hw) (λ _ _ q=>q.jP) λ _ _ z=>False.elim z
end
section
variable {X:Cx}{st:Stmt}{rest:List Stmt}{t u:TS}{e:Expr}{te:TE}{pos:Pos}
def aia:TS:=λ D σ H=>D.nx σ H
def ajy(t u:TS):TS:=λ D σ H=>t {D with nx:=u D} σ H
theorem acv:PSs X [] aia:=λ _ _ σ H _ I h=>wpAny_execs_nil ⟨σ,H,I,h⟩
theorem oy(h1:PS X st t)(h2:PSs X rest u):PSs X (st::rest) (ajy t u):=by
 intro pins s σ H D I h;refine wpAny_execs_cons (thn (h1 pins s σ H {D with nx:=u D} I h) λ f s1 q=>?_);cases f with
 | next =>
  obtain⟨σ',H',I',q⟩:=q;exact h2 pins s1 σ' H' D I' q
 | ret v=>exact q
 | brk=>exact q
 | cont=>exact q
theorem si(h1:PS X st t):PSs X [st] t:=by
 intro pins s σ H D I h;refine wpAny_execs_cons (thn (h1 pins s σ H D I h) λ f s1 q=>?_);cases f with
 | next=>exact wpAny_execs_nil q
 | ret v=>exact q
 | brk=>exact q
 | cont=>exact q
theorem Inv.quiet{pins:PN}{σ:St}{H:Hp}{s:Shared}(I:Inv X pins σ H s):interactive X.env=false:=by simp[interactive,I.ok.kind]
def aiD(te:TE):TS:=λ D σ H=>te σ H λ _ H1=>D.nx σ H1
theorem acK(he:PE X e te)(hs:swapsWith e none pos.line X.env=pure false:=by rfl):PS X (.Expr e pos) (aiD te):=by intro pins s σ H D I h;exact wpAny_Expr_any (thn (he pins s σ H _ I h) λ v s1 ⟨x,H1,I1,r1,q1⟩=>⟨σ,H1,I1,q1⟩) I.quiet hs
def ajD(te:TE):TS:=λ D σ H=>te σ H D.rt
theorem agQ(he:PE X e te):PS X (.Return (some e) pos) (ajD te):=by intro pins s σ H D I h;exact wpAny_Return_some (thn (he pins s σ H _ I h) λ v s1 ⟨x,H1,I1,r1,q1⟩=>⟨x,σ,H1,I1,r1,q1⟩)
def ajh(c:TT)(t u:TS):TS:=λ D σ H=>c σ H λ b H1=>if b=true then t D σ H1 else u D σ H1
theorem aie{c:Expr}{a b:List Stmt}{tc:TT}(hc:PT X c tc)(ha:PSs X a t)(hb:PSs X b u):PS X (.If c a b pos) (ajh tc t u):=by
 intro pins s σ H D I h;refine wpAny_If (thn (hc pins s σ H _ I h) λ d s1 hq6=>?_);obtain⟨H1,I1,q1⟩:=hq6;cases d with
 | true=>exact ha pins s1 σ H1 D I1 q1
 | false=>exact hb pins s1 σ H1 D I1 q1
end
abbrev TG:=V->St->Hp->(St->Hp->Prop)->Prop
abbrev TGs:=List V->St->Hp->(St->Hp->Prop)->Prop
def PG(X:Cx)(target:Expr)(t:TG):Prop:=
 ∀ (pins:PN) (s:Shared) (σ:St) (H:Hp) (v:V) (u:Value) (Q:St->Hp->Prop),Inv X pins σ H s->RelV v u->t v σ H Q ->
  wpAny (model X.prog X.w) X.A (assign target X.env u) (λ _ s'=>∃ σ' H',Inv X pins σ' H' s'/\Q σ' H') X.xe s
def PGs(X:Cx)(ts:List Expr)(t:TGs):Prop:=
 ∀ (pins:PN) (s:Shared) (σ:St) (H:Hp) (vs:List V) (us:List Value) (Q:St->Hp->Prop),Inv X pins σ H s->Vals vs us->t vs σ H Q ->
  wpAny (model X.prog X.w) X.A (assignInOrder ((assignEach ts X.env).map (·.2)) us) (λ _ s'=>∃ σ' H',Inv X pins σ' H' s'/\Q σ' H') X.xe s
abbrev afg:=V->V->V->Hp->(Hp->Prop)->Prop
def ahi(X:Cx)(t:afg):Prop:=
 ∀ (pins:PN) (s:Shared) (σ:St) (H:Hp) (o i v:V) (ov iv u:Value) (Q:Hp->Prop),Inv X pins σ H s->RelV o ov->RelV i iv->RelV v u->t o i v H Q ->
  wpAny (model X.prog X.w) X.A (setItem ov iv u) (λ _ s'=>∃ H',Inv X pins σ H' s'/\Q H') X.xe s
abbrev TIp:=V->V->Hp->VK->Prop
def PIp(X:Cx)(op:Operator)(t:TIp):Prop:=
 ∀ (pins:PN) (s:Shared) (σ:St) (H:Hp) (x y:V) (v u:Value) (Q:VK),Inv X pins σ H s->RelV x v->RelV y u->t x y H Q ->
  wpAny (model X.prog X.w) X.A (inplaceOp op v u) (EP X pins σ Q) X.xe s
section
variable {X:Cx}{pos:Pos}
def adq(i:Nat):TG:=λ v σ H Q=>Q (σ.set i (some v)) H
theorem wL{i:Nat}{x:Str}(hN:X.N.Nodup)(hi:X.N[i]? =some x)(hx:Loc X.env.scope x)(hf:X.fn x=true\/X.env.scope.names.lookup x=some .local:=by first | exact .inl rfl | exact .inr rfl | assumption):PG X (.Name x pos) (adq i):=by intro pins s σ H v u Q I r h;exact wpAny_assign_Name (gE I hN hi hx r (λ s' I'=>⟨_,H,I',h⟩) hf)
def aje:TGs:=λ vs σ H Q=>vs=[]/\Q σ H
def aiq(t:TG)(u:TGs):TGs:=λ vs σ H Q=>∃ v r,vs=v::r/\t v σ H λ σ' H'=>u r σ' H' Q
theorem acV:PGs X [] aje:=by intro pins s σ H vs us Q I r h;obtain⟨e,h⟩:=h;subst e;cases r;exact assignInOrder_nil ⟨σ,H,I,h⟩
theorem zx{e:Expr}{es:List Expr}{t:TG}{u:TGs}(h1:PG X e t)(h2:PGs X es u)
  (hs:(assignEach (e::es) X.env).map (·.2)=assign e X.env::(assignEach es X.env).map (·.2):=by rfl):PGs X (e::es) (aiq t u):=by
 intro pins s σ H vs us Q I r h;obtain⟨v,vr,e1,h⟩:=h;subst e1;cases r with
 | cons r rr =>
  rw[hs];refine assignInOrder_cons (thn (h1 pins s σ H _ _ _ I r h) λ _ s1 hq7=>?_);obtain⟨σ1,H1,I1,q1⟩:=hq7;exact h2 pins s1 σ1 H1 _ _ Q I1 rr q1
def ajE(K:FG)(n:Nat)(t:TGs):TG:=λ v σ H Q=>∃ a xs,v=.ref a/\SqT K H a xs/\xs.length=n/\t xs σ H Q
theorem afj{es:List Expr}{k:Nat}{t:TGs}{n:Nat}(hc:X.calm=true)(h:PGs X es t)
  (hn:(assignEach es X.env).length=n:=by rfl)(hst:(assignEach es X.env).findIdx? (·.1)=none:=by rfl):PG X (.Tuple es k pos) (ajE X.K n t):=by
 intro pins s σ H v u Q I r hw;obtain⟨a,xs,e1,hq,hl,hw⟩:=hw;subst e1;cases r;obtain⟨its,rv,ht,hz⟩:=I.tuple hq;refine assign_Tuple_tuple (I.ok.hd hc) ht (by simp[hn,<- hl,rv.length]) hst λ h' hx=>?_;have I1:Inv X pins σ H {s with heap:=h'}:=I.kept (t':=s.toks) λ b o e=>hx b o (Nat.ne_of_lt (Heap.lt_size e)) e;exact h pins _ σ H xs _ Q I1 (by simpa using rv) hw
def ajp(to ti:TE)(t:afg):TG:=λ v σ H Q=>to σ H λ o H1=>ti σ H1 λ i H2=>t o i v H2 λ H3=>Q σ H3
theorem afA{o i:Expr}{to ti:TE}{t:afg}(ho:PE X o to)(hi:PE X i ti)(hs:ahi X t)
  (ha:∀ v,assign (.Subscript o i pos) X.env v=(do
   let ov <- holding [v] (eval o X.env)
   let iv <- holding [v,ov] (eval i X.env)
   standAt pos
   holding [v,ov,iv] (setItem ov iv v)
   release [v,ov,iv] []):=by intro _;rfl):PG X (.Subscript o i pos) (ajp to ti t):=by
 intro pins s σ H v u Q I r h;rw[ha];refine wpAny_bind (wpAny_holding (thn (ho pins s σ H _ I h) λ ov s1 hq8=>?_));obtain⟨x,H1,I1,r1,q1⟩:=hq8;refine wpAny_bind (wpAny_holding (thn (hi pins s1 σ H1 _ I1 q1) λ iv s2 hq9=>?_));obtain⟨y,H2,I2,r2,q2⟩:=hq9;refine wpAny_bind (wpAny_standAt (wpAny_bind (wpAny_holding (thn (hs pins s2 σ H2 x y v ov iv u _ I2 r1 r2 r q2) λ _ s3 hq10=>?_))));obtain⟨H3,I3,q3⟩:=hq10;exact wpAny_release ⟨σ,H3,I3,q3⟩
def ahk(te:TE)(g:TG):TS:=λ D σ H=>te σ H λ x H1=>g x σ H1 D.nx
theorem agC{tg e:Expr}{te:TE}{g:TG}(he:PE X e te)(hg:PG X tg g)(hs:swapsWithSole [tg] e pos.line X.env=pure false:=by rfl)(hw:swappedStores [tg] e X.env=pure none:=by rfl)
  (h1:(assignEach [tg] X.env).map (·.2)=[assign tg X.env]:=by rfl):PS X (.Assign [tg] e pos) (ahk te g):=by
 intro pins s σ H D I h;refine wpAny_Assign_stores (thn (he pins s σ H _ I h) λ v s1 ⟨x,H1,I1,r1,q1⟩=>?_) hs hw;rw[h1];exact thn (hg pins s1 σ H1 x v _ I1 r1 q1) λ _ s2 q=>q
theorem agm{i:Nat}{x:Str}{e:Expr}{te:TE}{pos':Pos}(hN:X.N.Nodup)(hi:X.N[i]? =some x)(hx:Loc X.env.scope x)(he:PE X e te)(hs:swapsWith e (some (.Name x pos')) pos.line X.env=pure false:=by rfl)(hf:X.fn x=true\/X.env.scope.names.lookup x=some .local:=by first | exact .inl rfl | exact .inr rfl | assumption) :
  PS X (.Assign [.Name x pos'] e pos) (ahk te (adq i)):=by
 intro pins s σ H D I h;refine wpAny_Assign_Name (thn (he pins s σ H _ I h) λ v s1 ⟨y,H1,I1,r1,q1⟩=>?_) hs;exact gE I1 hN hi hx r1 (λ s2 I2=>⟨_,H1,I2,q1⟩) hf
def aji(i j:Nat)(ta:TA):TS:=λ D σ H=>ta σ H λ vs H1=>∃ v w,vs=[v,w]/\D.nx ((σ.set i (some v)).set j (some w)) H1
theorem agk{i j:Nat}{x y:Str}{a b:Expr}{ta:TA}{px py pt:Pos}{kt k2 pt2}(hc:X.calm=true)(hN:X.N.Nodup)(hi:X.N[i]? =some x)(hj:X.N[j]? =some y)(hij:i≠j)
  (hx:X.env.scope.names.lookup x=some .local)(hy:X.env.scope.names.lookup y=some .local)(ha:PA X [a,b] ta)
  (hw:swappedStores [.Tuple [.Name x px,.Name y py] kt pt] (.Tuple [a,b] k2 pt2) X.env=pure (some [x,y]))
  (hs:swapsWithSole [.Tuple [.Name x px,.Name y py] kt pt] (.Tuple [a,b] k2 pt2) pos.line X.env=pure false:=by rfl) :
  PS X (.Assign [.Tuple [.Name x px,.Name y py] kt pt] (.Tuple [a,b] k2 pt2) pos) (aji i j ta):=by
 intro pins s σ H D I h;rw[exec_Assign_arm];refine wpAny_bind (wpAny_standAt ?_);rw[hs];refine wpAny_bind (wpAny_pure ?_);rw[if_neg (by decide)];refine wpAny_bind (Tuple_ (thn (ha _ pins s σ H _ I h) λ us s1 hq11=>?_));obtain⟨vs,H1,I1,r1,q1⟩:=hq11;obtain⟨v,w,e1,q1⟩:=q1;subst e1;obtain⟨u1,u2,rfl,rv,rw'⟩:∃ u1 u2,us=[u1,u2]/\RelV v u1/\RelV w u2:=by
  cases r1 with
  | cons p q =>
   cases q with
   | cons p' q' =>
    cases q';exact⟨_,_,rfl,p,p'⟩
 refine wpAny_newObj_type ?_ (by show 2<=sizeLine;decide);have I2:Inv X pins σ H1 {s1 with heap:=s1.heap.push {cls:=.type "tuple",data:=.seq [u1,u2].toArray}}:=I1.kept (t':=s1.toks) λ b o e=>Heap.get?_push_of_some _ e;rw[hw];refine wpAny_bind (wpAny_pure ?_);show wpAny (model X.prog X.w) X.A (do rule "assign.swapped-stores";let items <- unpackItems (.ref s1.heap.objs.size) 2 none;assignInOrder [λ v=>bindName X.env y v,λ v=>bindName X.env x v] items.reverse;pure Flow.next) _ _ _;refine wpAny_bind (wpAny_rule (wpAny_bind (unpackItems_tuple (items:=#[u1,u2]) (I.ok.hd hc) (IsTup.new s1.heap _) λ h' hx'=>?_)));have I3:=I2.kept (h':=h') (t':=s1.toks) λ b o e=>hx' b o (Nat.ne_of_lt (Heap.lt_size e)) e;show wpAny _ _ (assignInOrder [λ v=>bindName X.env y v,λ v=>bindName X.env x v] [u2,u1] >>= λ _=>pure Flow.next) _ _ _;refine wpAny_bind (assignInOrder_cons (wpAny_bindName (gE I3 hN hj (.inl hy) rw' (λ s2 I4=>?_) (.inr hy))));refine assignInOrder_cons (wpAny_bindName (gE I4 hN hi (.inl hx) rv (λ s3 I5=>assignInOrder_nil (wpAny_pure ?_)) (.inr hx)));rw[List.set_comm _ _ (Ne.symm hij)] at I5;exact⟨_,H1,I5,q1⟩
def aju(i:Nat)(te:TE)(ti:TIp):TS:=λ D σ H=>∃ x,σ[i]? =some (some x)/\te σ H λ y H1=>ti x y H1 λ z H2=>D.nx (σ.set i (some z)) H2
theorem agK{i:Nat}{x:Str}{e:Expr}{te:TE}{op:Operator}{ti:TIp}{pos':Pos}(hN:X.N.Nodup)(hi:X.N[i]? =some x)(hx:Loc X.env.scope x)(he:PE X e te)(ho:PIp X op ti)(hf:X.fn x=true\/X.env.scope.names.lookup x=some .local:=by first | exact .inl rfl | exact .inr rfl | assumption) :
  PS X (.AugAssign (.Name x pos') op e pos) (aju i te ti):=by
 intro pins s σ H D I h;obtain⟨v,e1,h⟩:=h;obtain⟨m,hn,hl⟩:=I.loc;have vis:Vis X.env.scope x:=by rcases hx with k | k;exact .inl k;exact .inr (.inl k)
 obtain⟨u,r,l⟩:=hl i x v hi e1 vis;refine wpAny_AugAssign_Name ?_;have go:wpAny (model X.prog X.w) X.A (eval e X.env) (λ w s₂=>wpAny (model X.prog X.w) X.A (inplaceOp op u w) (λ r s₃=>wpAny (model X.prog X.w) X.A (storeName X.env x r) (λ _=>SP X pins D .next) X.xe s₃) X.xe s₂) X.xe s:=by refine thn (he pins s σ H _ I h) λ w s1 hq12=>?_;obtain⟨y,H1,I1,r1,q1⟩:=hq12;refine thn (ho pins s1 σ H1 v y u w _ I1 r r1 q1) λ z s2 hq13=>?_;obtain⟨zv,H2,I2,r2,q2⟩:=hq13;exact gE I2 hN hi hx r2 (λ s3 I3=>⟨_,H2,I3,q2⟩) hf
 rcases l with ⟨hk,hm⟩ | ⟨hk,c,hc,hcell⟩
 ·exact wpAny_loadName_local I.ok.kind hk hn hm go
 ·rcases hk with hk | hk
  ·exact wpAny_loadName_cell I.ok.kind hk hc hcell go
  ·rcases hx with k | k
   ·have:X.env.scope.names.lookup x=some .free:=hk;rw[k] at this;cases this
   ·have:X.env.scope.names.lookup x=some .free:=hk;rw[k] at this;cases this
def ahF(to ti te:TE)(fY:V->V->Hp->VK->Prop)(tip:TIp)(tset:afg):TS:=λ D σ H=>to σ H λ o H1=>ti σ H1 λ i H2=>fY o i H2 λ x H3=>te σ H3 λ y H4=>tip x y H4 λ z H5=>tset o i z H5 λ H6=>D.nx σ H6
def aib(X:Cx)(t:V->V->Hp->VK->Prop):Prop:=
 ∀ (pins:PN) (s:Shared) (σ:St) (H:Hp) (o i:V) (ov iv:Value) (Q:VK),Inv X pins σ H s->RelV o ov->RelV i iv->t o i H Q ->
  wpAny (model X.prog X.w) X.A (getItem ov iv) (EP X pins σ Q) X.xe s
theorem wk{o i e:Expr}{to ti te:TE}{fY:V->V->Hp->VK->Prop}{tip:TIp}{tset:afg}{op:Operator}{tpos:Pos}(ho:PE X o to)(hi:PE X i ti)(hg:aib X fY)(he:PE X e te)(hp:PIp X op tip)(hs:ahi X tset)
  (ha:∀ ov iv new,augStore i ov iv new=(do holding [new,ov,iv] (setItem ov iv new);release [new,ov,iv] [];pure .next):=by intros;rfl):PS X (.AugAssign (.Subscript o i tpos) op e pos) (ahF to ti te fY tip tset):=by
 intro pins s σ H D I h;refine wpAny_AugAssign_SubscriptAny (thn (ho pins s σ H _ I h) λ ov s1 ⟨x1,H1,I1,r1,q1⟩=>?_) ha;refine thn (hi pins s1 σ H1 _ I1 q1) λ iv s2 hq14=>?_;obtain⟨x2,H2,I2,r2,q2⟩:=hq14;refine thn (hg pins s2 σ H2 x1 x2 ov iv _ I2 r1 r2 q2) λ old s3 hq15=>?_;obtain⟨x3,H3,I3,r3,q3⟩:=hq15;refine thn (he pins s3 σ H3 _ I3 q3) λ v s4 hq16=>?_;obtain⟨x4,H4,I4,r4,q4⟩:=hq16;refine thn (hp pins s4 σ H4 x3 x4 old v _ I4 r3 r4 q4) λ new s5 hq17=>?_;obtain⟨x5,H5,I5,r5,q5⟩:=hq17;exact thn (hs pins s5 σ H5 x1 x2 x5 ov iv new _ I5 r1 r2 r5 q5) λ _ s6 ⟨H6,I6,q6⟩=>⟨σ,H6,I6,q6⟩
def ipI(f:Int->Int->Int):TIp:=λ x y H Q=>∃ i j,x=.int i/\y=.int j/\Q (.int (f i j)) H
theorem ab0:PIp X .Add (ipI λ i j=>i+j):=by intro pins s σ H x y v u Q I r1 r2 h;obtain⟨i,j,e1,e2,q⟩:=h;subst e1;subst e2;obtain⟨t,rfl⟩:=r1;obtain⟨t',rfl⟩:=r2;exact iadd_int ⟨.int _,H,I.tok _,⟨_,rfl⟩,q⟩
theorem agG:PIp X .Sub (ipI λ i j=>i-j):=by intro pins s σ H x y v u Q I r1 r2 h;obtain⟨i,j,e1,e2,q⟩:=h;subst e1;subst e2;obtain⟨t,rfl⟩:=r1;obtain⟨t',rfl⟩:=r2;exact isub_int ⟨.int _,H,I.tok _,⟨_,rfl⟩,q⟩
end
section
variable {X:Cx}{pos:Pos}
end
structure It where
 go:Nat->Hp->Prop
 yld:Nat->Hp->V->Hp->Prop
 stop:Nat->Hp->Prop
def jg(X:Cx)(pins:PN)(H:Hp)(b:Addr):Prop:=
 H b=none/\b≠X.env.locals/\b ∉ X.fs/\(b∈X.ex\/X.s₀.heap.objs.size<=b)/\(∀ x c,X.env.cells.lookup x=some c->c≠b)/\∀ p∈X.pn++pins,p.1≠b
theorem Inv.oz{X:Cx}{pins:PN}{σ:St}{H H':Hp}{s:Shared}{b:Addr}(I:Inv X pins σ H s)(hb:s.heap.objs.size<=b)(hn:H' b=none):jg X pins H' b:=by
 refine⟨hn,Nat.ne_of_gt (Nat.lt_of_lt_of_le I.lt hb),I.ai8 hb,.inr (Nat.le_trans I.sz hb),λ x c e z=>?_,λ p hp z=>?_⟩
 ·obtain⟨v,q⟩:=I.cell x c e;exact absurd (Nat.lt_of_lt_of_le q.lt (by rw[z];exact hb)) (Nat.lt_irrefl _)
 ·exact absurd (Nat.lt_of_lt_of_le (Heap.lt_size (I.pin p hp).1) (by rw[z];exact hb)) (Nat.lt_irrefl _)
structure Turn(P:Program)(w:World)(K:FG)(tg:Expr)(J:It)(fp:List Addr)(it:Addr)(tn:Nat->Heap->Prop):Prop where
 mem:it∈fp
 obj:∀ i h,tn i h->∀ b∈fp,∃ o,h.get? b=some o/\∀ v,o.data ≠ .cell v
 keep:∀ i h h',tn i h->(∀ b∈fp,∀ o,h.get? b=some o->h'.get? b=some o)->tn i h'
 item:∀ (X:Cx),X.prog=P->X.w=w->X.K=K->X.calm=true->∀ (i:Nat) (pins:PN) (s:Shared) (σ:St) (H:Hp) (E:VP),Inv X pins σ H s->(∀ b∈fp,jg X pins H b)->tn i s.heap->J.go i H ->
  wpAny (model P w) X.A (pyNext (.ref it)) (λ r s1=>∃ u,r=some u /\
   wpAny (model P w) X.A (letOwnedTupleGo tg (.ref it) u) (λ _ s2=>∃ x H',Inv X pins σ H' s2/\RelV x u/\J.yld i H x H'/\tn (i+1) s2.heap/\∀ b∈fp,H' b=none) E s1) E s
 done:∀ (X:Cx),X.prog=P->X.w=w->X.K=K->X.calm=true->∀ (i:Nat) (pins:PN) (s:Shared) (σ:St) (H:Hp) (E:VP),Inv X pins σ H s->(∀ b∈fp,jg X pins H b)->tn i s.heap->J.stop i H ->
  wpAny (model P w) X.A (pyNext (.ref it)) (λ r s1=>r=none/\Inv X pins σ H s1) E s
 self:∀ (A:Around) (i:Nat) (s:Shared) (Q:VP) (E:VP),tn i s.heap->Q (.ref it) s->wpAny (model P w) A (pyIter (.ref it)) Q E s
abbrev TI:=St->Hp->(It->Hp->Prop)->Prop
def PIE(X:Cx)(pins:PN)(σ:St)(tg:Expr)(R:It->Hp->Prop)(itv:Value)(s2:Shared):Prop:=
 ∃ (it:Addr) (fp:List Addr) (tn:Nat->Heap->Prop) (J:It) (H':Hp),itv=.ref it/\Inv X pins σ H' s2/\Turn X.prog X.w X.K tg J fp it tn/\tn 0 s2.heap/\(∀ b∈fp,jg X pins H' b)/\R J H'
def PI(X:Cx)(tg iter:Expr)(wi:TI):Prop:=
 ∀ (pins:PN) (s:Shared) (σ:St) (H:Hp) (R:It->Hp->Prop),Inv X pins σ H s->wi σ H R ->
  wpAny (model X.prog X.w) X.A (eval iter X.env) (λ v s1=>wpAny (model X.prog X.w) X.A (pyIter v) (PIE X pins σ tg R) X.xe s1) X.xe s
theorem uM{M:Model}{A:Around}{E:VP}{s:Shared}{tg:Expr}{it:Addr}{u:Value}{o:Obj}{n:String}{vs:Array Value}{Q:Unit->Shared->Prop}(ho:s.heap.get? it=some o)(hc:o.cls=.type n)(hd:o.data=.fields vs)
  (hn:["enumerate", "zip", "dict_itemiterator", "dict_reverseitemiterator", "odict_iterator", "itertools.zip_longest", "itertools.pairwise"].contains n=false)(hQ:Q () s):wpAny M A (letOwnedTupleGo tg (.ref it) u) Q E s:=by
 unfold letOwnedTupleGo;cases tg<;>first
  | exact wpAny_pure hQ
  | (cases u<;>first
    | exact wpAny_pure hQ
    | (refine wpAny_bind (wpAny_load ho ?_)
       rw[hc,hd];show wpAny M A (if (["enumerate", "zip", "dict_itemiterator", "dict_reverseitemiterator", "odict_iterator", "itertools.zip_longest", "itertools.pairwise"].contains n&&vs[0]? == some (rawInt _))=true then _ else _) Q E s;rw[if_neg (by intro h;rw[hn,Bool.false_and] at h;cases h)];exact wpAny_pure hQ))
def Itl(K:FG)(a:Addr):It:=
 ⟨λ i H=>∃ xs x,SqL K H a xs/\xs[i]? =some x,λ i H x H'=>H'=H/\∀ xs,SqL K H a xs->xs[i]? =some x,λ i H=>∃ xs,SqL K H a xs/\xs.length<=i⟩
def Itt(K:FG)(a:Addr):It:=
 ⟨λ i H=>∃ xs x,SqT K H a xs/\xs[i]? =some x,λ i H x H'=>H'=H/\∀ xs,SqT K H a xs->xs[i]? =some x,λ i H=>∃ xs,SqT K H a xs/\xs.length<=i⟩
def Itr(lo:Int)(n:Nat):It:=⟨λ i _=>i<n,λ i H x H'=>H'=H/\x=.int (lo+i),λ i _=>n<=i⟩
theorem yb{P:Program}{w:World}{K:FG}{tg:Expr}(a it:Addr):Turn P w K tg (Itl K a) [it] it (λ i h=>h.IsListIter it a i) where
 mem:=by simp
 obj:=λ i h st b hb=>by
  have e:b=it:=by simpa using hb
  subst e;obtain⟨o,e,c,d⟩:=st;exact⟨o,e,λ v z=>by rw[d] at z;cases z⟩
 keep:=λ i h h' st k=>st.at λ o e=>k it (by simp) o e
 item:=by intro X hP hw hK hc i pins s σ H E I hf st hg;subst hP hw hK;obtain⟨xs,x,hq,hx⟩:=hg;obtain⟨its,rv,p,hz⟩:=I.list hq;obtain⟨u,hu,ru⟩:=rv.get hx;obtain⟨f0,f1,f2,f3,f4,f5⟩:=hf it (by simp);refine wpAny_pyNext_list_item st p.isList (x:=u) (by simpa using hu) λ h' st' sb=>?_;have I1:Inv X pins σ H {s with heap:=h'}:=I.turned (t':=s.toks) (λ b o hb e=>(sb.2 b hb).trans e) f0 f1 f3 f4 f5;obtain⟨o,e,c,d⟩:=id st';exact⟨u,rfl,uM (s:={s with heap:=h'}) e c d (by decide) ⟨x,H,I1,ru,⟨rfl,λ ys hy=>by rw[I.ki hy hq];exact hx⟩,st',λ b hb=>(hf b hb).1⟩⟩
 done:=by intro X hP hw hK hc i pins s σ H E I hf st hg;subst hP hw hK;obtain⟨xs,hq,hx⟩:=hg;obtain⟨its,rv,p,hz⟩:=I.list hq;obtain⟨f0,f1,f2,f3,f4,f5⟩:=hf it (by simp);have hl:=rv.length;exact wpAny_pyNext_list_end (I.ok.hd hc) st p.isList (by simp;omega) λ h' eb=>⟨rfl,I.turned (t':=s.toks) (λ b o hb e=>eb b o hb e) f0 f1 f3 f4 f5⟩
 self:=λ _ _ _ _ _ st h=>wpAny_pyIter_listiter st h
theorem u6{P:Program}{w:World}{K:FG}{tg:Expr}(a it:Addr):Turn P w K tg (Itt K a) [it] it (λ i h=>h.IsTupleIter it a i) where
 mem:=by simp
 obj:=λ i h st b hb=>by
  have e:b=it:=by simpa using hb
  subst e;obtain⟨o,e,c,d⟩:=st;exact⟨o,e,λ v z=>by rw[d] at z;cases z⟩
 keep:=λ i h h' st k=>st.at λ o e=>k it (by simp) o e
 item:=by intro X hP hw hK hc i pins s σ H E I hf st hg;subst hP hw hK;obtain⟨xs,x,hq,hx⟩:=hg;obtain⟨its,rv,p,hz⟩:=I.tuple hq;obtain⟨u,hu,ru⟩:=rv.get hx;obtain⟨f0,f1,f2,f3,f4,f5⟩:=hf it (by simp);refine wpAny_pyNext_tuple_item st (show s.heap.IsTuple a its.toArray from p) (x:=u) (by simpa using hu) λ h' st' sb=>?_;have I1:Inv X pins σ H {s with heap:=h'}:=I.turned (t':=s.toks) (λ b o hb e=>(sb.2 b hb).trans e) f0 f1 f3 f4 f5;obtain⟨o,e,c,d⟩:=id st';exact⟨u,rfl,uM (s:={s with heap:=h'}) e c d (by decide) ⟨x,H,I1,ru,⟨rfl,λ ys hy=>by rw[I.xu hy hq];exact hx⟩,st',λ b hb=>(hf b hb).1⟩⟩
 done:=by intro X hP hw hK hc i pins s σ H E I hf st hg;subst hP hw hK;obtain⟨xs,hq,hx⟩:=hg;obtain⟨its,rv,p,hz⟩:=I.tuple hq;obtain⟨f0,f1,f2,f3,f4,f5⟩:=hf it (by simp);have hl:=rv.length;exact wpAny_pyNext_tuple_end (I.ok.hd hc) st (show s.heap.IsTuple a its.toArray from p) (by simp;omega) λ h' eb=>⟨rfl,I.turned (t':=s.toks) (λ b o hb e=>eb b o hb e) f0 f1 f3 f4 f5⟩
 self:=λ _ _ _ _ _ st h=>wpAny_pyIter_tupleiter st h
theorem vo{P:Program}{w:World}{K:FG}{tg:Expr}(it:Addr)(lo:Int)(n:Nat):Turn P w K tg (Itr lo n) [it] it (λ i h=>IsRangeIter h it (lo+(i:Nat) * 1) ((n:Int)-(i:Nat)) 1) where
 mem:=by simp
 obj:=λ i h st b hb=>by
  have e:b=it:=by simpa using hb
  subst e;exact⟨_,st,λ v z=>by have z':Data.fields _=Data.cell v:=z;cases z'⟩
 keep:=λ i h h' st k=>k it (by simp) _ st
 item:=by intro X hP hw hK hc i pins s σ H E I hf st hg;subst hP hw hK;obtain⟨f0,f1,f2,f3,f4,f5⟩:=hf it (by simp);have W:=Walks.range (prog:=X.prog) (w:=X.w) (I.ok.hd hc) it lo 1 n;refine W.item i s _ _ hg st λ v h' tk hv st' kk=>?_;obtain⟨t,rfl⟩:=hv;have I1:Inv X pins σ H {s with heap:=h',toks:=tk}:=I.turned (λ b o hb e=>kk b o (by simpa using hb) e) f0 f1 f3 f4 f5;refine⟨_,rfl,uM (s:={s with heap:=h',toks:=tk}) (n:= "range_iterator") st' rfl rfl (by decide) ⟨.int (lo+i),H,I1,⟨t,?_⟩,⟨rfl,rfl⟩,st',λ b hb=>(hf b hb).1⟩⟩;rw[Int.mul_one]
 done:=by intro X hP hw hK hc i pins s σ H E I hf st hg;subst hP hw hK;obtain⟨f0,f1,f2,f3,f4,f5⟩:=hf it (by simp);exact wpAny_pyNext_range_end (I.ok.hd hc) st (by have:n<=i:=hg;omega) λ h' eb=>⟨rfl,I.turned (t':=s.toks) (λ b o hb e=>eb b o hb e) f0 f1 f3 f4 f5⟩
 self:=λ _ _ _ _ _ st h=>wpAny_pyIter_rangeiter st h
section
variable {X:Cx}{tg:Expr}
theorem aa5{pins:PN}{σ:St}{H:Hp}{s:Shared}{R:It->Hp->Prop}{E:VP}{lo hi:Int}{t u v:Tok}{tk:Nat}(I:Inv X pins σ H s)(h1:-(2 ^ 62)<=lo)(h2:lo<2 ^ 62)(h3:-(2 ^ 62)<=hi)(h4:hi<2 ^ 62)
  (q:R (Itr lo (hi-lo).toNat) H):wpAny (model X.prog X.w) X.A (pyIter (.ref s.heap.objs.size)) (PIE X pins σ tg R) E {s with heap:=s.heap.push {cls:=.type "range",data:=.fields #[.int lo t,.int hi u,.int 1 v]},toks:=tk}:=by
 refine wpAny_pyIter_range (IsRange.new ..) (small_one h1 h2 h3 h4) ?_;have I1:Inv X pins σ H {s with heap:=s.heap.push {cls:=.type "range",data:=.fields #[.int lo t,.int hi u,.int 1 v]},toks:=tk}:=I.kept λ b o e=>Heap.get?_push_of_some _ e;refine⟨(s.heap.push {cls:=.type "range",data:=.fields #[.int lo t,.int hi u,.int 1 v]}).objs.size,[(s.heap.push {cls:=.type "range",data:=.fields #[.int lo t,.int hi u,.int 1 v]}).objs.size],_,_,H,rfl,
  I1.kept (t':=tk) λ b o e=>Heap.get?_push_of_some _ e,vo _ lo (hi-lo).toNat,?_,λ b hb=>?_,q⟩
 ·have e1:lo+((0:Nat):Int) * 1=lo:=by simp
  have e2:(((hi-lo).toNat:Nat):Int)-((0:Nat):Int)=Builtin.Range.rangeSize lo hi 1:=by rw[rangeSize_one];split<;>omega
  show IsRangeIter _ _ (lo+((0:Nat):Int) * 1) ((((hi-lo).toNat:Nat):Int)-((0:Nat):Int)) 1;rw[e1,e2];exact Heap.get?_push_size _ rfl
 ·have e:b=(s.heap.push {cls:=.type "range",data:=.fields #[.int lo t,.int hi u,.int 1 v]}).objs.size:=by simpa using hb
  subst e;exact I1.oz (Nat.le_refl _) (I1.hok.fresh (Nat.le_refl _))
def aiB(ta:TA):TI:=λ σ H R=>ta σ H λ vs H1=>∃ j:Int,vs=[.int j]/\-(2 ^ 62)<=j/\j<2 ^ 62/\R (Itr 0 j.toNat) H1
theorem vW{a:Expr}{ta:TA}{p pos:Pos}(hg:Gl X "range")(hm:X.mg "range" = none)(ha:PA X [a] ta)(hs:starEach [a] X.env=[(false,eval a X.env)]:=by rfl):PI X tg (.Call (.Name "range" p) [a] [] pos) (aiB ta):=by
 intro pins s σ H R I h;refine Call_ (g6 I hg hm boot_range (PyProof.Rows.callWith_type1 (thn (ha pos pins s σ H _ I h) λ us s1 ⟨vs,H1,I1,r1,q1⟩=>?_) hs rfl));obtain⟨j,e,q1,q2,q⟩:=q1;subst e;cases r1 with
 | cons r rr =>
  cases rr;obtain⟨t,rfl⟩:=r;exact call_range_1 (aa5 I1 (by omega) (by omega) q1 q2 (by simpa using q))
def ajw(wi:TI)(g:TG)(tb:TS):TS:=λ D σ H=>wi σ H λ J H1=>∃ W:Nat->Nat->St->Hp->Prop,(∃ m,W 0 m σ H1)/\∀ i m σ H,W i m σ H ->
 (J.stop i H/\D.nx σ H)\/(J.go i H/\∃ N:St->Hp->Prop,(∀ σ' H',N σ' H'->∃ m',m'<m/\W (i+1) m' σ' H')/\∀ x H',J.yld i H x H'->g x σ H' λ σ2 H2=>tb {D with nx:=N,ct:=N,bk:=D.nx} σ2 H2)
def lC(fp:List Addr)(h:Heap):PN:=fp.filterMap λ b=>(h.get? b).map λ o=>(b,o)
theorem eN{fp:List Addr}{h:Heap}{b:Addr}{o:Obj}(hb:b∈fp)(e:h.get? b=some o):(b,o)∈lC fp h:=List.mem_filterMap.mpr ⟨b,hb,by rw[e];rfl⟩
theorem yG{fp:List Addr}{h:Heap}{p:Addr×Obj}(hp:p∈lC fp h):p.1∈fp/\h.get? p.1=some p.2:=by
 obtain⟨b,hb,e⟩:=List.mem_filterMap.mp hp;cases q:h.get? b with
 | none=>rw[q] at e;cases e
 | some o =>
  rw[q] at e;have e':(b,o)=p:=Option.some.inj e;subst e';exact⟨hb,q⟩
theorem Inv.pinned{pins:PN}{σ:St}{H:Hp}{s:Shared}{fp:List Addr}(I:Inv X pins σ H s)(hf:∀ b∈fp,jg X pins H b)(ho:∀ b∈fp,∃ o,s.heap.get? b=some o/\∀ v,o.data ≠ .cell v):Inv X (pins++lC fp s.heap) σ H s:=
 I.fm λ p hp=>(List.mem_append.mp hp).elim (λ z=>I.pin p (List.mem_append_right _ z)) λ z=>by obtain⟨hb,e⟩:=yG z;obtain⟨f0,f1,f2,_⟩:=hf p.1 hb;obtain⟨o,e',d⟩:=ho p.1 hb;rw[e] at e';cases e';exact⟨e,f0,f1,f2,d⟩
theorem Inv.kE{pins pl:PN}{σ:St}{H:Hp}{s:Shared}(I:Inv X (pins++pl) σ H s):Inv X pins σ H s:=I.fm λ p hp=>I.pin p (List.mem_append_right _ (List.mem_append_left _ hp))
theorem af5{iter:Expr}{body:List Stmt}{wi:TI}{g:TG}{tb:TS}{pos:Pos}(hp:PassesOwn (model X.prog X.w) X.A X.env X.xe)(hc:X.calm=true)(hi:PI X tg iter wi)(hg:PG X tg g)(hb:PSs X body tb)
  (hs:∀ x,foldedSetIterable iter X.env x=pure x:=by intro _;rfl):PS X (.For tg iter body [] pos) (ajw wi g tb):=by
 intro pins s σ H D I h;refine wpAny_For (thn (hi pins s σ H _ I h) λ v s1 h1=>thn h1 λ itv s2 h2=>?_) hs;obtain⟨it,fp,tn,J,H2,e,I2,T,st2,f2,W,⟨m0,w0⟩,turn⟩:=h2;subst e;have stat:∀ {H':Hp},(∀ b∈fp,H' b=none)->∀ b∈fp,jg X pins H' b:=λ hn b hb=>⟨hn b hb,(f2 b hb).2⟩;refine codeAny_forLoop_any (λ n s'=>∃ i σ' H',Inv X pins σ' H' s'/\tn i s'.heap/\(∀ b∈fp,H' b=none)/\W i n σ' H') ?_ m0 ⟨0,σ,H2,I2,st2,λ b hb=>(f2 b hb).1,w0⟩;rintro n s3 ⟨i,σ3,H3,I3,st3,fr3,w3⟩;rcases turn i n σ3 H3 w3 with ⟨stop,qn⟩ | ⟨go,N,hN,step⟩
 ·refine wpAny_passesOwn hp (thn (T.done X rfl rfl rfl hc i pins s3 σ3 H3 X.xe I3 (stat fr3) st3 stop) λ r s4 ⟨hr,I4⟩=>?_);subst hr;exact wpAny_execs_nil ⟨σ3,H3,I4,qn⟩
 ·refine wpAny_passesOwn hp (thn (T.item X rfl rfl rfl hc i pins s3 σ3 H3 X.xe I3 (stat fr3) st3 go) λ r s4 ⟨u,hr,h4⟩=>?_);subst hr;refine wpAny_passesOwn hp (thn h4 λ _ s5 hq18=>?_);obtain⟨x,H5,I5,r5,y5,st5,fr5⟩:=hq18;have I5':=I5.pinned (stat fr5) (T.obj _ _ st5);refine wpAny_passesOwn hp (thn (hg _ s5 σ3 H5 x u _ I5' r5 (step x H5 y5)) λ _ s6 hq19=>?_);obtain⟨σ6,H6,I6,q6⟩:=hq19;refine wpAny_passesOwn hp (thn (hb _ s6 σ6 H6 _ I6 q6) λ f s7 q7=>?_);have again:∀ {σ7:St} {H7:Hp},Inv X (pins++lC fp s5.heap) σ7 H7 s7->N σ7 H7->∃ m,m<n/\∃ i σ' H',Inv X pins σ' H' s7/\tn i s7.heap/\(∀ b∈fp,H' b=none)/\W i m σ' H':=λ {σ7 H7} I7 n7=>by obtain⟨m',hm,w7⟩:=hN σ7 H7 n7;refine⟨m',hm,i+1,σ7,H7,I7.kE,T.keep _ _ _ st5 λ b hb o e=>(I7.pin (b,o) (List.mem_append_right _ (List.mem_append_right _ (eN hb e)))).1,λ b hb=>?_,w7⟩;obtain⟨o,e,d⟩:=T.obj _ _ st5 b hb;exact(I7.pin (b,o) (List.mem_append_right _ (List.mem_append_right _ (eN hb e)))).2.1
  cases f with
  | next=>obtain⟨σ7,H7,I7,n7⟩:=q7;exact again I7 n7
  | cont=>obtain⟨σ7,H7,I7,n7⟩:=q7;exact again I7 n7
  | brk=>obtain⟨σ7,H7,I7,q7⟩:=q7;exact⟨σ7,H7,I7.kE,q7⟩
  | ret v=>obtain⟨x7,σ7,H7,I7,r7,q7⟩:=q7;exact⟨x7,σ7,H7,I7.kE,r7,q7⟩
end
abbrev R2:=V->V->Hp->VK->Prop
def OpR(X:Cx)(f:Value->Value->Sem Value)(r:R2):Prop:=
 ∀ (pins:PN) (s:Shared) (σ:St) (H:Hp) (x y:V) (v u:Value) (Q:VK),Inv X pins σ H s->RelV x v->RelV y u->r x y H Q ->
  wpAny (model X.prog X.w) X.A (f v u) (EP X pins σ Q) X.xe s
def UnR(X:Cx)(f:Value->Sem Value)(r:V->Hp->VK->Prop):Prop:=
 ∀ (pins:PN) (s:Shared) (σ:St) (H:Hp) (x:V) (v:Value) (Q:VK),Inv X pins σ H s->RelV x v->r x H Q ->
  wpAny (model X.prog X.w) X.A (f v) (EP X pins σ Q) X.xe s
def eI(X:Cx)(f:Value)(r:List V->Hp->VK->Prop):Prop:=
 ∀ (pins:PN) (s:Shared) (σ:St) (H:Hp) (xs:List V) (us:List Value) (Q:VK),Inv X pins σ H s->Vals xs us->r xs H Q ->
  wpAny (model X.prog X.w) X.A (call f us) (EP X pins σ Q) X.xe s
def tOp(r:R2)(ta tb:TE):TE:=λ σ H Q=>ta σ H λ x H1=>tb σ H1 λ y H2=>r x y H2 Q
def tUn(r:V->Hp->VK->Prop)(ta:TE):TE:=λ σ H Q=>ta σ H λ x H1=>r x H1 Q
def rI(C:Int->Int->Prop)(g:Int->Int->V):R2:=λ x y H Q=>∃ i j,x=.int i/\y=.int j/\C i j/\Q (g i j) H
def rI0(g:Int->Int->V):R2:=λ x y H Q=>∃ i j,x=.int i/\y=.int j/\Q (g i j) H
def rU(g:Int->V):V->Hp->VK->Prop:=λ x H Q=>∃ i,x=.int i/\Q (g i) H
section
variable {X:Cx}{a b c:Expr}{ta tb tc:TE}{pos:Pos}
theorem ahQ(ha:PE X a ta)(hb:PE X b tb){pins:PN}{s:Shared}{σ:St}{H:Hp}{R:V->V->Hp->Prop}(I:Inv X pins σ H s)
  (h:ta σ H λ x H1=>tb σ H1 λ y H2=>R x y H2){Q:VP}{f:Value->Value->Sem Value}
  (hf:∀ v u s2 x y H2,Inv X pins σ H2 s2->RelV x v->RelV y u->R x y H2->wpAny (model X.prog X.w) X.A (f v u) Q X.xe s2) :
  wpAny (model X.prog X.w) X.A (eval a X.env) (λ v s₁=>wpAny (model X.prog X.w) X.A (eval b X.env) (λ u s₂=>wpAny (model X.prog X.w) X.A (f v u) Q X.xe s₂) X.xe s₁) X.xe s:=by
 refine thn (ha pins s σ H _ I h) λ v s1 hq20=>?_;obtain⟨x,H1,I1,r1,q1⟩:=hq20;refine thn (hb pins s1 σ H1 _ I1 q1) λ u s2 hq21=>?_;obtain⟨y,H2,I2,r2,q2⟩:=hq21;exact hf v u s2 x y H2 I2 r1 r2 q2
theorem afB{op:Operator}{r:R2}(ho:OpR X (binaryOp op) r)(ha:PE X a ta)(hb:PE X b tb):PE X (.BinOp a op b pos) (tOp r ta tb):=by intro pins s σ H Q I h;exact wpAny_BinOp (ahQ ha hb I h λ v u s2 x y H2 I2 rx ry q=>ho pins s2 σ H2 x y v u Q I2 rx ry q)
theorem ahV{op:UnaryOp}{r:V->Hp->VK->Prop}(ho:UnR X (unaryOp op) r)(ha:PE X a ta):PE X (.UnaryOp op a pos) (tUn r ta):=by intro pins s σ H Q I h;exact UnaryOp_ (thn (ha pins s σ H _ I h) λ v s1 ⟨x,H1,I1,r1,q1⟩=>ho pins s1 σ H1 x v Q I1 r1 q1)
theorem opI{f:Value->Value->Sem Value}{C:Int->Int->Prop}{g:Int->Int->Int}
  (rule:∀ (i j:Int) (t u:Tok) (s:Shared) (Q:VP) (E:VP),C i j->Q (.int (g i j) s.toks) {s with toks:=s.toks+1}->wpAny (model X.prog X.w) X.A (f (.int i t) (.int j u)) Q E s) :
  OpR X f (rI C λ i j=>.int (g i j)):=by
 intro pins s σ H x y v u Q I rx ry h;obtain⟨i,j,rfl,rfl,hc,q⟩:=h;obtain⟨t,rfl⟩:=rx;obtain⟨t',rfl⟩:=ry;exact rule i j t t' s _ _ hc ⟨.int (g i j),H,I.tok _,⟨_,rfl⟩,q⟩
theorem aiO{f:Value->Value->Sem Value}{g:Int->Int->Int}
  (rule:∀ (i j:Int) (t u:Tok) (s:Shared) (Q:VP) (E:VP),Q (.int (g i j) s.toks) {s with toks:=s.toks+1}->wpAny (model X.prog X.w) X.A (f (.int i t) (.int j u)) Q E s) :
  OpR X f (rI0 λ i j=>.int (g i j)):=by
 intro pins s σ H x y v u Q I rx ry h;obtain⟨i,j,rfl,rfl,q⟩:=h;obtain⟨t,rfl⟩:=rx;obtain⟨t',rfl⟩:=ry;exact rule i j t t' s _ _ ⟨.int (g i j),H,I.tok _,⟨_,rfl⟩,q⟩
theorem ahn{f:Value->Value->Sem Value}{g:Int->Int->Bool}
  (rule:∀ (i j:Int) (t u:Tok) (s:Shared) (Q:VP) (E:VP),Q (.bool (g i j)) s->wpAny (model X.prog X.w) X.A (f (.int i t) (.int j u)) Q E s) :
  OpR X f (rI0 λ i j=>.bl (g i j)):=by
 intro pins s σ H x y v u Q I rx ry h;obtain⟨i,j,rfl,rfl,q⟩:=h;obtain⟨t,rfl⟩:=rx;obtain⟨t',rfl⟩:=ry;exact rule i j t t' s _ _ ⟨.bl (g i j),H,I,rfl,q⟩
def ais(i j:Int):Prop:=0<j/\j<1073741824
def afR(i j:Int):Prop:=(-(2 ^ 64)<i/\i<2 ^ 64)\/(-(2 ^ 64)<j/\j<2 ^ 64)
theorem afR.ok{i j:Int}(h:afR i j):IntMulOk i j:=by
 rcases h with ⟨h1,h2⟩ | ⟨h1,h2⟩
 ·exact .of_left (intBits_le_64 h1 h2)
 ·exact .of_right (intBits_le_64 h1 h2)
theorem aeH:OpR X (binaryOp .Add) (rI0 λ i j=>.int (i+j)):=aiO λ _ _ _ _ _ _ _ q=>add_int q
theorem xR:OpR X (binaryOp .Sub) (rI0 λ i j=>.int (i-j)):=aiO λ _ _ _ _ _ _ _ q=>sub_int q
theorem m9:OpR X (binaryOp .Mult) (rI afR λ i j=>.int (i * j)):=opI λ _ _ _ _ _ _ _ hc q=>mul_int q hc.ok
theorem xt:OpR X (binaryOp .FloorDiv) (rI ais λ i j=>.int (i / j)):=opI λ i j _ _ _ _ _ hc q=>by have h1:(0:Int)<j:=hc.1;have h2:j<1073741824:=hc.2;exact floordiv_int (by omega) (by rw[Int.fdiv_eq_ediv_of_nonneg i (by omega)];exact q) (.inl (PyProof.noPylong_small (by omega)))
theorem gx:OpR X (binaryOp .Mod) (rI (λ _ j=>0<j) λ i j=>.int (i % j)):=opI λ i j _ _ _ _ _ hc q=>by have h1:(0:Int)<j:=hc;exact mod_int' (by omega) (by rw[Int.fmod_eq_emod_of_nonneg i (by omega)];exact q)
theorem unI{f:Value->Sem Value}{g:Int->Int}
  (rule:∀ (i:Int) (t:Tok) (s:Shared) (Q:VP) (E:VP),Q (.int (g i) s.toks) {s with toks:=s.toks+1}->wpAny (model X.prog X.w) X.A (f (.int i t)) Q E s) :
  UnR X f (rU λ i=>.int (g i)):=by
 intro pins s σ H x v Q I rx h;obtain⟨i,rfl,q⟩:=h;obtain⟨t,rfl⟩:=rx;exact rule i t s _ _ ⟨.int (g i),H,I.tok _,⟨_,rfl⟩,q⟩
theorem f7:UnR X (unaryOp .USub) (rU λ i=>.int (-i)):=unI λ _ _ _ _ _ q=>neg_int q
end
def ai7:V->V->Bool
 | .non,.non=>true | .non,.int _=>true | .int _,.non=>true | .non,.bl _=>true | .bl _,.non=>true | .non,.str _=>true | .str _,.non=>true
 | .int _,.int _=>true | .bl _,.bl _=>true | .str _,.str _=>true | .byt _,.byt _=>true
 | .int _,.str _=>true | .str _,.int _=>true | .bl _,.str _=>true | .str _,.bl _=>true
 | _,_=>false
def rEq:R2:=λ x y H Q=>ai7 x y=true/\Q (.bl (decide (x=y))) H
def rNe:R2:=λ x y H Q=>ai7 x y=true/\Q (.bl (!decide (x=y))) H
theorem wm{i j:Int}:decide (V.int i=V.int j)=(i==j):=by rw[Bool.eq_iff_iff];simp
theorem abq{i j:Bool}:decide (V.bl i=V.bl j)=(i==j):=by rw[Bool.eq_iff_iff];simp
theorem vP{i j:Str}:decide (V.str i=V.str j)=(i==j):=by rw[Bool.eq_iff_iff];simp
theorem zg{i j:Array UInt8}:decide (V.byt i=V.byt j)=(i.toList==j.toList):=by rw[Bool.eq_iff_iff];cases i;cases j;simp
section
variable {X:Cx}{a b c:Expr}{ta tb tc:TE}{pos:Pos}
theorem bO{pins:PN}{σ:St}{H:Hp}{s:Shared}{Q:VK}{k k':Bool}(I:Inv X pins σ H s)(q:Q (.bl k) H)(e:k=k'):EP X pins σ Q (.bool k') s:=by subst e;exact⟨.bl k,H,I,rfl,q⟩
theorem ahU:OpR X (compareOp .Eq) rEq:=by
 intro pins s σ H x y v u Q I rx ry h;obtain⟨hs,q⟩:=h;cases x with
 | non =>
  cases rx;cases y with
  | non=>cases ry;exact PySem.EqNone.eq_none_none (bO I q (by simp))
  | bl j=>cases ry;exact PySem.EqNone.eq_none_bool (bO I q (by simp))
  | int j=>obtain⟨t',rfl⟩:=ry;exact PySem.EqNone.eq_none_int (bO I q (by simp))
  | str j=>obtain⟨t',rfl⟩:=ry;exact PySem.EqNone.eq_none_str (bO I q (by simp))
  | _=>exact absurd (show false=true from hs) Bool.false_ne_true
 | bl i =>
  cases rx;cases y with
  | non=>cases ry;exact PySem.EqNone.eq_bool_none (bO I q (by simp))
  | bl j=>cases ry;exact eq_bool (bO I q abq)
  | str j=>obtain⟨t',rfl⟩:=ry;exact PySem.EqMixed.eq_bool_str (bO I q (by simp))
  | _=>exact absurd (show false=true from hs) Bool.false_ne_true
 | int i =>
  obtain⟨t,rfl⟩:=rx;cases y with
  | non=>cases ry;exact PySem.EqNone.eq_int_none (bO I q (by simp))
  | int j=>obtain⟨t',rfl⟩:=ry;exact eq_int (bO I q wm)
  | str j=>obtain⟨t',rfl⟩:=ry;exact PySem.EqMixed.eq_int_str (bO I q (by simp))
  | _=>exact absurd (show false=true from hs) Bool.false_ne_true
 | str i =>
  obtain⟨t,rfl⟩:=rx;cases y with
  | non=>cases ry;exact PySem.EqNone.eq_str_none (bO I q (by simp))
  | bl j=>cases ry;exact PySem.EqMixed.eq_str_bool (bO I q (by simp))
  | int j=>obtain⟨t',rfl⟩:=ry;exact PySem.EqMixed.eq_str_int (bO I q (by simp))
  | str j=>obtain⟨t',rfl⟩:=ry;exact eq_str (bO I q vP)
  | _=>exact absurd (show false=true from hs) Bool.false_ne_true
 | byt i =>
  obtain⟨t,rfl⟩:=rx;cases y with
  | byt j=>obtain⟨t',rfl⟩:=ry;exact W.eq_bytes (bO I q zg)
  | _=>exact absurd (show false=true from hs) Bool.false_ne_true
 | _=>cases y<;>exact absurd (show false=true from hs) Bool.false_ne_true
theorem ah6:OpR X (compareOp .NotEq) rNe:=by
 intro pins s σ H x y v u Q I rx ry h;obtain⟨hs,q⟩:=h;cases x with
 | non =>
  cases rx;cases y with
  | non=>cases ry;exact PySem.EqNone.ne_none_none (bO I q (by simp))
  | bl j=>cases ry;exact PySem.EqNone.ne_none_bool (bO I q (by simp))
  | int j=>obtain⟨t',rfl⟩:=ry;exact PySem.EqNone.ne_none_int (bO I q (by simp))
  | str j=>obtain⟨t',rfl⟩:=ry;exact PySem.EqNone.ne_none_str (bO I q (by simp))
  | _=>exact absurd (show false=true from hs) Bool.false_ne_true
 | bl i =>
  cases rx;cases y with
  | non=>cases ry;exact PySem.EqNone.ne_bool_none (bO I q (by simp))
  | bl j=>cases ry;exact ne_bool (bO I q (congrArg not abq))
  | str j=>obtain⟨t',rfl⟩:=ry;exact PySem.EqMixed.ne_bool_str (bO I q (by simp))
  | _=>exact absurd (show false=true from hs) Bool.false_ne_true
 | int i =>
  obtain⟨t,rfl⟩:=rx;cases y with
  | non=>cases ry;exact PySem.EqNone.ne_int_none (bO I q (by simp))
  | int j=>obtain⟨t',rfl⟩:=ry;exact ne_int (bO I q (congrArg not wm))
  | str j=>obtain⟨t',rfl⟩:=ry;exact PySem.EqMixed.ne_int_str (bO I q (by simp))
  | _=>exact absurd (show false=true from hs) Bool.false_ne_true
 | str i =>
  obtain⟨t,rfl⟩:=rx;cases y with
  | non=>cases ry;exact PySem.EqNone.ne_str_none (bO I q (by simp))
  | bl j=>cases ry;exact PySem.EqMixed.ne_str_bool (bO I q (by simp))
  | int j=>obtain⟨t',rfl⟩:=ry;exact PySem.EqMixed.ne_str_int (bO I q (by simp))
  | str j=>obtain⟨t',rfl⟩:=ry;exact ne_str (bO I q (congrArg not vP))
  | _=>exact absurd (show false=true from hs) Bool.false_ne_true
 | byt i =>
  obtain⟨t,rfl⟩:=rx;cases y with
  | byt j=>obtain⟨t',rfl⟩:=ry;exact W.ne_bytes (bO I q (congrArg not zg))
  | _=>exact absurd (show false=true from hs) Bool.false_ne_true
 | _=>cases y<;>exact absurd (show false=true from hs) Bool.false_ne_true
theorem afb:OpR X (compareOp .Lt) (rI0 λ i j=>.bl (decide (i<j))):=ahn λ _ _ _ _ _ _ _ q=>lt_int q
theorem aiu:OpR X (compareOp .LtE) (rI0 λ i j=>.bl (decide (i<=j))):=ahn λ _ _ _ _ _ _ _ q=>le_int q
theorem wR:OpR X (compareOp .Gt) (rI0 λ i j=>.bl (decide (j<i))):=ahn λ _ _ _ _ _ _ _ q=>gt_int q
theorem acx:OpR X (compareOp .GtE) (rI0 λ i j=>.bl (decide (j<=i))):=ahn λ _ _ _ _ _ _ _ q=>ge_int q
theorem agT:OpR X (compareOp .Is) (λ x y H Q=>y=.non/\Q (.bl (decide (x=.non))) H):=by
 intro pins s σ H x y v u Q I rx ry h;obtain⟨rfl,q⟩:=h;cases ry;refine is_none_gen (bO I q ?_);cases x<;>first
  | (cases rx;rfl)
  | (obtain⟨t,rfl⟩:=rx;rfl)
theorem lj:OpR X (compareOp .IsNot) (λ x y H Q=>y=.non/\Q (.bl (!decide (x=.non))) H):=by
 intro pins s σ H x y v u Q I rx ry h;obtain⟨rfl,q⟩:=h;cases ry;refine isnot_none_gen (bO I q ?_);cases x<;>first
  | (cases rx;rfl)
  | (obtain⟨t,rfl⟩:=rx;rfl)
theorem adL{op:CmpOp}{r:R2}(ho:OpR X (compareOp op) r)(ha:PE X a ta)(hb:PE X b tb)(hm:behindInMarks op b=false):PE X (.Compare a [op] [b] pos) (tOp r ta tb):=by intro pins s σ H Q I h;exact wpAny_Compare1 (ahQ ha hb I h λ v u s2 x y H2 I2 rx ry q=>ho pins s2 σ H2 x y v u Q I2 rx ry q) hm
def acP(t:TE):TT:=λ σ H Q=>t σ H λ x H'=>∃ k,x=.bl k/\Q k H'
theorem adD{op:CmpOp}{r:R2}(ho:OpR X (compareOp op) r)(ha:PE X a ta)(hb:PE X b tb)(hm:behindInMarks op b=false):PT X (.Compare a [op] [b] pos) (acP (tOp r ta tb)):=by
 intro pins s σ H Q I h;refine wpAny_isTrue_Compare1 (thn (ha pins s σ H _ I h) λ v s1 ⟨x,H1,I1,r1,q1⟩=>thn (hb pins s1 σ H1 _ I1 q1) λ u s2 ⟨y,H2,I2,r2,q2⟩ =>
  thn (ho pins s2 σ H2 x y v u _ I2 r1 r2 q2) λ c s3 ⟨z,H3,I3,r3,k,e,q3⟩=>?_) hm
 subst e;cases r3;exact wpAny_truthy_bool ⟨H3,I3,q3⟩
def xD(r r':R2)(ta tb tc:TE):TE:=λ σ H Q=>ta σ H λ x H1=>tb σ H1 λ y H2=>r x y H2 λ z H3=>∃ k,z=.bl k /\
 (if k=true then tc σ H3 λ w' H4=>r' y w' H4 Q else Q (.bl false) H3)
theorem zE{op op':CmpOp}{r r':R2}(ho:OpR X (compareOp op) r)(ho':OpR X (compareOp op') r')(ha:PE X a ta)(hb:PE X b tb)(hc:PE X c tc)
  (hm:lastMarks [op,op'] [b,c]=false:=by with_unfolding_all rfl):PE X (.Compare a [op,op'] [b,c] pos) (xD r r' ta tb tc):=by
 intro pins s σ H Q I h;refine Compare_chain (thn (ha pins s σ H _ I h) λ v s1 ⟨x,H1,I1,r1,q1⟩=>chain_link (thn (hb pins s1 σ H1 _ I1 q1) λ u s2 ⟨y,H2,I2,r2,q2⟩ =>
  thn (ho pins s2 σ H2 x y v u _ I2 r1 r2 q2) λ d s3 ⟨z,H3,I3,r3,k,e,q3⟩=>?_)) hm
 subst e;cases r3;refine wpAny_truthy_bool ?_;cases k with
 | false=>exact ite_ff ⟨.bl false,H3,I3,rfl,q3⟩
 | true=>exact ite_tt (chain_last (thn (hc pins s3 σ H3 _ I3 q3) λ w' s4 ⟨z',H4,I4,r4,q4⟩=>ho' pins s4 σ H4 y z' u w' Q I4 r2 r4 q4))
theorem zw{op op':CmpOp}{r r':R2}(ho:OpR X (compareOp op) r)(ho':OpR X (compareOp op') r')(ha:PE X a ta)(hb:PE X b tb)(hc:PE X c tc)
  (hm:lastMarks [op,op'] [b,c]=false:=by with_unfolding_all rfl):PT X (.Compare a [op,op'] [b,c] pos) (acP (xD r r' ta tb tc)):=by
 intro pins s σ H Q I h;refine isTrue_chain (thn (ha pins s σ H _ I h) λ v s1 ⟨x,H1,I1,r1,q1⟩=>test_link (thn (hb pins s1 σ H1 _ I1 q1) λ u s2 ⟨y,H2,I2,r2,q2⟩ =>
  thn (ho pins s2 σ H2 x y v u _ I2 r1 r2 q2) λ d s3 ⟨z,H3,I3,r3,k,e,q3⟩=>?_)) hm
 subst e;cases r3;refine wpAny_truthy_bool ?_;cases k with
 | false =>
  obtain⟨k',e',q'⟩:=q3;cases e';exact ite_ff ⟨H3,I3,q'⟩
 | true =>
  refine ite_tt (test_last (thn (hc pins s3 σ H3 _ I3 q3) λ w' s4 ⟨z',H4,I4,r4,q4⟩=>thn (ho' pins s4 σ H4 y z' u w' _ I4 r2 r4 q4) λ d' s5 hq22=>?_));obtain⟨z2,H5,I5,r5,k2,e2,q5⟩:=hq22;subst e2;cases r5;exact wpAny_truthy_bool ⟨H5,I5,q5⟩
theorem mT:(sizeLine:Nat)<2 ^ 63:=by rw[sizeLine_eq];decide
theorem vy:OpR X (binaryOp .Add) (λ x y H Q=>∃ i j,x=.str i/\y=.str j/\i.length+j.length<=sizeLine/\Q (.str (i++j)) H):=by intro pins s σ H x y v u Q I rx ry h;obtain⟨i,j,rfl,rfl,hz,q⟩:=h;obtain⟨t,rfl⟩:=rx;obtain⟨t',rfl⟩:=ry;exact add_str (λ t' tk=>⟨.str (i++j),H,I.tok _,⟨_,rfl⟩,q⟩) hz
theorem vals1{x:V}{us:List Value}(r:Vals [x] us):∃ u,us=[u]/\RelV x u:=by
 cases r with
 | cons r1 r2=>cases r2;exact⟨_,rfl,r1⟩
theorem vals2{x y:V}{us:List Value}(r:Vals [x,y] us):∃ u w',us=[u,w']/\RelV x u/\RelV y w':=by
 cases r with
 | cons r1 r2 =>
  cases r2 with
  | cons r3 r4=>cases r4;exact⟨_,_,rfl,r1,r3⟩
theorem zt:eI X (.builtin "abs") (λ xs H Q=>∃ i,xs=[.int i]/\Q (.int (if i<0 then -i else i)) H):=by intro pins s σ H xs us Q I r h;obtain⟨i,rfl,q⟩:=h;obtain⟨u,rfl,t,rfl⟩:=vals1 r;exact call_abs_int λ u tk=>⟨.int (if i<0 then -i else i),H,I.tok _,⟨_,rfl⟩,q⟩
theorem ze(hc:X.calm=true):eI X (.builtin "min") (λ xs H Q=>∃ i j,xs=[.int i,.int j]/\Q (.int (if j<i then j else i)) H):=by
 intro pins s σ H xs us Q I r h;obtain⟨i,j,rfl,q⟩:=h;obtain⟨u,w',rfl,⟨t,rfl⟩,⟨t',rfl⟩⟩:=vals2 r;refine min_two_ints (I.ok.hd hc) λ h' tk k=>⟨_,H,I.kept k,?_,q⟩
 by_cases hj:j<i
 ·rw[if_pos hj,if_pos hj];exact⟨_,rfl⟩
 ·rw[if_neg hj,if_neg hj];exact⟨_,rfl⟩
theorem qY:eI X (.type "int") (λ xs H Q=>(∃ i,xs=[.int i]/\Q (.int i) H)\/∃ k,xs=[.bl k]/\Q (.int (if k then 1 else 0)) H):=by
 intro pins s σ H xs us Q I r h;rcases h with ⟨i,rfl,q⟩ | ⟨k,rfl,q⟩
 ·obtain⟨u,rfl,t,rfl⟩:=vals1 r;exact call_int_int ⟨.int i,H,I,⟨_,rfl⟩,q⟩
 ·obtain⟨u,rfl,r1⟩:=vals1 r;cases r1;exact call_int_bool ⟨.int (if k then 1 else 0),H,I.tok _,⟨_,rfl⟩,q⟩
def aiT(K:FG)(x:V)(H:Hp)(n:Nat):Prop:=
 match x with
 | .str y=>y.length<=sizeLine/\n=y.length
 | .byt y=>y.size<=sizeLine/\n=y.size
 | .ref p=>(∃ xs,SqL K H p xs/\n=xs.length)\/∃ xs,SqT K H p xs/\n=xs.length
 | _=>False
theorem cA:eI X (.builtin "len") (λ xs H Q=>∃ x n,xs=[x]/\aiT X.K x H n/\Q (.int n) H):=by
 intro pins s σ H xs us Q I r h;obtain⟨x,n,rfl,e,q⟩:=h;obtain⟨u,rfl,rx⟩:=vals1 r;have hl:=mT;have hs:sizeLine=16777216:=sizeLine_eq;cases x with
 | str y =>
  obtain⟨t,rfl⟩:=rx;obtain⟨hy,e'⟩:y.length<=sizeLine/\n=y.length:=e;subst e';exact len_str (by omega) ⟨.int _,H,I.tok _,⟨_,rfl⟩,q⟩
 | byt y =>
  obtain⟨t,rfl⟩:=rx;obtain⟨hy,e'⟩:y.size<=sizeLine/\n=y.size:=e;subst e';exact W.len_bytes (by omega) ⟨.int _,H,I.tok _,⟨_,rfl⟩,q⟩
 | ref p =>
  cases rx;have e':(∃ xs,SqL X.K H p xs/\n=xs.length)\/∃ xs,SqT X.K H p xs/\n=xs.length:=e;rcases e' with ⟨xs,hx,e'⟩ | ⟨xs,hx,e'⟩
  ·subst e';obtain⟨its,r',pl,hz⟩:=I.list hx;have hlen:=r'.length;exact Calls.call_len_list pl.isList (by simp only[List.size_toArray];omega) ⟨.int xs.length,H,I.tok _,⟨_,by simp only[List.size_toArray];rw[hlen]⟩,q⟩
  ·subst e';obtain⟨its,r',pl,hz⟩:=I.tuple hx;have hlen:=r'.length;exact len_tuple pl (by simp only[List.size_toArray];omega) ⟨.int xs.length,H,I.tok _,⟨_,by simp only[List.size_toArray];rw[hlen]⟩,q⟩
 | _=>exact(show False from e).elim
end
theorem yX{h:Heap}{dx:Addr}{mA:Str->Option Value}(n:h.Ns1 dx mA):∃ od,h.get? dx=some od/\∀ name,W.lookIn name od=some (mA name):=by
 obtain⟨o,es,ep,ho,hd,hk,_,hm⟩:=n;refine⟨o,ho,λ name=>?_⟩;have e:=hm name;unfold nsFind findBy at e;rw[<- Array.find?_toList] at e;unfold W.lookIn;rw[hd];dsimp only
 split
 ·rename_i y q
  rw[q] at e;exact congrArg some e
 ·rename_i q
  rw[q] at e;have a:es.toList.any (·.refKey)=false:=by rw[List.any_eq_false];intro y hy;obtain⟨z,t,hkey⟩:=hk y (Array.mem_toList_iff.mp hy);simp[DictEntry.refKey,hkey]
  have a':¬ es.toList.any (·.refKey)=true:=by rw[a];exact Bool.false_ne_true
  rw[if_neg a'];exact congrArg some e
section
variable {prog:Program}{w:World}{A:Around}{E:VP}{s:Shared}{K:FG}{x dx C f:Addr}{mA:Str->Option Value}{name:Str}{v:Value}
end
def rn(f:Str)(v:V):List (Str×V)->List (Str×V)
 | []=>[(f,v)]
 | (g,x)::r=>if g=f then (g,v)::r else (g,x)::rn f v r
theorem lA(f g:Str)(v:V):∀ fs:List (Str×V),(rn f v fs).lookup g=if g=f then some v else fs.lookup g
 | []=>by
  show List.lookup g [(f,v)]=_
  by_cases h:g=f
  ·have hb:(g==f)=true:=beq_iff_eq.mpr h;simp only[List.lookup,hb,if_pos h]
  ·have hb:(g==f)=false:=beq_eq_false_iff_ne.mpr h;simp only[List.lookup,hb,if_neg h]
 | (k,x)::r=>by
  have ih:=lA f g v r;rw[show rn f v ((k,x)::r)=(if k=f then (k,v)::r else (k,x)::rn f v r) from rfl]
  by_cases hk:k=f
  ·rw[if_pos hk]
   by_cases h:g=k
   ·have hb:(g==k)=true:=beq_iff_eq.mpr h;simp only[List.lookup,hb,if_pos (h.trans hk)]
   ·have hb:(g==k)=false:=beq_eq_false_iff_ne.mpr h;simp only[List.lookup,hb,if_neg (λ e:g=f=>h (e.trans hk.symm))]
  ·rw[if_neg hk]
   by_cases h:g=k
   ·have hb:(g==k)=true:=beq_iff_eq.mpr h;simp only[List.lookup,hb,if_neg (λ e:g=f=>hk (h.symm.trans e))]
   ·have hb:(g==k)=false:=beq_eq_false_iff_ne.mpr h;simp only[List.lookup,hb];exact ih
theorem lM(f:Str)(v:V):∀ fs:List (Str×V),f∈(rn f v fs).map (·.1)/\∀ g,g∈fs.map (·.1)->g∈(rn f v fs).map (·.1)
 | []=>⟨by simp[rn],λ g h=>by simp at h⟩
 | (k,x)::r=>by
  obtain⟨i1,i2⟩:=lM f v r;rw[show rn f v ((k,x)::r)=(if k=f then (k,v)::r else (k,x)::rn f v r) from rfl]
  by_cases hk:k=f
  ·rw[if_pos hk];subst hk;exact⟨by simp,λ g h=>by simpa using h⟩
  ·rw[if_neg hk];refine⟨?_,λ g h=>?_⟩
   ·rw[List.map_cons];exact List.mem_cons_of_mem _ i1
   ·rw[List.map_cons] at h ⊢;rcases List.mem_cons.mp h with e | e
    ·exact List.mem_cons.mpr (.inl e)
    ·exact List.mem_cons_of_mem _ (i2 g e)
theorem uF.some_of{v:V}{o:Option Value}(r:uF (some v) o):∃ u,o=some u/\RelV v u:=by
 cases o with
 | none=>exact(show False from r).elim
 | some u=>exact⟨u,rfl,r⟩
theorem wt{v:V}{u:Value}(r:RelV v u):W.handedIn u=true:=by
 cases v with
 | non=>cases (show u=Value.none from r);rfl
 | bl b=>cases (show u=Value.bool b from r);rfl
 | int i=>obtain⟨t,e⟩:=(show ∃ t,u=Value.int i t from r);cases e;rfl
 | str x=>obtain⟨t,e⟩:=(show ∃ t,u=Value.str x t from r);cases e;rfl
 | byt b=>obtain⟨t,e⟩:=(show ∃ t,u=Value.bytes b t from r);cases e;rfl
 | flt b=>obtain⟨t,e⟩:=(show ∃ t,u=Value.float b t from r);cases e;rfl
 | ref a=>cases (show u=Value.ref a from r);rfl
 | ty n=>cases (show u=Value.type n from r);rfl
section
variable {P:Program}{w:World}{H H':Hp}{h h':Heap}{a C dx:Addr}{fs fs':List (Str×V)}
end
def fF(K:FG)(C:Addr)(f:Str):Prop:=W.findIn K (.ref C) f=some none
section
variable {X:Cx}{pins:PN}{σ:St}{H:Hp}{s:Shared}{a C dx:Addr}{fs:List (Str×V)}{f:Str}{v:V}{A:Around}{E:VP}
theorem aej{prog:Program}{w:World}{env:Env}{e:Expr}{f:Str}{pos:Pos}{s:Shared}{Q:VP}(hb:attributeBase e f env (eval e env)=eval e env)
  (h:wpAny (model prog w) A (eval e env) (λ o s₁=>wpAny (model prog w) A (getAttr o f true) Q E s₁) E s):wpAny (model prog w) A (eval (.Attribute e f pos) env) Q E s:=
 Attribute_any_ h (by rw[arm_eval_Attribute,hb])
end
section
variable {X:Cx}{o e value:Expr}{f:Str}{pos pos' tpos:Pos}{ta tv:TE}
end
section
variable {X:Cx}{pins:PN}{σ:St}{H:Hp}{s:Shared}{A:Around}{E:VP}{Q:VP}{c:Value}{b:Bool}
end
structure eM(k:Nat)(A:Around):Prop where
 hd:A.handled=none
 gd:A.guards=some []
 dp:A.depth+3 * k+5<recursionLimit
 un:A.units+16 * k+200<cLine
theorem eM.mono{j k:Nat}{A:Around}(r:eM k A)(h:j<=k):eM j A:=⟨r.hd,r.gd,by have:=r.dp;omega,by have:=r.un;omega⟩
theorem eM.deeper{k:Nat}{A:Around}(r:eM (k+1) A)(env:Env):eM k (A.deeper env):=
 ⟨r.hd,r.gd,by have:=r.dp;show A.depth+1+3 * k+5<_;omega,by have:=r.un;show A.units+3+16 * k+200<_;omega⟩
theorem eM.in1{k:Nat}{A:Around}(r:eM (k+1) A):eM k A.in1:=
 ⟨r.hd,r.gd,by have:=r.dp;show A.depth+3 * k+5<_;omega,by have:=r.un;show A.units+1+16 * k+200<_;omega⟩
theorem uL{A:Around}{C:Addr}{us:List Value}{kw:List (Str×Value)}:(A.under (.builtin "type.__call__" ⟨.ref C::us,kw⟩)).depth=A.depth+1:=by
 first | rfl | simp[Around.under,Code.weight,Code.isCreation,Code.isGuard,Code.isCaller,Code.frames,Code.isFrame,guardIds]
theorem uR{A:Around}{C:Addr}{us:List Value}{kw:List (Str×Value)}:(A.under (.builtin "type.__call__" ⟨.ref C::us,kw⟩)).units=A.units+1:=by
 first | rfl | simp[Around.under,Code.cUnits,Code.frames,Code.isFrame]
theorem eM.make{k:Nat}{A:Around}(r:eM (k+1) A)(C:Addr)(us:List Value)(kw:List (Str×Value)):eM k (A.under (.builtin "type.__call__" ⟨.ref C::us,kw⟩)):=
 ⟨r.hd,(by first | exact r.gd | (simpa [Around.under,Code.isGuard,Code.frames,Code.isFrame,guardIds] using r.gd)),by have:=r.dp;rw[uL];omega,by have:=r.un;rw[uR];omega⟩
theorem eM.depth{k:Nat}{A:Around}(r:eM k A):A.depth<recursionLimit:=by have:=r.dp;omega
theorem eM.units{k:Nat}{A:Around}(r:eM k A):A.units+64<cLine:=by have:=r.un;omega
def abH:TA:=λ _ H Q=>Q [] H
def qC(ta:TE)(tr:TA):TA:=λ σ H Q=>ta σ H λ x H1=>tr σ H1 λ xs H2=>Q (x::xs) H2
section
variable {X:Cx}{e:Expr}{es:List Expr}{te:TE}{t:TA}{pos:Pos}
theorem mX:PA X [] abH:=λ _ _ _ _ H Q I h=>Calls.spliced_nil ⟨[],H,I,.nil,h⟩
theorem iG(ha:PE X e te)(hr:PA X es t)(hs:starEach (e::es) X.env=(false,eval e X.env)::starEach es X.env:=by rfl):PA X (e::es) (qC te t):=by intro pos pins s σ H Q I h;rw[hs];show wpAny _ _ (spliced ((false,eval e X.env)::backTo pos (starEach es X.env))) _ _ s;refine Calls.spliced_cons (thn (ha pins s σ H _ I h) λ u s1 hq23=>?_);obtain⟨x,H1,I1,r1,q1⟩:=hq23;exact thn (hr pos pins s1 σ H1 _ I1 q1) λ us s2 ⟨xs,H2,I2,r2,q2⟩=>⟨x::xs,H2,I2,.cons r1 r2,q2⟩
def aiF(t:TA):TE:=λ σ H Q=>t σ H λ xs H1=>xs.length<=sizeLine/\∀ p,H1 p=none->Q (.ref p) (upd H1 p (.tup xs))
def aja(t:TA):TE:=λ σ H Q=>t σ H λ xs H1=>xs.length<=sizeLine/\∀ p,H1 p=none->Q (.ref p) (upd H1 p (.lst xs))
theorem abb{x1}(h:PA X es t):PE X (.Tuple es x1 pos) (aiF t):=by intro pins s σ H Q I hq;refine wpAny_Tuple_spliced (thn (h pos pins s σ H _ I hq) λ us s1 ⟨xs,H1,I1,r,z,q⟩=>⟨by rw[<- r.length];exact z,?_⟩);have hf:H1 s1.heap.objs.size=none:=I1.hok.fresh (Nat.le_refl _);refine⟨.ref s1.heap.objs.size,upd H1 s1.heap.objs.size (.tup xs),I1.laid (t':=s1.toks) (λ b u e=>Heap.get?_push_of_some _ e) (Nat.le_refl _) ?_,rfl,q _ hf⟩;exact⟨z,us,r,yq.new _ _⟩
theorem ab3(h:PA X es t):PE X (.List es pos) (aja t):=by intro pins s σ H Q I hq;refine wpAny_List_spliced (thn (h pos pins s σ H _ I hq) λ us s1 ⟨xs,H1,I1,r,z,q⟩=>⟨by rw[<- r.length];exact z,?_⟩);have hf:H1 s1.heap.objs.size=none:=I1.hok.fresh (Nat.le_refl _);refine⟨.ref s1.heap.objs.size,upd H1 s1.heap.objs.size (.lst xs),I1.laid (t':=s1.toks) (λ b u e=>Heap.get?_push_of_some _ e) (Nat.le_refl _) ?_,rfl,q _ hf⟩;exact⟨z,us,0,r,Heap.get?_push_size _ rfl⟩
end
abbrev Sp:=List V->Hp->VK->XK->Prop
abbrev CXT:=List Env->Hp->Shared->XK->VP
structure acA(P:Program)(w:World)(K:FG)(mg:Str->Option Value)(base:Heap)(A:Around)(outer:List Env)(s:Shared)(H:Hp):Prop where
 frames:A.frames=some outer
 mod:Mod K mg base
 bs:∀ b o,base.get? b=some o->s.heap.get? b=some o/\H b=none
 bsz:base.objs.size<=s.heap.objs.size
 nS:s.heap.FunFrames base outer
 frf:∀ b∈frs outer,H b=none
 hok:HOk P w H s.heap
 bare:AllBare s.gens
def CE(outer:List Env)(P:Program)(w:World)(H:Hp)(s:Shared)(Q:VK)(u:Value)(s':Shared):Prop:=
 ∃ v H',s'.os=s.os/\AllBare s'.gens/\Un (frs outer) [] H H' s.heap s'.heap/\HOk P w H' s'.heap/\RelV v u/\Q v H'
def CR(CX:CXT)(outer:List Env)(P:Program)(w:World)(H:Hp)(s:Shared)(Q:VK)(E:XK)(r:Result)(s':Shared):Prop:=
 match r with
 | .ok (.ret u)=>CE outer P w H s Q u s'
 | .ok _=>False
 | .error e=>CX outer H s E e s'
structure cj(P:Program)(w:World)(K:FG)(mg:Str->Option Value)(base:Heap)(CX:CXT)(k:Nat)(f:Addr)(fd:FuncData)(ps:List Str)(sp:Sp):Prop where
 len:∀ vs H Q E,sp vs H Q E->vs.length=ps.length
 run:∀ (A:Around) (outer:List Env) (s:Shared) (H:Hp) (args:Args) (us:List Value) (vs:List V) (Q:VK) (E:XK),eM k A->acA P w K mg base A outer s H->BindsTo s fd args (ps.zip us)->Vals vs us->sp vs H Q E ->
  codeAny (model P w) A (.call (.ref f) args) (CR CX outer P w H s Q E) s
theorem acA.make{P:Program}{w:World}{K:FG}{mg:Str->Option Value}{base:Heap}{A:Around}{outer:List Env}{s:Shared}{H:Hp}(e:acA P w K mg base A outer s H)(C:Addr)(us:List Value)(kw:List (Str×Value)) :
  acA P w K mg base (A.under (.builtin "type.__call__" ⟨.ref C::us,kw⟩)) outer s H:=⟨by first | exact e.frames | (simpa [Around.under,Code.envs,Code.isFrame,pushEnvs] using e.frames),e.mod,e.bs,e.bsz,e.nS,e.frf,e.hok,e.bare⟩
section
variable {X:Cx}{pins:PN}{σ:St}{H:Hp}{s s':Shared}
theorem Inv.ahm(I:Inv X pins σ H s):acA X.prog X.w X.K X.mg X.base X.A X.stack s H:=
 ⟨I.ok.frames,I.ok.mod,I.bs,Nat.le_trans I.ok.bsz I.sz,I.stack,I.nI,I.hok,I.bare⟩
theorem Inv.after{Q:VK}{u:Value}(I:Inv X pins σ H s)(h:CE X.stack X.prog X.w H s Q u s'):EP X pins σ Q u s':=by obtain⟨v,H',os,bare,un,hok,r,q⟩:=h;obtain⟨hh,g,d,t,os'⟩:=s';obtain rfl:os'=s.os:=os;exact⟨v,H',I.call (h':=hh) (g':=g) (d':=d) (t':=t) (ch:=[]) un hok bare (λ b z=>absurd z (by simp)),r,q⟩
end
def ahR(sp:Sp)(dvs:List V)(E:XK)(t:TA):TE:=λ σ H Q=>t σ H λ vs H1=>sp (vs++dvs) H1 Q E
def Binds(K:FG)(fd:FuncData)(ps:List Str)(ds:List Value):Prop:=
 ∀ (s:Shared) (us:List Value),K.In s.heap->(us++ds).length=ps.length->BindsTo s fd ⟨us,[]⟩ (ps.zip (us++ds))
theorem Binds.all{K:FG}{fd:FuncData}{ps:List Str}(h:∀ us:List Value,us.length=ps.length->bindArgs fd ⟨us,[]⟩=pure (ps.zip us)):Binds K fd ps []:=λ s us _ hl=>by rw[List.append_nil] at hl ⊢;exact .of_eq (h us hl)
def Passes(CX:CXT)(X:Cx)(E:XK):Prop:=∀ (pins:PN) (σ:St) (H:Hp) (s:Shared) (e:Value) (s':Shared),Inv X pins σ H s->CX X.stack H s E e s'->X.xe e s'
section
variable {X:Cx}{CX:CXT}{k:Nat}{f C:Addr}{fd:FuncData}{ps:List Str}{sp:Sp}{dvs:List V}{ds:List Value}{E:XK}{x m:Str}{p pos apos:Pos}{e o:Expr}{es:List Expr}{ta:TE}{t:TA}
theorem afk{pins:PN}{σ:St}{H:Hp}{s:Shared}{Q:VK}{us:List Value}{vs:List V}(F:cj X.prog X.w X.K X.mg X.base CX k f fd ps sp)(hr:eM k X.A)(hb:Binds X.K fd ps ds)(hd:Vals dvs ds)(hx:Passes CX X E)
  (I:Inv X pins σ H s)(r:Vals vs us)(h:sp (vs++dvs) H Q E):wpAny (model X.prog X.w) X.A (call (.ref f) us) (EP X pins σ Q) X.xe s:=by
 have r2:Vals (vs++dvs) (us++ds):=r.append hd;have hl:(us++ds).length=ps.length:=by rw[<- r2.length];exact F.len _ _ _ _ h
 refine wpAny_call (codeAny_mono (F.run X.A X.stack s H ⟨us,[]⟩ (us++ds) (vs++dvs) Q E hr I.ahm (hb s us I.kIn hl) r2 h) λ r s' hq=>?_);cases r with
 | error e=>exact hx pins σ H s e s' I hq
 | ok fl =>
  cases fl with
  | ret u=>exact I.after hq
  | next=>exact False.elim hq
  | brk=>exact False.elim hq
  | cont=>exact False.elim hq
theorem acs(F:cj X.prog X.w X.K X.mg X.base CX k f fd ps sp)(hr:eM k X.A)(hg:Gl X x)(hm:X.mg x=some (.ref f))(hk:W.keepIn X.K (.ref f)=true)(hb:Binds X.K fd ps ds)(hd:Vals dvs ds)(hx:Passes CX X E)
  (ha:PA X (e::es) t)(hdb:ND x:=by decide)(he:starEach (e::es) X.env=(false,eval e X.env)::starEach es X.env:=by rfl)(hpl:(backTo pos (starEach es X.env)).any (·.1)=false:=by rfl) :
  PE X (.Call (.Name x p) (e::es) [] pos) (ahR sp dvs E t):=by
 intro pins s σ H Q I h;refine wpAny_Call_Name_kw (jy I hg hm ?_ hdb);refine W.callWith_K (h₀:=X.base) I.ok.mod.kin hk (thn (ha pos pins s σ H _ I h) λ us s1 ⟨vs,H1,I1,r,q⟩=>⟨I1.kIn,?_⟩) he hpl;exact afk F hr hb hd hx I1 r q
end
def PK(X:Cx)(kws:List Keyword)(t:TA):Prop:=
 ∀ (pos:Pos) (pins:PN) (s:Shared) (σ:St) (H:Hp) (Q:List V->Hp->Prop),Inv X pins σ H s->t σ H Q->wpAny (model X.prog X.w) X.A (evalAll ((backToKw pos (keywordEach kws X.env)).map (·.2))) (AP X pins σ Q) X.xe s
section
variable {X:Cx}{CX:CXT}{k:Nat}{f C:Addr}{fd:FuncData}{ps ks:List Str}{sp:Sp}{E:XK}{x m:Str}{p pos apos kpos:Pos}{e o:Expr}{es:List Expr}{kws:List Keyword}{te ta:TE}{t tk:TA}{nm:Option Str}
theorem wC:PK X [] abH:=λ _ _ _ _ H Q I h=>wpAny_evalAll_nil ⟨[],H,I,.nil,h⟩
theorem rX(ha:PE X e te)(hr:PK X kws t):PK X (⟨nm,e,kpos⟩::kws) (qC te t):=by intro pos pins s σ H Q I h;show wpAny _ _ (evalAll ((do let v <- eval e X.env;standAt pos;pure v)::(backToKw pos (keywordEach kws X.env)).map (·.2))) _ _ s;refine wpAny_evalAll_cons (wpAny_bind (thn (ha pins s σ H _ I h) λ u s1 ⟨x,H1,I1,r1,q1⟩=>wpAny_bind (wpAny_standAt (wpAny_pure ?_))));exact thn (hr pos pins s1 σ H1 _ I1 q1) λ us s2 ⟨xs,H2,I2,r2,q2⟩=>⟨x::xs,H2,I2,.cons r1 r2,q2⟩
variable {g:List Value->List Value->List Value}{gV:List V->List V->List V}
end
structure aU(N P:List Str)(sc:Scope):Prop where
 kind:sc.kind=.function
 co:sc.isCoroutine=false
 gen:sc.isGenerator=false
 nd:N.Nodup
 pre:N.take P.length=P
 par:∀ x∈P,sc.names.lookup x=some .local\/sc.names.lookup x=some .cell
 nofree:∀ y∈sc.names,y.2 ≠ .free
theorem oW{kindOf:Str->Option NameKind}{x:Str}:∀ {binds:List (Str×Value)} {m:Str->Option Value},(∀ v,(x,v) ∉ binds)->bindL kindOf binds m x=m x
 | [],_,_=>rfl
 | (n,v)::r,m,h=>by
  unfold bindL;rw[oW λ w hw=>h w (List.mem_cons_of_mem _ hw)]
  split
  ·have:x≠n:=by rintro rfl;exact h v List.mem_cons_self
   simp[this]
  ·rfl
theorem qZ{kindOf:Str->Option NameKind}{x:Str}:∀ {binds:List (Str×Value)} {m:Str->Option Value},(∀ v,(x,v) ∉ binds)->bindC kindOf binds m x=m x
 | [],_,_=>rfl
 | (n,v)::r,m,h=>by
  unfold bindC;rw[qZ λ w hw=>h w (List.mem_cons_of_mem _ hw)]
  split
  ·rfl
  ·have:x≠n:=by rintro rfl;exact h v List.mem_cons_self
   simp[this]
theorem pJ{kindOf:Str->Option NameKind}{x:Str}{v:Value}:∀ {P:List Str} {vs:List Value} {i:Nat} {m:Str->Option Value},P.Nodup->P[i]? =some x->vs[i]? =some v->kindOf x=some .local ->
  bindL kindOf (P.zip vs) m x=some v
 | [],_,_,_,_,h,_,_=>by simp at h
 | _::_,[],_,_,_,_,h,_=>by simp at h
 | p::P,w::vs,0,m,nd,h1,h2,hk=>by simp at h1 h2;subst h1;subst h2;show bindL kindOf ((p,w)::P.zip vs) m p=_;unfold bindL;rw[oW λ v hv=>(List.nodup_cons.mp nd).1 (List.of_mem_zip hv).1,if_pos hk];simp
 | p::P,w::vs,i+1,m,nd,h1,h2,hk=>by show bindL kindOf ((p,w)::P.zip vs) m x=_;unfold bindL;exact pJ (i:=i) (List.nodup_cons.mp nd).2 (by simpa using h1) (by simpa using h2) hk
theorem o8{kindOf:Str->Option NameKind}{x:Str}{v:Value}:∀ {P:List Str} {vs:List Value} {i:Nat} {m:Str->Option Value},P.Nodup->P[i]? =some x->vs[i]? =some v->kindOf x≠some .local ->
  bindC kindOf (P.zip vs) m x=some v
 | [],_,_,_,_,h,_,_=>by simp at h
 | _::_,[],_,_,_,_,h,_=>by simp at h
 | p::P,w::vs,0,m,nd,h1,h2,hk=>by simp at h1 h2;subst h1;subst h2;show bindC kindOf ((p,w)::P.zip vs) m p=_;unfold bindC;rw[qZ λ v hv=>(List.nodup_cons.mp nd).1 (List.of_mem_zip hv).1,if_neg hk];simp
 | p::P,w::vs,i+1,m,nd,h1,h2,hk=>by show bindC kindOf ((p,w)::P.zip vs) m x=_;unfold bindC;exact o8 (i:=i) (List.nodup_cons.mp nd).2 (by simpa using h1) (by simpa using h2) hk
def start(N:List Str)(vs:List V):St:=vs.map some++List.replicate (N.length-vs.length) none
def sy(CX:CXT)(P:Program)(w:World)(K:FG)(mg:Str->Option Value)(base:Heap)(N:List Str)(qual:Str)(scope:Scope)(f:Addr)(cd:Value)(A:Around)(outer:List Env)(s:Shared)(H:Hp)(E:XK):Cx where
 prog:=P
 w:=w
 K:=K
 mg:=mg
 base:=base
 A:=A.deeper (envOfC qual scope s.heap.objs.size f cd)
 N:=N
 s₀:=s
 H₀:=H
 env:=envOfC qual scope s.heap.objs.size f cd
 outer:=outer
 stack:=envOfC qual scope s.heap.objs.size f cd::outer
 ex:=[]
 calm:=true
 fn:=λ _=>true
 pn:=[]
 xe:=λ e s'=>wpAny (model P w) (A.deeper (envOfC qual scope s.heap.objs.size f cd)) (leaving (envOfC qual scope s.heap.objs.size f cd) e) (λ _ s''=>CX outer H s E e s'') (λ e' s''=>CX outer H s E e' s'') s'
theorem tI{sc:Scope}{n:Nat}{x:Str}(h:sc.names.lookup x=some .cell):∃ c,(cellsFrom n sc.names []).lookup x=some c:=by have q:=W.cellsFrom_some sc.names n [] (.inl h);exact Option.isSome_iff_exists.mp q
theorem wJ{CX:CXT}{P:Program}{w:World}{K:FG}{mg:Str->Option Value}{base:Heap}{N ps:List Str}{qual:Str}{scope:Scope}{f:Addr}{cd:Value}{A:Around}{outer:List Env}{s s1:Shared}{H:Hp}{E:XK}{us:List Value}{vs:List V}
  (S:aU N ps scope)(hd:A.handled=none)(e0:acA P w K mg base A outer s H)(hl:vs.length=ps.length)(r:Vals vs us)
  (x:InCallC s s.heap.objs.size (bindL (envOfC qual scope s.heap.objs.size f cd).kindOf (ps.zip us) λ _=>none) (cellsFrom (s.heap.objs.size+1) scope.names []) (bindC (envOfC qual scope s.heap.objs.size f cd).kindOf (ps.zip us) λ _=>none) s1) :
  Inv (sy CX P w K mg base N qual scope f cd A outer s H E) [] (start N vs) H s1:=by
 have hpl:ps.length<=N.length:=by have:=congrArg List.length S.pre;rw[List.length_take] at this;omega
 obtain⟨h1,tk,rfl,hk⟩:=x.done;have noA:∀ b:Addr,b ∉ (sy CX P w K mg base N qual scope f cd A outer s H E).ex:=λ b z=>absurd (show b∈([]:List Addr) from z) (by simp);refine⟨⟨e0.mod,S.kind,rfl,rfl,Nat.le_refl _,λ y z c h1 h2=>?_,λ y hy=>?_,λ y c _ h=>?_,λ _=>hd,Around.frames_deeper e0.frames,.inr ⟨rfl,rfl⟩,λ b z=>absurd z (noA b),e0.bs,e0.bsz,λ b _ _=>noA b,λ b z=>absurd z (noA b),e0.nS,e0.frf⟩,
  rfl,e0.bare,Un.kept hk,⟨_,x.toInCall.ns,λ i y v h1 h2 h3=>?_⟩,λ y c h=>⟨_,x.cell y c h⟩,e0.hok.fresh (Nat.le_refl _),λ y c h=>?_,λ p hp=>absurd (show p∈([]:PN) from hp) (by simp),e0.hok.kept hk,?_⟩
 ·exact name_of_addr x.apart (PySem.mem_of_lookup h1) (PySem.mem_of_lookup h2)
 ·have hy:scope.names.lookup y=some .cell\/scope.names.lookup y=some .free:=hy;rcases hy with hy | hy
  ·exact tI hy
  ·exact absurd rfl (S.nofree _ (PySem.mem_of_lookup hy))
 ·exact Nat.le_of_lt (x.above y c (PySem.mem_of_lookup h))
 ·have hi:i<vs.length:=by
   unfold start at h2
   by_cases hi:i<vs.length
   ·exact hi
   ·rw[List.getElem?_append_right (by simpa using hi)] at h2;rw[List.getElem?_replicate] at h2
    split at h2<;>cases h2
  have ha:vs[i]? =some v:=by
   unfold start at h2;rw[List.getElem?_append_left (by simpa using hi),List.getElem?_map] at h2;cases e:vs[i]? with
   | none=>rw[e] at h2;cases h2
   | some a=>rw[e] at h2;cases h2;rfl
  obtain⟨u,hu,rv⟩:=r.get ha;have hp:ps[i]? =some y:=by rw[<- S.pre,List.getElem?_take_of_lt (by omega)];exact h1
  have ndP:ps.Nodup:=by rw[<- S.pre];exact S.nd.sublist (List.take_sublist _ _)
  refine⟨u,rv,?_⟩;rcases S.par y (List.mem_of_getElem? hp) with k | k
  ·exact .inl ⟨k,pJ ndP hp hu k⟩
  ·obtain⟨c,e⟩:=tI (n:=s.heap.objs.size+1) k;refine .inr ⟨.inl k,c,e,?_⟩;have q:=x.cell y c e;rw[o8 ndP hp hu (by show scope.names.lookup y≠_;rw[k];decide)] at q;exact q
 ·exact e0.hok.fresh (Nat.le_of_lt (x.above y c (PySem.mem_of_lookup h)))
 ·unfold start;show _=N.length;rw[List.length_append,List.length_map,List.length_replicate];omega
theorem aay{CX:CXT}{P:Program}{w:World}{K:FG}{mg:Str->Option Value}{base:Heap}{k:Nat}{f:Addr}{name qual:Str}{params:Arguments}{body:List Stmt}{scope:Scope}{dV kV doc pm cdv ct oc:Value}{an od:Option Addr}
  {osl:Array (Option Value)}{N ps:List Str}{sp:Sp}(lk:K.lookup f=some ⟨oc,od,.func (W.fnOf name qual params body scope dV kV doc pm an cdv ct),osl⟩)(hcd:W.codeIn K cdv qual=true)(S:aU N ps scope)
  (len:∀ vs H Q E,sp vs H Q E->vs.length=ps.length)
  (hbody:∀ (A:Around) (outer:List Env) (s:Shared) (H:Hp) (vs:List V) (Q:VK) (E:XK),eM k (A.deeper (envOfC qual scope s.heap.objs.size f cdv))->sp vs H Q E ->
   ∃ t,PSs (sy CX P w K mg base N qual scope f cdv A outer s H E) body t/\t {nx:=λ _ H'=>Q .non H',rt:=Q} (start N vs) H) :
  cj P w K mg base CX (k+1) f (W.fnOf name qual params body scope dV kV doc pm an cdv ct) ps sp:=by
 refine⟨len,λ A outer s H args us vs Q E hr e0 hb r hsp=>?_⟩;have hl:=len _ _ _ _ hsp;have KX:K.In s.heap:=e0.mod.kin.keeps λ b o e=>(e0.bs b o e).1;have lim:s.heap.NoLimit:=e0.mod.nolimit.keeps λ b o e=>(e0.bs b o e).1;have hkind:∀ y∈ps.zip us,scope.names.lookup y.1=some .local\/(scope.names.lookup y.1=some .cell/\((cellsFrom (s.heap.objs.size+1) scope.names []).lookup y.1).isSome=true):=λ⟨n,v⟩ hy=>by
  rcases S.par n (List.of_mem_zip hy).1 with q | q
  ·exact .inl q
  ·exact .inr ⟨q,W.cellsFrom_some _ _ _ (.inl q)⟩
 refine codeAny_call_function hr.depth (KX _ _ lk) rfl S.co S.gen rfl (W.codeRec_of KX hcd) (hb _ _ _ _ ?_);refine wpAny_newFunctionEnv_cells S.kind hkind λ env he s1 x=>?_;subst he;refine⟨lim.keeps x.toInCall.keep,codeAny_func ?_⟩;obtain⟨t,ht,hq⟩:=hbody A outer s H vs Q E (hr.deeper _) hsp;have I:Inv (sy CX P w K mg base N qual scope f cdv A outer s H E) [] (start N vs) H s1:=wJ S hr.hd e0 hl r x;refine wpAny_mono (ht [] s1 (start N vs) H _ I hq) (λ fl s' hs=>?_) λ e s' hs=>hs;have fin:∀ {σ':St} {H':Hp} {v:V} {u:Value},Inv (sy CX P w K mg base N qual scope f cdv A outer s H E) [] σ' H' s'->RelV v u->Q v H'->CE outer P w H s Q u s':=
  λ {σ' H' v u} J rv q=>⟨v,H',J.os,J.bare,J.base,J.hok,rv,q⟩
 cases fl with
 | ret u =>
  obtain⟨v,σ',H',J,rv,q⟩:=hs;exact fin J rv q
 | next =>
  obtain⟨σ',H',J,q⟩:=hs;exact fin (v:=V.non) (u:=Value.none) J rfl q
 | brk =>
  obtain⟨_,_,_,q⟩:=hs;exact False.elim q
 | cont =>
  obtain⟨_,_,_,q⟩:=hs;exact False.elim q
section
variable {X:Cx}{x:Str}{p pos:Pos}{e:Expr}{es:List Expr}{t:TA}{id T:String}{r:List V->Hp->VK->Prop}
def tCB(r:List V->Hp->VK->Prop)(t:TA):TE:=λ σ H Q=>t σ H λ vs H1=>r vs H1 Q
theorem tu(hc:eI X (.builtin id) r)(hg:Gl X x)(hm:X.mg x=none)(hv:bootBuiltins x=some (.builtin id))(ha:PA X (e::es) t)(hn:x ≠ "__name__":= by decide)(hdb:ND x:=by decide)
  (he:starEach (e::es) X.env=(false,eval e X.env)::starEach es X.env:=by rfl)(hpl:(backTo pos (starEach es X.env)).any (·.1)=false:=by rfl):PE X (.Call (.Name x p) (e::es) [] pos) (tCB r t):=by
 intro pins s σ H Q I h;refine wpAny_Call_Name_kw (g6 I hg hm hv ?_ hn hdb);exact PyProof.Rows.callWith_builtin1 (thn (ha pos pins s σ H _ I h) λ us s1 ⟨vs,H1,I1,r1,q1⟩=>hc pins s1 σ H1 vs us Q I1 r1 q1) he hpl
theorem yc(hc:eI X (.type T) r)(hg:Gl X x)(hm:X.mg x=none)(hv:bootBuiltins x=some (.type T))(ha:PA X (e::es) t)(hn:x ≠ "__name__":= by decide)(hdb:ND x:=by decide)
  (he:starEach (e::es) X.env=(false,eval e X.env)::starEach es X.env:=by rfl)(hpl:(backTo pos (starEach es X.env)).any (·.1)=false:=by rfl):PE X (.Call (.Name x p) (e::es) [] pos) (tCB r t):=by
 intro pins s σ H Q I h;refine wpAny_Call_Name_kw (g6 I hg hm hv ?_ hn hdb);exact PyProof.Rows.callWith_type1 (thn (ha pos pins s σ H _ I h) λ us s1 ⟨vs,H1,I1,r1,q1⟩=>hc pins s1 σ H1 vs us Q I1 r1 q1) he hpl
end
end L2
namespace HT
open PySem PyProof.Rows
section
open PySem.SeqAt
open PySem.AutoSeq1 (wpAny_loadPart')
open PySem.MeetsSeq PySem.MeetsSeq2 PySem.MeetsSeq3
end
section
variable {prog:Program}{w:World}{A:Around}{E:VP}{s:Shared}
theorem aeb{t b:Addr}{vs ws:List Value}{Q:VP}(ht:IsTup s.heap t vs.toArray)(hb:IsTup s.heap b ws.toArray)(hv:vs≠[])
  (h1:ws=[]->Q (.ref t) s)(h2:ws≠[]->Q (.ref s.heap.objs.size) {s with heap:=s.heap.push {cls:=.type "tuple",data:=.seq (vs++ws).toArray}})
  (hsz:vs.length+ws.length<=sizeLine):wpAny (model prog w) A (binaryOp .Add (.ref t) (.ref b)) Q E s:=by
 obtain⟨⟨cls,dd,data,sl⟩,ho,hc,n,hd⟩:=id ht;obtain⟨⟨cls2,dd2,data2,sl2⟩,ho2,hc2,n2,hd2⟩:=id hb;simp only at hc hd hc2 hd2;subst hc hd hc2 hd2;have e:vs.toArray++ws.toArray=(vs++ws).toArray:=by simp
 by_cases hw:ws=[]
 ·exact concat_meets ⟨_,ho,rfl⟩ ⟨_,ho2,rfl⟩ noFill_tuple_add seq_tuple_add PySem.F.slot_tuple_add PySem.F.entry_tuple_add (PySem.F.args_tuple_add_2 _ _)
   (tuple_addW1 t b vs.toArray ws.toArray n n2 dd dd2 sl sl2 (by simpa using hv) (by simp[hw])) ⟨ho,ho2,h1 hw⟩
 ·refine concat_meets ⟨_,ho,rfl⟩ ⟨_,ho2,rfl⟩ noFill_tuple_add seq_tuple_add PySem.F.slot_tuple_add PySem.F.entry_tuple_add (PySem.F.args_tuple_add_2 _ _)
   (tuple_addW2 t b vs.toArray ws.toArray n n2 dd dd2 sl sl2 (by simpa using hv) (by simpa using hw) (by rw[List.size_toArray,List.size_toArray];exact hsz)) ⟨ho,ho2,?_⟩
  rw[e];exact h2 hw
def sIx(n d:Nat):Option Int->Nat
 | none=>d
 | some v=>if v<0 then (v+(n:Int)).toNat else min v.toNat n
theorem afm(n d:Nat)(hd:d<=n)(o:Option Int):sIx n d o<=n:=by
 cases o with
 | none=>exact hd
 | some v =>
  show(if v<0 then (v+(n:Int)).toNat else min v.toNat n)<=n
  by_cases hv:v<0
  ·rw[if_pos hv];omega
  ·rw[if_neg hv];exact Nat.min_le_right _ _
theorem xv(v:Int)(n d:Nat):(if v<0 then max (v+(n:Int)) 0 else min v (n:Int))=((sIx n d (some v):Nat):Int):=by
 show(if v<0 then max (v+(n:Int)) 0 else min v (n:Int))=(((if v<0 then (v+(n:Int)).toNat else min v.toNat n):Nat):Int)
 by_cases hv:v<0
 ·simp only[if_pos hv];omega
 ·simp only[if_neg hv];omega
theorem vq(lo hi:Option Int)(n:Nat):Builtin.Slice.sliceAdjust lo hi 1 (n:Int)=(((sIx n 0 lo:Nat):Int),((sIx n n hi:Nat):Int)):=by
 have h1:¬ ((1:Int)<0):=by omega
 unfold Builtin.Slice.sliceAdjust;simp only[h1,if_false];refine Prod.ext ?_ ?_
 ·cases lo with
  | none=>rfl
  | some v=>exact xv v n 0
 ·cases hi with
  | none=>rfl
  | some v=>exact xv v n n
theorem vf(i j:Nat):Builtin.Slice.slicePlaces (i:Int) (j:Int) 1=j-i:=by
 unfold Builtin.Slice.slicePlaces;have h1:(1:Int) > 0:=by omega
 simp only[h1,if_true,Int.ediv_one]
 split<;>omega
theorem mM{v:Value}{o:Option Int}{Q:Option Int->Shared->Prop}(p:IsPart v o)(h:Q o s):wpAny (model prog w) A (Builtin.Slice.slicePartIndex v) Q E s:=by
 cases p with
 | none=>exact slicePart_none h
 | int i t=>exact slicePart_int h
theorem j4{sl:Addr}{vl vu:Value}{lo hi:Option Int}{n:Nat}{Q:Int×Int×Nat->Shared->Prop}(hs:s.heap.IsSliceOf sl vl vu .none)(pl:IsPart vl lo)(pu:IsPart vu hi)
  (h:Q (((sIx n 0 lo:Nat):Int),1,sIx n n hi-sIx n 0 lo) s):wpAny (model prog w) A (Builtin.Slice.sliceApplied (.ref sl) (pure (n:Int))) Q E s:=by
 obtain⟨os,hos,hcs,hds⟩:=id hs;unfold Builtin.Slice.sliceApplied Builtin.Slice.sliceFields;refine wpAny_bind (wpAny_bind (wpAny_field hos hds (x:=vl) rfl (wpAny_bind (wpAny_field hos hds (x:=vu) rfl (wpAny_bind (wpAny_field hos hds (x:=.none) rfl (wpAny_pure ?_)))))));refine wpAny_bind (slicePart_none ?_);show wpAny _ _ (if ((1:Int)==0)=true then _ else _) _ _ s;rw[if_neg (by decide)];refine wpAny_bind (mM pl (wpAny_bind (mM pu (wpAny_bind (wpAny_pure ?_)))));show wpAny _ _ (match Builtin.Slice.sliceAdjust lo hi 1 (n:Int) with | (lo,hi)=>pure (lo,(1:Int),Builtin.Slice.slicePlaces lo hi 1)) _ _ s
 rw[vq lo hi n];show wpAny _ _ (pure (((sIx n 0 lo:Nat):Int),(1:Int),Builtin.Slice.slicePlaces ((sIx n 0 lo:Nat):Int) ((sIx n n hi:Nat):Int) 1)) _ _ s;rw[vf];exact wpAny_pure h
theorem zP(xs:Array Value)(i k:Nat):((List.range k).filterMap λ(m:Nat)=>xs[((i:Int)+(m:Int) * 1).toNat]?).toArray=((xs.toList.drop i).take k).toArray:=by
 have e:(λ(m:Nat)=>xs[((i:Int)+(m:Int) * 1).toNat]?)=λ m=>xs[i+m]?:=by
  funext m;have:((i:Int)+(m:Int) * 1).toNat=i+m:=by omega
  rw[this]
 rw[e];have:=pick_run xs i k;rw[List.filterMap_map] at this;have e2:((λ x=>xs[x]?) ∘ λ x=>i+x)=λ m=>xs[i+m]?:=rfl;rw[e2] at this;rw[this]
theorem jG{t sl:Addr}{items:Array Value}{vl vu:Value}{lo hi:Option Int}{Q:VP}(ht:IsTup s.heap t items)(hs:s.heap.IsSliceOf sl vl vu .none)(pl:IsPart vl lo)(pu:IsPart vu hi)
  (hw:¬ (sIx items.size 0 lo=0/\sIx items.size items.size hi=items.size))
  (h:Q (.ref s.heap.objs.size) {s with heap:=s.heap.push {cls:=.type "tuple",data:=.seq ((items.toList.drop (sIx items.size 0 lo)).take (sIx items.size items.size hi-sIx items.size 0 lo)).toArray}})
  (hsz:items.size<=sizeLine):wpAny (model prog w) A (getItem (.ref t) (.ref sl)) Q E s:=by
 have htake:sizeOk (.seq ((items.toList.drop (sIx items.size 0 lo)).take (sIx items.size items.size hi-sIx items.size 0 lo)).toArray):=by show((items.toList.drop (sIx items.size 0 lo)).take (sIx items.size items.size hi-sIx items.size 0 lo)).toArray.size<=sizeLine;rw[List.size_toArray,List.length_take,List.length_drop,Array.length_toList];omega
 have hj:sIx items.size items.size hi<=items.size:=afm _ _ (Nat.le_refl _) hi;obtain⟨os,hos,hcs,hds⟩:=id hs;have hTs:s.TypeIs (.ref sl) "slice":= ⟨os,hos,hcs⟩;unfold getItem
 try with_reducible refine wpAny_holding ?_
 first | refine wpAny_bind (wpAny_pure ?_) | skip
 refine wpAny_bind (wpAny_sequenceKey ht.typeIs (by decide) ?_);refine wpAny_bind (wpAny_callSpecial?_slot (name:=Str.ofString "__getitem__") ht.typeIs PyProof.Rows.slot_tuple_getitem
  (wpAny_call_entry PyProof.Rows.slot_tuple_getitem ht.typeIs entry_tuple_getitem ?_ (args_tuple_getitem _ _)))
 show wpAny _ _ (Builtin.Tuple.tupleItemsOf (.ref t) >>= _) _ _ s;refine wpAny_bind (tupleItemsOf_ ht ?_);refine wpAny_bind (wpAny_typeOf hTs ?_);rw[if_pos (by decide)];refine wpAny_bind (j4 hs pl pu ?_);have hno:¬ ((((sIx items.size 0 lo:Nat):Int)==0&&(1:Int)==1&&(sIx items.size items.size hi-sIx items.size 0 lo)==items.size)=true):=by intro q;rw[Bool.and_eq_true,Bool.and_eq_true] at q;have q1:((sIx items.size 0 lo:Nat):Int)=0:=eq_of_beq q.1.1;have q2:sIx items.size items.size hi-sIx items.size 0 lo=items.size:=eq_of_beq q.2;exact hw ⟨by omega,by omega⟩
 show wpAny _ _ (if (((sIx items.size 0 lo:Nat):Int)==0&&(1:Int)==1&&(sIx items.size items.size hi-sIx items.size 0 lo)==items.size)=true then _ else _) _ _ s;rw[if_neg hno,zP]
 first
  | exact wpAny_bind (m:=Builtin.Tuple.tupleExact _) (wpAny_newObj_type (wpAny_pure ⟨_,rfl,wpAny_pure h⟩) htake)
  | exact wpAny_bind (m:=Builtin.Tuple.tupleExact _) (wpAny_newObj_type (wpAny_bind (wpAny_pure (wpAny_pure ⟨_,rfl,wpAny_pure h⟩))) htake)
  | exact wpAny_bind (wpAny_bind (m:=Builtin.Tuple.tupleExact _) (wpAny_newObj_type (wpAny_pure (wpAny_pure ⟨_,rfl,wpAny_pure h⟩)) htake))
  | exact wpAny_bind (wpAny_bind (m:=Builtin.Tuple.tupleExact _) (wpAny_newObj_type (wpAny_pure ⟨_,rfl,wpAny_pure h⟩) htake))
end
end HT
namespace L2
abbrev TO:=St->Hp->(Option Int->Hp->Prop)->Prop
def PO(X:Cx)(e:Option Expr)(t:TO):Prop:=
 ∀ (pins:PN) (s:Shared) (σ:St) (H:Hp) (Q:Option Int->Hp->Prop),Inv X pins σ H s->t σ H Q ->
  wpAny (model X.prog X.w) X.A (evalPart e X.env) (λ u s'=>∃ o H',Inv X pins σ H' s'/\IsPart u o/\Q o H') X.xe s
def ac5:TO:=λ _ H Q=>Q none H
def ahI(t:TE):TO:=λ σ H Q=>t σ H λ x H1=>∃ i,x=.int i/\Q (some i) H1
theorem intsAre_of{ns:List Int}:∀ {us:List Value},Vals (ns.map V.int) us->IntsAre us ns:=by
 induction ns with
 | nil=>intro us r;rw[List.map_nil] at r;cases r;exact .nil
 | cons n ns ih =>
  intro us r;rw[List.map_cons] at r;cases r with
  | cons r1 r2 =>
   obtain⟨t,e⟩:=r1;subst e;exact .cons n t (ih r2)
section
variable {X:Cx}{e:Expr}{te:TE}{lo hi:Option Expr}{tl th:TO}{pos p2:Pos}
theorem acw:PO X none ac5:=by intro pins s σ H Q I h;rw[evalPart_none];exact wpAny_pure ⟨none,H,I,.none,h⟩
theorem adT(h:PE X e te):PO X (some e) (ahI te):=by intro pins s σ H Q I hw;rw[evalPart_some];refine thn (h pins s σ H _ I hw) λ u s1 hq24=>?_;obtain⟨x,H1,I1,r1,q1⟩:=hq24;obtain⟨i,rfl,q⟩:=q1;obtain⟨t,rfl⟩:=r1;exact⟨some i,H1,I1,.int i t,q⟩
def SlR(X:Cx)(r:V->Option Int->Option Int->Hp->VK->Prop):Prop:=
 ∀ (pins:PN) (s:Shared) (σ:St) (H:Hp) (x:V) (v vl vu:Value) (lo hi:Option Int) (sl:Addr) (Q:VK),Inv X pins σ H s->RelV x v->s.heap.IsSliceOf sl vl vu .none->IsPart vl lo->IsPart vu hi->r x lo hi H Q ->
  ∃ T id,typeLookup (.type T) "__getitem__" = pure (some (.builtin id))/\s.TypeIs v T/\wpAny (model X.prog X.w) X.A (getItem v (.ref sl)) (EP X pins σ Q) X.xe s
theorem SlR.or{r r':V->Option Int->Option Int->Hp->VK->Prop}(h:SlR X r)(h':SlR X r'):SlR X (λ x lo hi H Q=>r x lo hi H Q\/r' x lo hi H Q):=by
 intro pins s σ H x v vl vu lo hi sl Q I rx hs pl pu q;rcases q with q | q
 ·exact h pins s σ H x v vl vu lo hi sl Q I rx hs pl pu q
 ·exact h' pins s σ H x v vl vu lo hi sl Q I rx hs pl pu q
def tSl(r:V->Option Int->Option Int->Hp->VK->Prop)(te:TE)(tl th:TO):TE:=λ σ H Q=>te σ H λ x H1=>tl σ H1 λ l H2=>th σ H2 λ u H3=>r x l u H3 Q
theorem aao{r:V->Option Int->Option Int->Hp->VK->Prop}(hr:SlR X r)(he:PE X e te)(hl:PO X lo tl)(hu:PO X hi th):PE X (.Subscript e (.Slice lo hi none p2) pos) (tSl r te tl th):=by intro pins s σ H Q I h;refine Subscript_ (thn (he pins s σ H _ I h) λ v s1 hq25=>?_);obtain⟨x,H1,I1,r1,q1⟩:=hq25;refine wpAny_Slice (thn (hl pins s1 σ H1 _ I1 q1) λ vl s2 ⟨l,H2,I2,pl,q2⟩=>thn (hu pins s2 σ H2 _ I2 q2) λ vu s3 hq26=>?_);obtain⟨u,H3,I3,pu,q3⟩:=hq26;rw[evalPart_none];refine wpAny_pure ?_;have I4:Inv X pins σ H3 {s3 with heap:=s3.heap.push {cls:=.type "slice",data:=.fields #[vl,vu,.none]}}:=I3.kept (t':=s3.toks) λ b ob q=>Heap.get?_push_of_some _ q;obtain⟨T,id,hT,ht,hg⟩:=hr pins {s3 with heap:=s3.heap.push {cls:=.type "slice",data:=.fields #[vl,vu,.none]}} σ H3 x v vl vu l u s3.heap.objs.size Q I4 r1 (Heap.IsSliceOf.new ..) pl pu q3;show wpAny (model X.prog X.w) X.A (subscriptTail e (.Slice lo hi none p2) v (.ref s3.heap.objs.size)) (EP X pins σ Q) X.xe {s3 with heap:=s3.heap.push {cls:=.type "slice",data:=.fields #[vl,vu,.none]}};exact tail_any (ops:=[.ref s3.heap.objs.size,v]) ht hT hg (by with_unfolding_all rfl)
def abW(xs:List V)(lo hi:Option Int):List V:=(xs.drop (HT.sIx xs.length 0 lo)).take (HT.sIx xs.length xs.length hi-HT.sIx xs.length 0 lo)
theorem kU(xs:List V)(lo hi:Option Int):(abW xs lo hi).length<=xs.length:=by
 unfold abW;rw[List.length_take,List.length_drop];omega
def aiR(K:FG):V->Option Int->Option Int->Hp->VK->Prop:=λ x lo hi H Q=>∃ a xs,x=.ref a/\SqT K H a xs /\
 ¬ (HT.sIx xs.length 0 lo=0/\HT.sIx xs.length xs.length hi=xs.length)/\∀ p,H p=none->Q (.ref p) (upd H p (.tup (abW xs lo hi)))
theorem afK:SlR X (aiR X.K):=by
 intro pins s σ H x v vl vu lo hi sl Q I rx hs pl pu h;obtain⟨a,xs,rfl,hx,hw,q⟩:=h;cases rx;obtain⟨its,r,ht,hz⟩:=I.tuple hx;have hlen:its.toArray.size=xs.length:=by rw[List.size_toArray];exact r.length.symm
 refine⟨"tuple",_,PyProof.Rows.slot_tuple_getitem.lookup,ht.typeIs,?_⟩;refine HT.jG ht hs pl pu (by rw[hlen];exact hw) ?_ (by rw[hlen];exact hz);rw[hlen];refine⟨.ref s.heap.objs.size,_,I.laid (t':=s.toks) (o:=.tup (abW xs lo hi)) (λ b ob q=>Heap.get?_push_of_some _ q) (Nat.le_refl _) ?_,rfl,q _ (I.hok.fresh (Nat.le_refl _))⟩;exact⟨Nat.le_trans (kU xs lo hi) hz,_,(r.drop (HT.sIx xs.length 0 lo)).take (HT.sIx xs.length xs.length hi-HT.sIx xs.length 0 lo),yq.new _ _⟩
def aft(K:FG):R2:=λ x y H Q=>∃ a b xs ys,x=.ref a/\y=.ref b/\SqT K H a xs/\SqT K H b ys/\xs≠[]/\xs.length+ys.length<=sizeLine /\
 (ys=[]->Q (.ref a) H)/\(ys≠[]->∀ p,H p=none->Q (.ref p) (upd H p (.tup (xs++ys))))
theorem Vals.og{xs:List V}{us:List Value}(r:Vals xs us):us=[] ↔ xs=[]:=by
 cases r with
 | nil=>simp
 | cons _ _=>simp
theorem cK:OpR X (binaryOp .Add) (aft X.K):=by intro pins s σ H x y v u Q I rx ry h;obtain⟨a,b,xs,ys,rfl,rfl,ha,hb,hx,hz,q1,q2⟩:=h;cases rx;cases ry;obtain⟨its,r1,p1,_⟩:=I.tuple ha;obtain⟨its2,r2,p2,_⟩:=I.tuple hb;refine HT.aeb p1 p2 (λ z=>hx (r1.og.mp z)) (λ z=>⟨.ref a,H,I,rfl,q1 (r2.og.mp z)⟩) (λ z=>?_) (by rw[<- r1.length,<- r2.length];exact hz);refine⟨.ref s.heap.objs.size,_,I.laid (t':=s.toks) (o:=.tup (xs++ys)) (λ b ob q=>Heap.get?_push_of_some _ q) (Nat.le_refl _) ?_,rfl,q2 (λ w=>z (r2.og.mpr w)) _ (I.hok.fresh (Nat.le_refl _))⟩;exact⟨by rw[List.length_append];exact hz,_,r1.append r2,yq.new _ _⟩
end
def ixN(n:Nat)(i:Int):Option Nat:=if 0<=i then (if i<n then some i.toNat else none) else if -(n:Int)<=i then some (i+n).toNat else none
def atI{α:Type}(xs:List α)(i:Int):Option α:=(ixN xs.length i).bind λ j=>xs[j]?
theorem wx{n:Nat}{i:Int}{j:Nat}(h:ixN n i=some j):seqIndex? i n=some j/\j<n/\-(n:Int)<=i/\i<n:=by
 unfold ixN at h
 by_cases h0:0<=i
 ·rw[if_pos h0] at h
  by_cases h1:i<n
  ·rw[if_pos h1] at h;have e:i.toNat=j:=Option.some.inj h;exact⟨by rw[seqIndex_of h0 h1,e],by omega,by omega,h1⟩
  ·rw[if_neg h1] at h;cases h
 ·rw[if_neg h0] at h
  by_cases h1:-(n:Int)<=i
  ·rw[if_pos h1] at h;have e:(i+n).toNat=j:=Option.some.inj h;exact⟨by rw[seqIndex_neg (by omega) h1,e],by omega,h1,by omega⟩
  ·rw[if_neg h1] at h;cases h
theorem oB{α:Type}{xs:List α}{i:Int}{v:α}(h:atI xs i=some v):∃ j,seqIndex? i xs.length=some j/\xs[j]? =some v/\j<xs.length/\-(xs.length:Int)<=i/\i<xs.length:=by
 unfold atI at h;cases e:ixN xs.length i with
 | none=>rw[e] at h;cases h
 | some j =>
  rw[e] at h;obtain⟨h1,h2,h3,h4⟩:=wx e;exact⟨j,h1,h,h2,h3,h4⟩
def rP(b:Expr):Prop:=∀ o i,subscripted b false o i=operate [o,i] (getItem o i)
def IxR(X:Cx)(r:R2):Prop:=
 ∀ (value slice:Expr) (pins:PN) (s:Shared) (σ:St) (H:Hp) (x y:V) (v u:Value) (Q:VK),Inv X pins σ H s->RelV x v->RelV y u->r x y H Q ->
  subscripted slice false v u=operate [v,u] (getItem v u)->wpAny (model X.prog X.w) X.A (subscriptTail value slice v u) (EP X pins σ Q) X.xe s
def MtR(X:Cx)(id:String)(r:V->List V->Hp->VK->Prop):Prop:=
 ∀ (pins:PN) (s:Shared) (σ:St) (H:Hp) (x:V) (xs:List V) (v:Value) (us:List Value) (Q:VK),Inv X pins σ H s->RelV x v->Vals xs us->r x xs H Q ->
  wpAny (model X.prog X.w) X.A (call (.builtin id) (v::us)) (EP X pins σ Q) X.xe s
section
variable {X:Cx}{a b:Expr}{ta tb:TE}{pos:Pos}
theorem IxR.or{r r':R2}(h:IxR X r)(h':IxR X r'):IxR X (λ x y H Q=>r x y H Q\/r' x y H Q):=by
 intro value slice pins s σ H x y v u Q I rx ry q hs;rcases q with q | q
 ·exact h value slice pins s σ H x y v u Q I rx ry q hs
 ·exact h' value slice pins s σ H x y v u Q I rx ry q hs
theorem ahC{r:R2}(hr:IxR X r)(ha:PE X a ta)(hb:PE X b tb)(hs:rP b):PE X (.Subscript a b pos) (tOp r ta tb):=by intro pins s σ H Q I h;exact Subscript_ (ahQ ha hb I h λ v u s2 x y H2 I2 rx ry q=>hr a b pins s2 σ H2 x y v u Q I2 rx ry q (hs _ _))
def ahG(K:FG):R2:=λ x y H Q=>∃ p xs i v,x=.ref p/\y=.int i/\SqL K H p xs/\atI xs i=some v/\Q v H
def aiG(K:FG):R2:=λ x y H Q=>∃ p xs i v,x=.ref p/\y=.int i/\SqT K H p xs/\atI xs i=some v/\Q v H
def aiI:R2:=λ x y H Q=>∃ z i c,x=.str z/\y=.int i/\z.length<=sizeLine/\atI z.cps.toList i=some c/\Q (.str ⟨#[c]⟩) H
theorem ac8:IxR X (ahG X.K):=by
 intro value slice pins s σ H x y v u Q I rx ry h hs;obtain⟨p,xs,i,z,rfl,rfl,hq,he,q⟩:=h;cases rx;obtain⟨t,rfl⟩:=ry;obtain⟨its,r,pl,hz⟩:=I.list hq;obtain⟨j,h1,h2,h3,h4,h5⟩:=oB he;obtain⟨w,ew,rw'⟩:=r.get h2;have hl:=r.length;have hn:=mT;have fin:EP X pins σ Q w s:=⟨z,H,I,rw',q⟩
 by_cases h0:0<=i
 ·have hj:i.toNat=j:=by rw[seqIndex_of h0 h5] at h1;exact Option.some.inj h1
  exact item_listR pl.isList h0 (by omega) (by rw[hj];simpa using ew) fin hs
 ·have hj:(i+(its.toArray.size:Int)).toNat=j:=by rw[seqIndex_neg (by omega) h4] at h1;rw[List.size_toArray,<- hl];exact Option.some.inj h1
  exact subscriptTail_builtinR (x:=w) pl.isList.typeIs slot_list_getitem.lookup
   (wpAny_getItem_list_neg (Q:=λ r s'=>r=w/\EP X pins σ Q r s') pl.isList (by omega) (by rw[List.size_toArray]<;>omega) (by omega) (by rw[hj];simpa using ew) ⟨rfl,fin⟩) hs
theorem af6:IxR X (aiG X.K):=by
 intro value slice pins s σ H x y v u Q I rx ry h hs;obtain⟨p,xs,i,z,rfl,rfl,hq,he,q⟩:=h;cases rx;obtain⟨t,rfl⟩:=ry;obtain⟨its,r,pl,hz⟩:=I.tuple hq;obtain⟨j,h1,h2,h3,h4,h5⟩:=oB he;obtain⟨w,ew,rw'⟩:=r.get h2;have hl:=r.length;have hn:=mT;have fin:EP X pins σ Q w s:=⟨z,H,I,rw',q⟩;exact subscriptTail_builtinR (x:=w) pl.typeIs slot_tuple_getitem.lookup
  (getItem_tuple (j:=j) (Q:=λ r s'=>r=w/\EP X pins σ Q r s') pl (by omega) (by omega) (by rw[List.size_toArray,<- hl];exact h1) (by simpa using ew) ⟨rfl,fin⟩) hs
theorem afo:IxR X aiI:=by
 intro value slice pins s σ H x y v u Q I rx ry h hs;obtain⟨z,i,c,rfl,rfl,hz,he,q⟩:=h;obtain⟨t,rfl⟩:=rx;obtain⟨t',rfl⟩:=ry;obtain⟨j,h1,h2,h3,h4,h5⟩:=oB he;have hl:z.cps.toList.length=z.length:=by simp[Str.length]
 rw[hl] at h1 h4 h5;have hn:=mT;exact tail_any (typeIs_str s z t) slot_str_getitem.lookup (getItem_str (c:=c) (by have e1:decide (i < -(2 ^ 63:Int))=false:=decide_eq_false (by omega);have e2:decide (i >= 2 ^ 63)=false:=decide_eq_false (by omega);rw[e1,e2,Bool.or_false]) (by rw[h1];simpa using h2) ⟨.str ⟨#[c]⟩,H,I.tok _,⟨_,rfl⟩,q⟩) hs
def rIx(K:FG):R2:=λ x y H Q=>ahG K x y H Q\/aiG K x y H Q\/aiI x y H Q
theorem ba:IxR X (rIx X.K):=ac8.or (af6.or afo)
theorem uE(its:List Value)(n j:Nat)(u:Value):Obj.mapSeq (·.setIfInBounds j u) {cls:=.type "list",data:=.seq its.toArray n}={cls:=.type "list",data:=.seq (its.set j u).toArray n}:=by simp[Obj.mapSeq]
theorem Inv.lst{pins:PN}{σ:St}{H:Hp}{s:Shared}{p:Addr}{xs:List V}(I:Inv X pins σ H s)(h:H p=some (.lst xs)) :
  ∃ (its:List Value) (n:Nat),Vals xs its/\s.heap.get? p=some {cls:=.type "list",data:=.seq its.toArray n}/\xs.length<=sizeLine:=by
 obtain⟨z,its,n,r,e⟩:=I.hok p _ h;exact⟨its,n,r,e,z⟩
theorem Inv.afZ{pins:PN}{σ:St}{H:Hp}{s:Shared}{p:Addr}{xs ys:List V}{its its':List Value}{n n':Nat}{f:Obj->Obj}(I:Inv X pins σ H s)(h:H p=some (.lst xs))
  (ho:s.heap.get? p=some {cls:=.type "list",data:=.seq its.toArray n})(hf:f {cls:=.type "list",data:=.seq its.toArray n}={cls:=.type "list",data:=.seq its'.toArray n'})(r:Vals ys its')(hz:ys.length<=sizeLine)(t:Nat) :
  Inv X pins σ (upd H p (.lst ys)) {s with heap:=s.heap.update p f,toks:=t}:=by
 have e:(s.heap.update p f).get? p=some {cls:=.type "list",data:=.seq its'.toArray n'}:=by rw[Heap.get?_update_self f ho (by rw[hf]<;>rfl),hf]
 refine I.write (x:=p) (e:=p) (by rw[h];trivial) (.inl rfl) (λ b u hb q=>(Heap.get?_update_other _ _ (Ne.symm hb)).trans q) ⟨_,e⟩ ?_;exact⟨hz,its',n',r,e⟩
def ahA:V->V->V->Hp->(Hp->Prop)->Prop:=λ o i v H Q=>∃ p xs k j,o=.ref p/\i=.int k/\H p=some (.lst xs)/\ixN xs.length k=some j/\Q (upd H p (.lst (xs.set j v)))
theorem set_list:ahi X ahA:=by
 intro pins s σ H o i v ov iv u Q I ro ri rv h;obtain⟨p,xs,k,j,rfl,rfl,hp,hj,q⟩:=h;cases ro;obtain⟨t,rfl⟩:=ri;obtain⟨its,n,r,ho,hz⟩:=I.lst hp;obtain⟨h1,h2,h3,h4⟩:=wx hj;have hl:=r.length;have hn:=mT;have I':Inv X pins σ (upd H p (.lst (xs.set j v))) {s with heap:=s.heap.update p (Obj.mapSeq (·.setIfInBounds j u))}:=
  I.afZ hp ho (uE its n j u) (r.set rv j) (by rw[List.length_set];exact hz) s.toks
 by_cases h0:0<=k
 ·have hk:k.toNat=j:=by rw[seqIndex_of h0 h4] at h1;exact Option.some.inj h1
  exact W.ki_setAt ho h0 (by omega) (by rw[List.size_toArray,<- hl];exact h4) (by rw[hk];exact⟨_,I',q⟩)
 ·have hk:(k+(its.toArray.size:Int)).toNat=j:=by rw[seqIndex_neg (by omega) h3] at h1;rw[List.size_toArray,<- hl];exact Option.some.inj h1
  exact W.ki_setBack ho (by omega) (by rw[List.size_toArray,<- hl];exact h3) (by omega) (by rw[hk];exact⟨_,I',q⟩)
theorem qI(lo hi:Option Int)(n:Nat):(sliceBounds lo hi none n).1=((HT.sIx n 0 lo:Nat):Int)/\(sliceBounds lo hi none n).2.1=((HT.sIx n n hi:Nat):Int)/\(sliceBounds lo hi none n).2.2=1:=by
 refine⟨?_,?_,rfl⟩
 ·cases lo with
  | none=>simp[sliceBounds,HT.sIx]
  | some i =>
   simp only[sliceBounds,HT.sIx,Option.getD_none,show(1:Int) > 0 by decide,if_true]
   by_cases h:i<0
   ·simp only[h,if_true]<;>omega
   ·simp only[h,if_false]<;>omega
 ·cases hi with
  | none=>simp[sliceBounds,HT.sIx]
  | some i =>
   simp only[sliceBounds,HT.sIx,Option.getD_none,show(1:Int) > 0 by decide,if_true]
   by_cases h:i<0
   ·simp only[h,if_true]<;>omega
   ·simp only[h,if_false]<;>omega
theorem nC(its:List Value)(lo hi:Option Int):slicePick its.toArray lo hi none=((its.drop (HT.sIx its.length 0 lo)).take (HT.sIx its.length its.length hi-HT.sIx its.length 0 lo)).toArray:=by obtain⟨h1,h2,h3⟩:=qI lo hi its.toArray.size;unfold slicePick;rw[h1,h2,h3];simp only[sliceRange_one,pick_run,List.size_toArray]<;>rfl
def aiS(K:FG):V->Option Int->Option Int->Hp->VK->Prop:=λ x lo hi H Q=>∃ a xs,x=.ref a/\SqL K H a xs/\∀ p,H p=none->Q (.ref p) (upd H p (.lst (abW xs lo hi)))
theorem acb:SlR X (aiS X.K):=by intro pins s σ H x v vl vu lo hi sl Q I rx hs pl pu h;obtain⟨a,xs,rfl,hx,q⟩:=h;cases rx;obtain⟨its,r,ht,hz⟩:=I.list hx;have hlen:=r.length;refine⟨"list",_,slot_list_getitem.lookup,ht.isList.typeIs,?_⟩;refine wpAny_getItem_list_slice ht.isList hs pl pu .none (by simp) ?_ (by rw[List.size_toArray]<;>omega);rw[nC,<- hlen];refine⟨.ref s.heap.objs.size,_,I.laid (t':=s.toks) (o:=.lst (abW xs lo hi)) (λ b ob q=>Heap.get?_push_of_some _ q) (Nat.le_refl _) ?_,rfl,q _ (I.hok.fresh (Nat.le_refl _))⟩;exact⟨Nat.le_trans (kU xs lo hi) hz,_,0,(r.drop (HT.sIx xs.length 0 lo)).take (HT.sIx xs.length xs.length hi-HT.sIx xs.length 0 lo),Heap.get?_push_size _ rfl⟩
def mf:V->Bool
 | .non=>true
 | .bl _=>true
 | .int _=>true
 | .str _=>true
 | _=>false
def eqV:V->V->Bool
 | .non,.non=>true
 | .bl a,.bl b=>a==b
 | .bl a,.int b=>(if a then 1 else 0)==b
 | .int a,.bl b=>a==(if b then 1 else 0)
 | .int a,.int b=>a==b
 | .str a,.str b=>a==b
 | _,_=>false
theorem afa{A:Around}{s:Shared}{y x:V}{u v:Value}(ry:RelV y u)(rx:RelV x v)(fy:mf y=true)(fx:mf x=true):SeqAt.EqAt A s u v (eqV y x):=by
 cases y with
 | non =>
  cases ry;cases x with
  | non=>cases rx;exact SeqAt.EqAt.same _
  | bl b=>cases rx;exact SeqAt.EqAt.none_bool b
  | int b=>obtain⟨t,rfl⟩:=rx;exact SeqAt.EqAt.none_int b t
  | str b=>obtain⟨t,rfl⟩:=rx;exact SeqAt.EqAt.none_str b t
  | _=>exact absurd (show false=true from fx) Bool.false_ne_true
 | bl a =>
  cases ry;cases x with
  | non=>cases rx;exact SeqAt.EqAt.bool_none a
  | bl b=>cases rx;exact SeqAt.EqAt.bool_bool a b
  | int b=>obtain⟨t,rfl⟩:=rx;exact SeqAt.EqAt.bool_int a b t
  | str b=>obtain⟨t,rfl⟩:=rx;exact SeqAt.EqAt.bool_str a b t
  | _=>exact absurd (show false=true from fx) Bool.false_ne_true
 | int a =>
  obtain⟨t',rfl⟩:=ry;cases x with
  | non=>cases rx;exact SeqAt.EqAt.int_none a t'
  | bl b=>cases rx;exact SeqAt.EqAt.int_bool a t' b
  | int b=>obtain⟨t,rfl⟩:=rx;exact SeqAt.EqAt.int_int a t' b t
  | str b=>obtain⟨t,rfl⟩:=rx;exact SeqAt.EqAt.int_str a t' b t
  | _=>exact absurd (show false=true from fx) Bool.false_ne_true
 | str a =>
  obtain⟨t',rfl⟩:=ry;cases x with
  | non=>cases rx;exact SeqAt.EqAt.str_none a t'
  | bl b=>cases rx;exact SeqAt.EqAt.str_bool a t' b
  | int b=>obtain⟨t,rfl⟩:=rx;exact SeqAt.EqAt.str_int a t' b t
  | str b=>obtain⟨t,rfl⟩:=rx;exact SeqAt.EqAt.str_str a t' b t
  | _=>exact absurd (show false=true from fx) Bool.false_ne_true
 | _=>exact absurd (show false=true from fy) Bool.false_ne_true
def eqU(x:V)(u:Value):Bool:=match u with
 | .none=>eqV .non x
 | .bool b=>eqV (.bl b) x
 | .int i _=>eqV (.int i) x
 | .str z _=>eqV (.str z) x
 | _=>false
theorem abg{x y:V}{u:Value}(r:RelV y u)(f:mf y=true):eqU x u=eqV y x:=by
 cases y with
 | non=>cases r;rfl
 | bl b=>cases r;rfl
 | int i=>obtain⟨t,rfl⟩:=r;rfl
 | str z=>obtain⟨t,rfl⟩:=r;rfl
 | _=>exact absurd (show false=true from f) Bool.false_ne_true
theorem se{x:V}:∀ {xs:List V} {us:List Value},Vals xs us->xs.all mf=true->us.any (eqU x)=xs.any λ y=>eqV y x
 | _,_,.nil,_=>rfl
 | y::xs,u::us,.cons r t,f=>by rw[List.all_cons,Bool.and_eq_true] at f;rw[List.any_cons,List.any_cons,abg r f.1,se t f.2]
theorem nH{A:Around}{s:Shared}{x:V}{v:Value}(rx:RelV x v)(fx:mf x=true):∀ {xs:List V} {us:List Value},Vals xs us->xs.all mf=true->∀ u∈us,SeqAt.EqAt A s u v (eqU x u)
 | _,_,.nil,_=>λ u hu=>by cases hu
 | y::xs,u::us,.cons r t,f=>λ u' hu=>by
  rw[List.all_cons,Bool.and_eq_true] at f;rcases List.mem_cons.mp hu with rfl | hu
  ·rw[abg r f.1];exact afa r rx f.1 fx
  ·exact nH rx fx t f.2 u' hu
def inV(x:V)(xs:List V):Bool:=xs.any λ y=>eqV y x
def rIn(K:FG)(neg:Bool):R2:=λ x y H Q=>∃ p xs,y=.ref p/\(SqL K H p xs\/SqT K H p xs)/\mf x=true/\xs.all mf=true/\Q (.bl (if neg then !inV x xs else inV x xs)) H
theorem ql:OpR X (compareOp .In) (rIn X.K false):=by
 intro pins s σ H x y v u Q I rx ry h;obtain⟨p,xs,rfl,hq,fx,fs,q⟩:=h;cases ry;rcases hq with hq | hq
 ·obtain⟨its,r,pl,hz⟩:=I.list hq;refine SeqAt.in_listAt (eqU x) pl.isList (λ w hw=>nH rx fx r fs w (by simpa using hw)) ⟨.bl _,H,I,rfl,?_⟩;rw[show its.toArray.any (eqU x)=its.any (eqU x) by simp,se r fs];exact q
 ·obtain⟨its,r,pl,hz⟩:=I.tuple hq;refine SeqAt.in_tupleAt (eqU x) pl (λ w hw=>nH rx fx r fs w (by simpa using hw)) ⟨.bl _,H,I,rfl,?_⟩;rw[show its.toArray.any (eqU x)=its.any (eqU x) by simp,se r fs];exact q
theorem jQ:eI X (.type "list") (λ xs H Q=>∃ p ys,xs=[.ref p]/\(SqL X.K H p ys\/SqT X.K H p ys)/\∀ l,H l=none->Q (.ref l) (upd H l (.lst ys))):=by
 intro pins s σ H xs us Q I r h;obtain⟨p,ys,rfl,hq,q⟩:=h;obtain⟨u,rfl,rx⟩:=vals1 r;cases rx;have fin:∀ (its:List Value),Vals ys its->ys.length<=sizeLine->∀ (h':Heap) (c':Nat),(∀ b o',s.heap.get? b=some o'->h'.get? b=some o') ->
   h'.get? s.heap.objs.size=some {cls:=.type "list",dict:=none,data:=.seq its.toArray c',slots:=#[]}->EP X pins σ Q (.ref s.heap.objs.size) {s with heap:=h'}:=λ its r' hz h' c' kp e =>
  ⟨.ref s.heap.objs.size,_,I.laid (t':=s.toks) kp (Nat.le_refl _) (show cV X.prog X.w _ h' _ (.lst ys) from⟨hz,its,c',r',e⟩),rfl,q _ (I.hok.fresh (Nat.le_refl _))⟩
 rcases hq with hq | hq
 ·obtain⟨its,r',pl,hz⟩:=I.list hq;have hlen:=r'.length;obtain⟨o,ho,hc,n,hd⟩:=pl.isList;exact call_list_seq p (.inl rfl) ho hc hd (λ h' c' kp e=>fin its r' hz h' c' kp e) (by simp only[List.size_toArray]<;>omega)
 ·obtain⟨its,r',pl,hz⟩:=I.tuple hq;have hlen:=r'.length;obtain⟨o,ho,hc,n,hd⟩:=pl;exact call_list_seq p (.inr rfl) ho hc hd (λ h' c' kp e=>fin its r' hz h' c' kp e) (by simp only[List.size_toArray]<;>omega)
theorem nP:eI X (.type "tuple") (λ xs H Q=>∃ p ys,xs=[.ref p]/\((SqL X.K H p ys/\∀ l,H l=none->Q (.ref l) (upd H l (.tup ys)))\/(SqT X.K H p ys/\Q (.ref p) H))):=by
 intro pins s σ H xs us Q I r h;obtain⟨p,ys,rfl,h⟩:=h;obtain⟨u,rfl,rx⟩:=vals1 r;cases rx;rcases h with ⟨hq,q⟩ | ⟨hq,q⟩
 ·obtain⟨its,r',pl,hz⟩:=I.list hq;have hlen:=r'.length;refine call_tuple_list pl.isList (λ h' kp=>?_) (by simp only[List.size_toArray]<;>omega);have I1:Inv X pins σ H {s with heap:=h'}:=I.kept (t':=s.toks) kp;have I2:Inv X pins σ (upd H h'.objs.size (.tup ys)) {s with heap:=h'.push {cls:=.type "tuple",data:=.seq its.toArray}}:=
   I1.laid (t':=s.toks) (λ b o e=>Heap.get?_push_of_some _ e) (Nat.le_refl _) (show cV X.prog X.w _ _ _ (.tup ys) from⟨hz,its,r',yq.new _ _⟩)
  exact⟨.ref h'.objs.size,_,I2,rfl,q _ (I1.hok.fresh (Nat.le_refl _))⟩
 ·obtain⟨its,r',pl,hz⟩:=I.tuple hq;exact call_tuple_same pl ⟨.ref p,H,I,rfl,q⟩
def tyV(K:FG)(T:String)(x:V)(H:Hp):Prop:=match x with
 | .str _=>T = "str"
 | .int _=>T = "int"
 | .ref p=>(T = "list" /\ ∃ xs,SqL K H p xs)\/(T = "tuple" /\ ∃ xs,SqT K H p xs) \/
   (T = "dict" /\ ((∃ kvs,H p=some (.dK kvs))\/∃ kvs,H p=some (.dT kvs)))\/(T = "set" /\ ∃ S n,H p=some (.set S n))
 | _=>False
theorem agJ{pins:PN}{σ:St}{H:Hp}{s:Shared}{T:String}{x:V}{v:Value}(I:Inv X pins σ H s)(r:RelV x v)(ty:tyV X.K T x H) :
  s.TypeIs v T/\∀ a,v=.ref a->∃ ob,s.heap.get? a=some ob/\ob.dict=none:=by
 cases x with
 | str z =>
  obtain⟨t,rfl⟩:=r;cases (show T = "str" from ty);exact⟨typeIs_str s z t,λ _ e=>nomatch e⟩
 | int i =>
  obtain⟨t,rfl⟩:=r;cases (show T = "int" from ty);exact⟨typeIs_int s i t,λ _ e=>nomatch e⟩
 | ref p =>
  cases r;rcases ty with ⟨rfl,xs,hq⟩ | ⟨rfl,xs,hq⟩ | ⟨rfl,hk⟩ | ⟨rfl,S,n,hk⟩
  ·obtain⟨its,_,pl,_⟩:=I.list hq;refine⟨pl.isList.typeIs,λ a e=>?_⟩;cases e;obtain⟨o,n,e,c,hd,_⟩:=pl;exact⟨o,e,hd⟩
  ·obtain⟨its,_,⟨o,h1,h2,h3,_⟩,_⟩:=I.aiZ hq;refine⟨⟨o,h1,h2⟩,λ a e=>?_⟩;cases e;exact⟨o,h1,h3⟩
  ·have z:∃ o,s.heap.get? p=some o/\o.ExactDict:=by
    rcases hk with ⟨kvs,hk⟩ | ⟨kvs,hk⟩
    ·obtain⟨_,_,_,_,o,_,_,e,ex,_⟩:=I.hok p _ hk;exact⟨o,e,ex⟩
    ·obtain⟨_,_,_,_,o,_,_,e,ex,_⟩:=I.hok p _ hk;exact⟨o,e,ex⟩
   obtain⟨o,e,ex⟩:=z;refine⟨⟨o,e,ex.1⟩,λ a e2=>?_⟩;cases e2;exact⟨o,e,ex.2.1⟩
  ·obtain⟨o,_,_,_,e,ex,_⟩:=I.hok p _ hk;refine⟨⟨o,e,ex.1⟩,λ a e2=>?_⟩;cases e2;exact⟨o,e,ex.2.1⟩
 | _=>exact False.elim ty
def tBM(K:FG)(T:String)(r:V->List V->Hp->VK->Prop)(to:TE)(t:TA):TE:=λ σ H Q=>to σ H λ x H1=>tyV K T x H1/\t σ H1 λ xs H2=>r x xs H2 Q
variable {o e:Expr}{es:List Expr}{to:TE}{t:TA}{name:Str}{apos cpos:Pos}{T id:String}{r:V->List V->Hp->VK->Prop}
theorem ain(pa:PlainAttrs T)(slot:Slot T name id)(hty:typeOf (.builtin id)=pure (.type "method_descriptor"))(hm:MtR X id r)(ho:PE X o to)(ha:PA X (e::es) t)
  (hbase:attributeBase o name X.env (eval o X.env)=eval o X.env:=by rfl)
  (hfew:((backTo cpos (starEach (e::es) X.env)).all (λ x=>!x.1)&&(backToKw cpos (keywordEach [] X.env)).all (λ x=>x.1.isSome)
   && decide ((e::es).length+([]:List Keyword).length+(if ([]:List Keyword).isEmpty then 0 else 1)<30))=true:=by rfl)
  (hline:(apos.endLine==cpos.line)=true:=by rfl)(hs:starEach (e::es) X.env=(false,eval e X.env)::starEach es X.env:=by rfl)(hplain:(backTo cpos (starEach es X.env)).any (·.1)=false:=by rfl) :
  PE X (.Call (.Attribute o name apos) (e::es) [] cpos) (tBM X.K T r to t):=by
 intro pins s σ H Q I h;refine wpAny_Call_method_late hbase hfew hline rfl (thn (ho pins s σ H _ I h) λ v s1 hq27=>?_);obtain⟨x,H1,I1,r1,ty,q1⟩:=hq27;obtain⟨h1,h2⟩:=agJ I1 r1 ty;refine⟨T,id,pa,slot,hty,h1,h2,?_⟩;have hA:=ha cpos pins s1 σ H1 _ I1 q1;rw[hs] at hA ⊢;refine Calls.callWith_builtin (by show(false || (backTo cpos (starEach es X.env)).any (·.1))=false;rw[hplain]<;>rfl) (Calls.evalArgs_plain ?_);exact thn hA λ us s2 ⟨vs,H2,I2,r2,q2⟩=>hm pins s2 σ H2 x vs v us Q I2 r1 r2 q2
end
def MtM(X:Cx)(id:String)(r:V->List V->Hp->VK->Prop):Prop:=
 ∀ (pins:PN) (s:Shared) (σ:St) (H:Hp) (x:V) (xs:List V) (v:Value) (us:List Value) (Q:VK),Inv X pins σ H s->RelV x v->Vals xs us->r x xs H Q ->
  wpAny (model X.prog X.w) X.A (call (.builtin id) (v::us)) (EP X pins σ Q) X.xe s
theorem Vals.one:∀ {x:V} {us:List Value},Vals [x] us->∃ u,us=[u]/\RelV x u
 | _,_,.cons r .nil=>⟨_,rfl,r⟩
section
variable {X:Cx}{pins:PN}{σ:St}{H:Hp}{s:Shared}{l b:Addr}{xs ys zs:List V}
theorem Inv.ajF{its its':List Value}{n:Nat}{f:Array Value->Array Value}{t':Nat}(I:Inv X pins σ H s)(hH:H l=some (.lst xs))
  (e:s.heap.get? l=some {cls:=.type "list",data:=.seq its.toArray n})(hf:f its.toArray=its'.toArray)(hv:Vals ys its')(hz:ys.length<=sizeLine) :
  Inv X pins σ (upd H l (.lst ys)) {s with heap:=s.heap.update l (Obj.mapSeq f),toks:=t'}:=by
 have q:=PySem.IsL.update e f;rw[hf] at q;refine I.write (x:=l) (e:=l) (by rw[hH];exact trivial) (.inl rfl) (λ b' u hb hu=>(Heap.get?_update_other s.heap (Obj.mapSeq f) (Ne.symm hb)).trans hu) ⟨_,q⟩ ?_;exact⟨hz,its',_,hv,q⟩
theorem Inv.ajl{its:List Value}{t':Nat}(I:Inv X pins σ H s)(hv:Vals ys its)(hz:ys.length<=sizeLine) :
  Inv X pins σ (upd H s.heap.objs.size (.lst ys)) {s with heap:=s.heap.push {cls:=.type "list",data:=.seq its.toArray},toks:=t'}:=
 I.laid (λ _ _ q=>Heap.get?_push_of_some _ q) (Nat.le_refl _) ⟨hz,its,0,hv,Heap.get?_push_size _ rfl⟩
theorem Inv.fresh(I:Inv X pins σ H s):H s.heap.objs.size=none:=I.hok.fresh (Nat.le_refl _)
theorem Inv.ajm(I:Inv X pins σ H s)(hH:H l=some (.lst xs)):xs.length<=sizeLine/\∃ (its:List Value) (n:Nat),Vals xs its/\xs.length=its.length/\s.heap.get? l=some {cls:=.type "list",data:=.seq its.toArray n}:=by obtain⟨z,its,n,r,e⟩:=I.hok l _ hH;exact⟨z,its,n,r,r.length,e⟩
end
section
variable {X:Cx}
def adV:V->List V->Hp->VK->Prop:=λ x vs H Q=>∃ l xs y,x=.ref l/\vs=[y]/\H l=some (.lst xs)/\xs.length<sizeLine/\Q .non (upd H l (.lst (xs++[y])))
theorem xY:MtM X "list.append" adV:=by intro pins s σ H x vs v us Q I rx rv h;obtain⟨l,xs,y,rfl,rfl,hH,hz,q⟩:=h;cases rx;obtain⟨u,rfl,ru⟩:=rv.one;obtain⟨z,its,n,r,hl,e⟩:=I.ajm hH;refine call_meets F.slot_list_append ⟨_,e,rfl⟩ F.entry_list_append (F.args_list_append_2 _ _) (PySem.list_append l its.toArray n u (by rw[List.size_toArray];omega)) ⟨e,?_⟩;refine⟨.non,_,I.ajF (its':=its++[u]) hH e (by simp) (r.append (.cons ru .nil)) ?_,rfl,q⟩;rw[List.length_append,List.length_singleton];omega
end
section
variable {prog:Program}{w:World}{A:Around}{E:VP}{s:Shared}
end
section
variable {X:Cx}
end
end L2
namespace Att
open PySem PySem.W PySem.Calls PyProof.Rows
theorem kT{P:Params}{h:Heap}:∀ (ns:List Int) (vs:List Value),WellAll P h vs (ns.map WData.int)->IntsAre vs ns:=by
 intro ns
 induction ns with
 | nil =>
  intro vs w;rw[List.map_nil] at w;cases w;exact .nil
 | cons n ns ih =>
  intro vs w;rw[List.map_cons] at w;cases w with
  | cons a b =>
   cases a;exact .cons _ _ (ih _ b)
theorem yd{l:OpenLaw}{n:Nat}(hn:l.most=some n){P:Params}{h:Heap}{args:List WData}{vals:List Value}
  (hpre:l.row.toRowW.claim.pre args=true)(hwl:WellAll P h vals args) :
  ∃ a vs ns,vals=[Value.ref a]/\args=[WData.list (ns.map WData.int)]/\h.get? a=some {cls:=.type "list",data:=.seq vs.toArray}/\IntsAre vs ns/\ns.length<=n:=by
 have hsh:WShape.hasAll [] args [.list .int]=true:=(pre_splitW hpre).1;have hc:l.pre.holds [] {args:=args}=true:=(pre_splitW hpre).2;obtain⟨d,r,rfl,h1,h2⟩:=hasAllW_cons hsh;obtain rfl:=hasAllW_nil h2;obtain⟨xs,rfl,h3⟩:=hasW_list h1;obtain⟨ns,rfl⟩:=items_int h3;have hlen:ns.length<=n:=by
  unfold OpenLaw.pre at hc;have h4:(WTm.not (.lt (.lit (.int (n:Int))) (.len (.arg 0)))).holds [] {args:=[.list (ns.map .int)]}=true:=by have h4:=(holds_andW hc).1;rw[hn] at h4;exact h4
  have h5:=condW_of h4 (w_not (w_lt w_lit (w_len_list (w_arg rfl))));rw[List.length_map] at h5;refine Nat.le_of_not_lt λ q=>?_;have q':(n:Int)<((ns.length:Nat):Int):=by omega
  first
   | (rw[decide_eq_true q'] at h5;exact absurd h5 (by decide))
   | (simp at h5;omega)
 cases hwl with
 | cons w1 w2 =>
  cases w2;cases w1 with
  | list ho hall=>exact⟨_,_,ns,rfl,rfl,ho,kT ns _ hall,hlen⟩
theorem wa(l:OpenLaw)(args:List WData):l.row.toRowW.claim.post args (.bool true) args=true:=
 postW_of (r:=l.row.toRowW) (X:=(true==true))
  (show WShape.has [] (.bool true) .bool=true by first | rfl | decide | simp[WShape.has,WShape.arms,WShape.armsAll])
  (show(WTm.eq .res (.lit (.bool true))).value [] {args:=args,res:=some (.bool true),after:=args}=some (.bool (true==true)) from w_eq_bool (w_res rfl) w_lit) rfl
theorem su{l:OpenLaw}{n:Nat}{q:Program}{loose:List Str}{XP:(Str->Option Value)->Heap->Prop}{YP:World->Heap->Prop}{d:DefRec}
  (hn:l.most=some n)(hdf:d.params.defaults=[])
  (call:∀ (w:World) (s₀ s₁:Shared) (mg mb:Str->Option Value) (fa:Addr) (o:Obj) (pm cd doc:Value) (a:Addr) (vs:List Value) (ns:List Int),
   Ground q loose [] XP w s₀ mg mb s₁.heap->YP w s₁.heap ->
   s₁.heap.get? fa=some o->o.data=.func (docDef d.name d.params d.body d.scope pm cd doc)->s₁.heap.CodeRec cd d.name->mg d.name=some (.ref fa) ->
   s₁.heap.get? a=some {cls:=.type "list",data:=.seq vs.toArray}->IntsAre vs ns->ns.length<=n->s₁.gens = #[] ->
   codeAny (model l.prog w) callerA (.call (.ref fa) ⟨[.ref a],[]⟩) (λ r s'=>r=.ok (.ret (.bool true))/\OldK s₁.heap s'.heap/\s'.os=s₁.os/\AllBare s'.gens) s₁) :
  WalkO q loose XP YP l.row.toRowW d [] (λ f vs=>PySem.call f vs):=by
 intro w s₀ s₁ mg mb G Y fa o pm cd doc dV kV ho hd hcd hD hmg hg args vals as hpre hlay hrd hwl hlo;obtain rfl:dV=.none:=Dflts.none hD hdf;obtain rfl:kV=.none:=Dflts.noKw hD;obtain⟨a,vs,ns,rfl,rfl,hobj,hints,hlen⟩:=yd hn hpre hwl;refine enter_call (codeAny_mono (call w s₀ s₁ mg mb fa o pm cd doc a vs ns G Y ho (fd_plain hd) hcd hmg hobj hints hlen hg) λ r s' hq=>?_);obtain⟨rfl,h2,h3,h4⟩:=hq;exact⟨.inl ⟨.bool true,.bool true,[],rfl,λ _=>rfl,.bool true,wa l _,λ _=>⟨List.Pairwise.nil,λ _ hm=>(nomatch hm)⟩⟩,h2,h3,h4⟩
section
variable {prog:Program}{w:World}{A:Around}{E:VP}{s:Shared}{K:Frag}
end
end Att
namespace L2
theorem gz:∀ {vs:List Value} {ns:List Int},IntsAre vs ns->Vals (ns.map V.int) vs
 | _,_,.nil=>.nil
 | _,_,.cons n t h=>.cons ⟨t,rfl⟩ (gz h)
def inClass(s:Stmt)(j:Nat):Stmt:=match s with
 | .ClassDef _ _ _ body _ _ _ _ _ _ _=>body.getD j (.Pass ⟨0,0,0,0⟩)
 | _=>.Pass ⟨0,0,0,0⟩
def bH(s:Stmt):Arguments:=match s with
 | .FunctionDef _ a _ _ _ _ _ _ _ _=>a
 | _=>{posonlyargs:=[],args:=[],vararg:=none,kwonlyargs:=[],kw_defaults:=[],kwarg:=none,defaults:=[]}
def bj(s:Stmt):List Stmt:=match s with
 | .FunctionDef _ _ b _ _ _ _ _ _ _=>b
 | _=>[]
def aj(s:Stmt):Scope:=match s with
 | .FunctionDef _ _ _ _ _ _ sc _ _ _=>sc
 | _=>{kind:=.function,names:=[],isGenerator:=false,isCoroutine:=false}
abbrev CX0:CXT:=λ _ _ _ _ _ _=>False
abbrev E0:XK:=λ _ _ _=>False
theorem aip{X:Cx}:Passes CX0 X E0:=λ _ _ _ _ _ _ _ h=>h.elim
structure Fun(K:FG)(x qual:Str)(st:Stmt)(f:Addr)(fd:FuncData):Prop where
 ex:∃ (oc:Value) (od:Option Addr) (kV doc pm:Value) (an:Option Addr) (cdv ct:Value) (osl:Array (Option Value)),
  fd=W.fnOf x qual (bH st) (bj st) (aj st) .none kV doc pm an cdv ct/\K.lookup f=some ⟨oc,od,.func fd,osl⟩/\W.codeIn K cdv qual=true
 kp:W.keepIn K (.ref f)=true
section
variable {P:Program}{w:World}{K:FG}{mg:Str->Option Value}{base:Heap}
theorem Fun.ok{x qual:Str}{st:Stmt}{f:Addr}{fd:FuncData}{N ps:List Str}{k:Nat}{sp:Sp}(F:Fun K x qual st f fd)(S:aU N ps (aj st))(len:∀ vs H Q E,sp vs H Q E->vs.length=ps.length)
  (hbody:∀ (cdv:Value) (A:Around) (outer:List Env) (s:Shared) (H:Hp) (vs:List V) (Q:VK) (E:XK),eM k (A.deeper (envOfC qual (aj st) s.heap.objs.size f cdv))->sp vs H Q E ->
   ∃ t,PSs (sy CX0 P w K mg base N qual (aj st) f cdv A outer s H E).nox (bj st) t/\t {nx:=λ _ H'=>Q .non H',rt:=Q} (start N vs) H):cj P w K mg base CX0 (k+1) f fd ps sp:=by
 obtain⟨oc,od,kV,doc,pm,an,cdv,ct,osl,rfl,lk,hcd⟩:=F.ex;refine aay lk hcd S len λ A outer s H vs Q E hr hsp=>?_;obtain⟨t,h,q⟩:=hbody cdv A outer s H vs Q E hr hsp;exact⟨t,h.nox,q⟩
theorem Fun.binds{x qual:Str}{st:Stmt}{f:Addr}{fd:FuncData}{ps:List Str}(F:Fun K x qual st f fd)
  (h:∀ (kV doc pm:Value) (an:Option Addr) (cdv ct:Value) (us:List Value),us.length=ps.length->bindArgs (W.fnOf x qual (bH st) (bj st) (aj st) .none kV doc pm an cdv ct) ⟨us,[]⟩=pure (ps.zip us)):Binds K fd ps []:=by
 obtain⟨oc,od,kV,doc,pm,an,cdv,ct,osl,rfl,lk,hcd⟩:=F.ex;exact .all (h kV doc pm an cdv ct)
theorem abL{x qual:Str}{st:Stmt}{f:Addr}{oc:Value}{od an:Option Addr}{osl:Array (Option Value)}{kV doc pm cdv ct:Value}(l:K.lookup f=some ⟨oc,od,.func (W.fnOf x qual (bH st) (bj st) (aj st) .none kV doc pm an cdv ct),osl⟩)
  (c:W.codeIn K cdv qual=true)(k:W.keepIn K (.ref f)=true):Fun K x qual st f (W.fnOf x qual (bH st) (bj st) (aj st) .none kV doc pm an cdv ct):=⟨⟨oc,od,kV,doc,pm,an,cdv,ct,osl,rfl,l,c⟩,k⟩
end
theorem qE{A:Around}{k:Nat}(hr:eM k A):A.units+1<cLine:=Nat.lt_of_le_of_lt (Nat.add_le_add_left (by decide:1<=64) _) hr.units
section
variable {X:Cx}
end
theorem je{A B:Prop}(h:B):if false=true then A else B:=by rw[if_neg Bool.false_ne_true];exact h
theorem iL{A B:Prop}(h:A):if true=true then A else B:=by rw[if_pos rfl];exact h
section
variable {κ:Type}[DecidableEq κ]
def tq(kvs:List (κ×V))(k:κ):Option V:=(kvs.find? λ kv=>decide (kv.1=k)).map (·.2)
def putK(kvs:List (κ×V))(k:κ)(v:V):List (κ×V):=
 if (kvs.any λ kv=>decide (kv.1=k))=true then kvs.map (λ kv=>if kv.1=k then (kv.1,v) else kv) else kvs++[(k,v)]
theorem kj{p:κ×V}{r:List (κ×V)}{k:κ}(e:p.1=k):tq (p::r) k=some p.2:=by simp[tq,List.find?_cons,e]
theorem kh{p:κ×V}{r:List (κ×V)}{k:κ}(e:¬ p.1=k):tq (p::r) k=tq r k:=by simp[tq,List.find?_cons,e]
theorem tR(k:κ):∀ kvs:List (κ×V),(kvs.any λ kv=>decide (kv.1=k))=(tq kvs k).isSome
 | []=>rfl
 | p::r=>by
  rw[List.any_cons]
  by_cases e:p.1=k
  ·simp only[kj e,decide_eq_true e,Bool.true_or,Option.isSome_some]
  ·rw[kh e,decide_eq_false e,Bool.false_or];exact tR k r
theorem iH(kvs:List (κ×V))(k:κ)(v:V):(putK kvs k v).length<=kvs.length+1:=by
 unfold putK
 split
 ·rw[List.length_map];omega
 ·rw[List.length_append,List.length_cons,List.length_nil];omega
theorem uF.xl{o:Option V}{u:Option Value}(r:uF o u):o.isSome=u.isSome:=by
 cases o with
 | none=>cases u with
  | none=>rfl
  | some _=>exact(show False from r).elim
 | some _=>cases u with
  | none=>exact(show False from r).elim
  | some _=>rfl
theorem uF.getD{o:Option V}{u:Option Value}{d:V}{d':Value}(r:uF o u)(rd:RelV d d'):RelV (o.getD d) (u.getD d'):=by
 cases o with
 | none=>cases u with
  | none=>exact rd
  | some _=>exact(show False from r).elim
 | some _=>cases u with
  | none=>exact(show False from r).elim
  | some _=>exact r
theorem KV.val{kvs:List (κ×V)}{vs:List (κ×Value)}(r:KV kvs vs)(k:κ):uF (tq kvs k) (valueAt vs k):=by
 unfold KV at r
 induction r with
 | nil=>exact True.intro
 | @cons p q ps qs h t ih =>
  obtain⟨h1,h2⟩:=h
  by_cases e:p.1=k
  ·have e':q.1=k:=h1.symm.trans e;have b:valueAt (q::qs) k=some q.2:=by simp[valueAt,List.find?_cons,e']
   rw[kj e,b];exact h2
  ·have e':¬ q.1=k:=λ z=>e (h1.trans z);have b:valueAt (q::qs) k=valueAt qs k:=by simp[valueAt,List.find?_cons,e']
   rw[kh e,b];exact ih
theorem KV.any{kvs:List (κ×V)}{vs:List (κ×Value)}(r:KV kvs vs)(k:κ):(kvs.any λ kv=>decide (kv.1=k))=vs.any λ kv=>decide (kv.1=k):=by
 unfold KV at r
 induction r with
 | nil=>rfl
 | cons h t ih=>rw[List.any_cons,List.any_cons,ih,h.1]
theorem KV.aih{kvs:List (κ×V)}{vs:List (κ×Value)}(r:KV kvs vs)(k:κ){y:V}{u:Value}(ry:RelV y u) :
  KV (kvs.map λ kv=>if kv.1=k then (kv.1,y) else kv) (vs.map λ kv=>if kv.1=k then (kv.1,u) else kv):=by
 unfold KV at r ⊢
 induction r with
 | nil=>exact .nil
 | @cons p q ps qs h t ih =>
  rw[List.map_cons,List.map_cons];refine .cons ?_ ih;obtain⟨h1,h2⟩:=h
  by_cases e:p.1=k
  ·rw[if_pos e,if_pos (h1.symm.trans e)];exact⟨h1,ry⟩
  ·rw[if_neg e,if_neg (λ z=>e (h1.trans z))];exact⟨h1,h2⟩
theorem KV.put{kvs:List (κ×V)}{vs:List (κ×Value)}(r:KV kvs vs)(k:κ){y:V}{u:Value}(ry:RelV y u):KV (putK kvs k y) (stored vs k u):=by
 unfold putK stored;rw[r.any k]
 by_cases e:(vs.any λ kv=>decide (kv.1=k))=true
 ·rw[if_pos e,if_pos e];exact r.aih k ry
 ·rw[if_neg e,if_neg e];exact Paired.snoc r ⟨rfl,ry⟩
theorem KV.length{kvs:List (κ×V)}{vs:List (κ×Value)}(r:KV kvs vs):kvs.length=vs.length:=Paired.length r
end
theorem vb{P:Program}{w:World}{k:Key}{u:Value}(r:RelV (kV k) u):(bu P w).is k u=true:=by
 cases k with
 | inl i=>obtain⟨t,e⟩:=(show ∃ t,u=Value.int i t from r);subst e;exact rK P w i t
 | inr x=>obtain⟨t,e⟩:=(show ∃ t,u=Value.str x t from r);subst e;exact sE P w x t
theorem lB{P:Program}{w:World}:∀ {ks:List Key} {us:List Value},Vals (ks.map kV) us->ItemsAre (bu P w) ks us
 | [],_,r=>by rw[List.map_nil] at r;cases r;exact .nil
 | k::ks,_,r=>by
  rw[List.map_cons] at r;cases r with
  | cons h t=>exact .cons (vb h) (lB t)
abbrev KT(H:Hp):List (List Key×V)->List (List Key×Addr×Value)->Prop:=Paired λ p q=>p.1=q.1/\H q.2.1=some (.tup (p.1.map kV))/\RelV p.2 q.2.2
theorem KT.val{H:Hp}{kvs:List (List Key×V)}{xs:List (List Key×Addr×Value)}(r:KT H kvs xs)(k:List Key):uF (tq kvs k) ((atKey xs k).map (·.2)):=by
 induction r with
 | nil=>exact True.intro
 | @cons p q ps qs h t ih =>
  obtain⟨h1,_,h2⟩:=h
  by_cases e:p.1=k
  ·have e':q.1=k:=h1.symm.trans e;have b:atKey (q::qs) k=some q.2:=by simp[atKey,List.find?_cons,e']
   rw[kj e,b];exact h2
  ·have e':¬ q.1=k:=λ z=>e (h1.trans z);have b:atKey (q::qs) k=atKey qs k:=by simp[atKey,List.find?_cons,e']
   rw[kh e,b];exact ih
theorem KT.aih{H:Hp}{kvs:List (List Key×V)}{xs:List (List Key×Addr×Value)}(r:KT H kvs xs)(k:List Key){y:V}{u:Value}(ry:RelV y u) :
  KT H (kvs.map λ kv=>if kv.1=k then (kv.1,y) else kv) (xs.map (putAt k u)):=by
 induction r with
 | nil=>exact .nil
 | @cons p q ps qs h t ih =>
  rw[List.map_cons,List.map_cons];refine .cons ?_ ih;obtain⟨h1,h2,h3⟩:=h;unfold putAt
  by_cases e:p.1=k
  ·rw[if_pos e,if_pos (h1.symm.trans e)];exact⟨h1,h2,ry⟩
  ·rw[if_neg e,if_neg (λ z=>e (h1.trans z))];exact⟨h1,h2,h3⟩
theorem KT.put{H:Hp}{kvs:List (List Key×V)}{xs:List (List Key×Addr×Value)}(r:KT H kvs xs)(k:List Key){b:Addr}{y:V}{u:Value}(hb:H b=some (.tup (k.map kV)))(ry:RelV y u) :
  KT H (putK kvs k y) (storedH xs k b u):=by
 have e:(kvs.any λ kv=>decide (kv.1=k))=(atKey xs k).isSome:=by rw[tR,(r.val k).xl,Option.isSome_map]
 unfold putK storedH;rw[e]
 by_cases q:(atKey xs k).isSome=true
 ·rw[if_pos q,if_pos q];exact r.aih k ry
 ·rw[if_neg q,if_neg q];exact Paired.snoc r ⟨rfl,hb,ry⟩
theorem KT.keeps{H H':Hp}{kvs:List (List Key×V)}{xs:List (List Key×Addr×Value)}(r:KT H kvs xs)(ht:∀ b ys,H b=some (.tup ys)->H' b=some (.tup ys)):KT H' kvs xs:=
 Paired.jL r λ _ _ z=>⟨z.1,ht _ _ z.2.1,z.2.2⟩
section
variable {P:Program}{w:World}{H:Hp}{h:Heap}{a:Addr}
theorem afW{u:HO}(ok:HOk P w H h)(e:Rd H a u):cV P w H h a u:=e.ok ok
theorem rE{kvs:List (Key×V)}(ok:HOk P w H h)(e:Rd H a (.dK kvs)):kvs.length<=sizeLine/\(a==sysModules)=false/\∃ vs,KV kvs vs/\h.DictOf (bu P w) a vs:=
 show cV P w H h a (.dK kvs) from afW ok e
theorem afO{kvs:List (Key×V)}(ok:HOk P w H h)(e:H a=some (.dK kvs)):kvs.length<=sizeLine/\(a==sysModules)=false/\∃ vs,KV kvs vs/\h.DictOf (bu P w) a vs:=rE ok (.inl e)
theorem abA{ks:List Key}(ok:HOk P w H h)(e:H a=some (.tup (ks.map kV))):(tupleKind (bu P w)).is h ks a:=by obtain⟨_,its,r,o,h1,h2,_,n,h3⟩:=(show cV P w H h a (.tup (ks.map kV)) from ok a _ e);exact⟨o,its.toArray,n,h1,h2,h3,by simpa using lB r⟩
theorem acr{kvs:List (List Key×V)}(ok:HOk P w H h)(e:Rd H a (.dT kvs)):kvs.length<=sizeLine/\(a==sysModules)=false /\
  ∃ xs,KT H kvs xs/\h.DictOfH (tupleKind (bu P w)) a xs:=by
 obtain⟨z,y,xs,r,o,es,ep,h1,h2,h3,h4,h5⟩:=(show cV P w H h a (.dT kvs) from afW ok e);refine⟨z,y,xs,r,o,es,ep,h1,h2,h3,h4,λ x hx=>?_,h5⟩;have all:∀ {l:List (List Key×V)} {m:List (List Key×Addr×Value)},KT H l m->∀ x∈m,(tupleKind (bu P w)).is h x.1 x.2.1:=by
  intro l m q
  induction q with
  | nil=>intro x hx;exact nomatch hx
  | @cons p q ps qs hq t ih =>
   intro x hx;rcases List.mem_cons.mp hx with e | hx
   ·subst e;exact abA ok (by rw[<- hq.1];exact hq.2.1)
   ·exact ih x hx
 exact all r x hx
theorem ah7{kvs:List (List Key×V)}(ok:HOk P w H h)(e:H a=some (.dT kvs)):kvs.length<=sizeLine/\(a==sysModules)=false /\
  ∃ xs,KT H kvs xs/\h.DictOfH (tupleKind (bu P w)) a xs:=acr ok (.inl e)
end
def ahv(H:Hp)(a:Addr)(y v:V)(H':Hp):Prop:=
 (∃ kvs k,H a=some (.dK kvs)/\y=kV k/\kvs.length<sizeLine/\H'=upd H a (.dK (putK kvs k v))) \/
 ∃ kvs k b,H a=some (.dT kvs)/\y=.ref b/\H b=some (.tup (k.map kV))/\kvs.length<sizeLine/\H'=upd H a (.dT (putK kvs k v))
section
variable {X:Cx}{pins:PN}{σ:St}{H:Hp}{s:Shared}{a:Addr}{y v:V}{u r:Value}{o:Option V}{A:Around}{E:VP}
theorem Inv.big(I:Inv X pins σ H s):sysModules<s.heap.objs.size:=by have h:mainGlobals<s.heap.objs.size:=(I.mod.glob.keeps I.bk).lt;exact Nat.lt_trans (by decide) h
theorem rC{h':Heap}{t':Nat}{ob:HO}(I:Inv X pins σ H s)(mu:Mut (H a))(hs:Heap.SameBut a s.heap h')(he:∃ q,h'.get? a=some q)(new:cV X.prog X.w (upd H a ob) h' a ob) :
  Inv X pins σ (upd H a ob) {s with heap:=h',toks:=t'}:=
 I.write (x:=a) (e:=a) mu (.inl rfl) (λ b q hb z=>(hs.2 b hb).trans z) he new
theorem tH{P:Program}{w:World}{H':Hp}{h':Heap}{kvs:List (Key×V)}{vs:List (Key×Value)}(z:kvs.length<=sizeLine)(hd:(a==sysModules)=false)(rel:KV kvs vs)(dd:h'.DictOf (bu P w) a vs) :
  cV P w H' h' a (.dK kvs):=⟨z,hd,vs,rel,dd⟩
theorem pQ{H':Hp}{Q:Unit->Shared->Prop}(hu:A.units+1<cLine)(I:Inv X pins σ H s)(g:ahv H a y v H')(ry:RelV y u)(rv:RelV v r)(h:∀ s',Inv X pins σ H' s'->Q () s') :
  wpAny (model X.prog X.w) A (setItem (.ref a) u r) Q E s:=by
 rcases g with ⟨kvs,k,e,ey,l,eH⟩ | ⟨kvs,k,b,e,ey,eb,l,eH⟩
 ·subst ey eH;obtain⟨z,hd,vs,rel,dd⟩:=afO I.hok e;have hz:vs.length<=sizeLine:=by rw[<- rel.length];exact z
  have hl:(putK kvs k v).length<=sizeLine:=by have:=iH kvs k v;omega
  refine wpAny_setItem_pairs (hsz:=hz) (vb ry) dd λ h' dd' hs=>h _ ?_;have he:∃ q,h'.get? a=some q:=let ⟨q,_,_,hq,_⟩:=dd'; ⟨q,hq⟩;exact rC I (by rw[e];exact True.intro) hs he (tH hl hd (rel.put k rv) dd')
 ·subst ey eH;cases (show u=Value.ref b from ry);obtain⟨z,hd,xs,rel,dd⟩:=ah7 I.hok e;have hz:xs.length<=sizeLine:=by rw[<- Paired.length rel];exact z
  have hl:(putK kvs k v).length<=sizeLine:=by have:=iH kvs k v;omega
  refine wpAny_setItem_heap (hsz:=hz) (tupleKind_room_in1 hu) (abA I.hok eb) dd λ h' dd' hs=>h _ ?_;obtain⟨q,es,ep,hq,h2,h3,h4,_,h5⟩:=dd';refine rC I (by rw[e];exact True.intro) hs ⟨q,hq⟩ ⟨hl,hd,_,(rel.put k eb rv).keeps λ c ys ec=>?_,q,es,ep,hq,h2,h3,h4,h5⟩;rw[ao (vp ec e (λ z=>nomatch z))];exact ec
end
section
variable {X:Cx}{pins:PN}{σ:St}{H:Hp}{s:Shared}{a:Addr}{kvs:List (Key×V)}{k:Key}{u:Value}{A:Around}{E:VP}
end
def ahl(i:Expr):Prop:=∀ ov iv,subscripted i false ov iv=operate [ov,iv] (getItem ov iv)
theorem acS{prog:Program}{w:World}{A:Around}{E:VP}{s:Shared}{env:Env}{value slice:Expr}{pos:Pos}{T id:String}{Q:VP}
  (hl:typeLookup (.type T) "__getitem__" = pure (some (.builtin id)))(hs:ahl slice)
  (h:wpAny (model prog w) A (eval value env) (λ o s₁=>wpAny (model prog w) A (eval slice env) (λ i s₂=>s₂.TypeIs o T/\wpAny (model prog w) A (getItem o i) Q E s₂) E s₁) E s) :
  wpAny (model prog w) A (eval (.Subscript value slice pos) env) Q E s:=by
 refine Subscript_ (wpAny_mono h (λ o s₁ h₁=>wpAny_mono h₁ (λ i s₂ h₂=>?_) λ _ _ x=>x) λ _ _ x=>x);obtain⟨hT,h₂⟩:=h₂;unfold subscriptTail;refine wpAny_bind ?_;rw[getitemInPython_of_ne hT.not_modules];refine wpAny_bind (wpAny_specialOf hT hl ?_);have fin:wpAny (model prog w) A (subscripted slice false o i) (λ r s₃=>wpAny (model prog w) A (letTemporaryGo value o r >>= λ _=>pure r) Q E s₃) E s₂:=by rw[hs o i];exact wpAny_operating (wpAny_mono h₂ (λ r s₃ h₃=>wpAny_bind (wpAny_letTemporaryGo (wpAny_pure h₃))) λ _ _ x=>x)
 first
  | exact wpAny_pure (wpAny_bind fin)
  | exact wpAny_bind (wpAny_pure (wpAny_bind fin))
  | exact wpAny_bind fin
def ail(td ty tv:TE):TS:=λ D σ H=>tv σ H λ v H1=>td σ H1 λ x H2=>ty σ H2 λ y H3=>∃ a H4,x=.ref a/\ahv H3 a y v H4/\D.nx σ H4
section
variable {X:Cx}{o i e value:Expr}{pos pos' tpos:Pos}{td ty tv:TE}
theorem acU(hu:X.A.units+1<cLine)(ho:PE X o td)(hi:PE X i ty)(hv:PE X value tv)(hs:swapsWith value (some (.Subscript o i pos')) pos.line X.env=pure false) :
  PS X (.Assign [.Subscript o i pos'] value pos) (ail td ty tv):=by
 intro pins s σ H D I h;refine wpAny_Assign_Subscript (thn (hv pins s σ H _ I h) λ r s1 ⟨v,H1,I1,rv,q1⟩=>thn (ho pins s1 σ H1 _ I1 q1) λ u s2 ⟨x,H2,I2,rx,q2⟩=>thn (hi pins s2 σ H2 _ I2 q2) λ iv s3 ⟨y,H3,I3,ry,a,H4,ex,g,q3⟩=>?_) hs;subst ex;obtain rfl:u=Value.ref a:=rx;exact pQ hu I3 g ry rv λ s4 I4=>⟨σ,H4,I4,q3⟩
end
theorem nL{P:Program}{w:World}{H:Hp}(h:Heap)(hb:sysModules<h.objs.size):cV P w H (h.push {cls:=.type "dict",data:=.dict #[]}) h.objs.size (.dK []):=
 ⟨Nat.zero_le _,beq_eq_false_iff_ne.mpr (Ne.symm (Nat.ne_of_lt hb)),[],.nil,Heap.DictOf.new h⟩
def afG:TE:=λ _ H Q=>∀ p,H p=none->Q (.ref p) (upd H p (.dK []))
section
variable {X:Cx}{pos:Pos}
theorem sX:PE X (.Dict [] [] pos) afG:=λ pins s σ H Q I h =>
 wpAny_Dict_empty ⟨.ref s.heap.objs.size,_,I.laid (a:=s.heap.objs.size) (o:=.dK []) (t':=s.toks) (λ _ _ q=>Heap.get?_push_of_some _ q) (Nat.le_refl _) (nL s.heap I.big),rfl,h _ (I.hok.fresh (Nat.le_refl _))⟩
end
structure M2(X:Cx)(o:Expr)(m:Str)(apos:Pos)(e f:Expr)(cpos:Pos):Prop where
 base:attributeBase o m X.env (eval o X.env)=eval o X.env
 few:((backTo cpos (starEach [e,f] X.env)).all (λ x=>!x.1)&&(backToKw cpos (keywordEach [] X.env)).all (λ x=>x.1.isSome)
  && decide (([e,f]:List Expr).length+([]:List Keyword).length+(if ([]:List Keyword).isEmpty then 0 else 1)<30))=true
 line:(apos.endLine==cpos.line)=true
 trees:backTo cpos (starEach [e,f] X.env)=[(false,eval e X.env),(false,eval f X.env)]
def IsD(H:Hp)(a:Addr):Prop:=(∃ kvs,Rd H a (.dK kvs))\/∃ kvs,Rd H a (.dT kvs)
theorem af8{X:Cx}{pins:PN}{σ:St}{H:Hp}{s:Shared}{a:Addr}(I:Inv X pins σ H s)(d:IsD H a) :
  s.TypeIs (.ref a) "dict" /\ (∀ b,Value.ref a=.ref b->∃ ob,s.heap.get? b=some ob/\ob.dict=none)/\(a==sysModules)=false:=by
 rcases d with ⟨kvs,e⟩ | ⟨kvs,e⟩
 ·obtain⟨_,hd,vs,_,dd⟩:=rE I.hok e;refine⟨dd.typeIs,λ b q=>?_,hd⟩;cases q;obtain⟨ob,_,_,h1,h2,_⟩:=dd;exact⟨ob,h1,h2.2.1⟩
 ·obtain⟨_,hd,xs,_,dd⟩:=acr I.hok e;refine⟨dd.typeIs,λ b q=>?_,hd⟩;cases q;obtain⟨ob,_,_,h1,h2,_⟩:=dd;exact⟨ob,h1,h2.2.1⟩
section
variable {X:Cx}{pins:PN}{σ:St}{H:Hp}{s:Shared}{a:Addr}{y d:V}{u r:Value}{o:Option V}{A:Around}{E:VP}
end
section
variable {X:Cx}{o e f:Expr}{apos cpos:Pos}{td ty tx:TE}
end
section
variable {X:Cx}{pins:PN}{σ:St}{H:Hp}{s:Shared}{a:Addr}{kvs:List (Key×V)}{A:Around}{E:VP}
theorem aaE{Q:VP}(I:Inv X pins σ H s)(e:Rd H a (.dK kvs))(h:∀ p s',H p=none->Inv X pins σ (upd H p (.dK kvs)) s'->Q (.ref p) s'):wpAny (model X.prog X.w) A (call (.type "dict") [.ref a]) Q E s:=by obtain⟨z,hd,vs,rel,dd⟩:=rE I.hok e;refine kt_call_dict hd dd (by rw[<- rel.length];exact z) λ h' dd' hs=>?_;refine h _ _ (I.hok.fresh (Nat.le_refl _)) (I.laid (a:=s.heap.objs.size) (o:=.dK kvs) (t':=s.toks) (λ b q hq=>?_) (Nat.le_refl _) (tH z (beq_eq_false_iff_ne.mpr (Ne.symm (Nat.ne_of_lt I.big))) rel dd'));exact(hs.2 b (Nat.ne_of_lt (Heap.lt_size hq))).trans (Heap.get?_push_of_some _ hq)
end
section
variable {X:Cx}{pins:PN}{σ:St}{H:Hp}{s:Shared}{a:Addr}{y:V}{u:Value}{A:Around}{E:VP}
end
end L2
set_option maxHeartbeats 0
namespace L2
def Fz:HO->Prop
 | .lst _=>True
 | .dK _=>True
 | _=>False
theorem agZ(e:H p=some u)(f:Fz u):Un fs ex H (upd H p (.frz o u)) h h where
 keep:=λ b ob q _ _ _=>q
 slot:=λ b ob q _ _ _=>⟨ob.slots,q⟩
 free:=λ b ob _ n _=>by rw[ao (Ne.symm (aV e n))];exact n
 there:=λ b ob q _=>⟨ob,q⟩
 mS:=λ b xs q=>by
  have:b≠p:=λ z=>by subst z;rw[e] at q;cases q;exact f
  rw[ao this];exact q
 frzs:=λ b ob v q=>by
  have:b≠p:=λ z=>by subst z;rw[e] at q;cases q;exact f
  rw[ao this];exact q
 tbls:=λ b ps q=>by
  have:b≠p:=λ z=>by subst z;rw[e] at q;cases q;exact f
  exact⟨#[],by rw[ao this,q];simp⟩
theorem cV.ah0(f:Fz u)(x:cV P w H h a u):cV P w H' h a u:=by
 cases u with
 | lst xs=>exact x
 | dK kvs=>exact x
 | _=>exact f.elim
theorem cV.obj(f:Fz u)(x:cV P w H h a u):∃ o,h.get? a=some o:=by
 cases u with
 | lst xs=>obtain⟨_,_,_,_,e⟩:=x;exact⟨_,e⟩
 | dK kvs=>obtain⟨_,_,_,_,o,_,_,e,_⟩:=x;exact⟨o,e⟩
 | _=>exact f.elim
theorem Inv.freeze(I:Inv X pins σ H s)(e:H p=some u)(f:Fz u):∃ o,Inv X pins σ (upd H p (.frz o u)) s:=by
 obtain⟨o,ho⟩:=(I.hok p u e).obj f;refine⟨o,I.un (h':=s.heap) (t':=s.toks) (agZ e f) λ b v q=>?_⟩
 by_cases hb:b=p
 ·subst hb;rw[ar] at q;cases q;exact⟨ho,(I.hok b u e).ah0 f⟩
 ·rw[ao hb] at q;refine(I.hok b v q).oO (λ _ _ _ q=>q) (λ c r=>?_) λ c xs r=>?_
  ·have:c≠p:=λ z=>by subst z;rw[e] at r;cases r;exact f
   rw[ao this];exact r
  ·have:c≠p:=λ z=>by subst z;rw[e] at r;cases r;exact f
   rw[ao this];exact r
def aiW(t:TE):TE:=λ σ H Q=>t σ H λ v H1=>∃ p u,v=.ref p/\H1 p=some u/\Fz u/\∀ o,Q v (upd H1 p (.frz o u))
theorem oS(h:PE X e t):PE X e (aiW t):=by intro pins s σ H Q I hq;refine thn (h pins s σ H _ I hq) λ v s1 hq28=>?_;obtain⟨x,H1,I1,r1,p,u,e1,e2,f,q⟩:=hq28;obtain⟨o,I2⟩:=I1.freeze e2 f;exact⟨x,_,I2,r1,q o⟩
theorem Inv.acO(I:Inv X pins σ H s)(e:s.heap.get? D=some {cls:=.type "list",data:=.seq us.toArray n})(hn:H D=none)(hv:Vals ys us)(hz:ys.length<=sizeLine)
  (h0:X.s₀.heap.objs.size<=D)(hL:D≠X.env.locals)(hc:∀ x c,X.env.cells.lookup x=some c->c≠D)(hp:∀ p∈X.pn++pins,p.1≠D):Inv X pins σ (upd H D (.lst ys)) s:=by
 have ne:∀ b u,H b=some u->b≠D:=λ b u q=>aV q hn;refine I.step (h':=s.heap) (g':=s.gens) (d':=s.drawn) (t':=s.toks) (ch:=[D]) (λ b hb=>?_) (λ b o _ _ _ q _=>q) (λ b o _ _ _ q _=>⟨o.slots,q⟩) (λ b o hb q n=>?_) (λ b o _ q=>⟨o,q⟩)
  (λ b xs q=>by rw[ao (ne b _ q)];exact q) (λ b o u q=>by rw[ao (ne b _ q)];exact q) (λ b ps q=>⟨#[],by rw[ao (ne b _ q),q];simp⟩) (λ m hm=>hm) (λ b u q=>?_) I.bare
 ·have e:b=D:=by simpa using hb
  subst e;exact⟨.inr h0,hL,hc,hp⟩
 ·rw[ao (λ z=>hb (by simp[z]))];exact n
 ·by_cases hb:b=D
  ·subst hb;rw[ar] at q;cases q;exact⟨hz,us,n,hv,e⟩
  ·rw[ao hb] at q;exact(I.hok b u q).oO (λ _ _ _ q=>q) (λ c r=>by rw[ao (ne c _ r)];exact r) λ c xs r=>by rw[ao (ne c _ r)];exact r
abbrev rO(ifs:List Expr)(env:Env):Sem Bool:=forIn ifs true λ c r=>if r=true then do let ok <- isTrue c env (eval c env);pure (ForInStep.yield ok) else pure (ForInStep.yield r)
theorem qd(I:Nat->Shared->Prop)
  (turn:∀ n s,I n s->wpAny (model prog w) A (pyNext it) (λ r s₁=>match r with
   | none=>R (.ok .next) s₁
   | some v=>wpAny (model prog w) A (letOwnedTupleGo target it v) (λ _ s₁'=>wpAny (model prog w) A (assign target env v) (λ _ s₂ =>
     wpAny (model prog w) A (rO ifs env) (λ ok s₃ =>
      if ok=true then wpAny (model prog w) A (eval elt env) (λ x s₄ =>
       wpAny (model prog w) A (call (.builtin "list.append") [acc,x]) (λ _ s₅=>∃ m,m<n/\I m s₅) (λ _ _=>False) s₄) (λ _ _=>False) s₃
      else ∃ m,m<n/\I m s₃) (λ _ _=>False) s₂) (λ _ _=>False) s₁') (λ _ _=>False) s₁) (λ _ _=>False) s)
  (n:Nat)(h:I n s) :
  codeAny (model prog w) A (.compLoop (.ListComp elt [⟨target,iter,ifs,0⟩] scope pos) 0 it acc env) R s:=by
 refine codeAny_loop rfl I (λ n s hI=>?_) n h;show wpAny _ A ((compTurn (.ListComp elt [⟨target,iter,ifs,0⟩] scope pos) 0 it acc env).onRaise (λ x=>do noteFrame x env;theTreesLotGoes x)) _ _ s;refine wpAny_noted ?_;rw[compTurn_list];refine wpAny_bind (wpAny_standAt (wpAny_bind (wpAny_mono (turn n s hI) (λ r s₁ h₁=>?_) λ _ _ h'=>h'.elim)));cases r with
 | none=>exact wpAny_pure h₁
 | some v =>
  refine wpAny_bind (wpAny_mono h₁ (λ _ s₁' h₁'=>?_) λ _ _ h'=>h'.elim);refine wpAny_bind (wpAny_mono h₁' (λ _ s₂ h₂=>wpAny_bind (wpAny_mono h₂ (λ ok s₃ h₃=>?_) λ _ _ h'=>h'.elim)) λ _ _ h'=>h'.elim);cases ok with
  | false=>exact wpAny_pure ⟨rfl,h₃⟩
  | true =>
   exact wpAny_bind (wpAny_bind (wpAny_mono h₃ (λ x s₄ h₄=>wpAny_bind (wpAny_mono h₄ (λ _ s₅ h₅=>wpAny_pure (wpAny_pure ⟨rfl,h₅⟩)) λ _ _ h'=>h'.elim)) λ _ _ h'=>h'.elim))
theorem jV(h:∀ x∈scope.names,x.2=.free->∃ c,env.cells.lookup x.1=some c) :
  ∃ cl,closureFor scope env=pure cl/\(∀ n c,cl.lookup n=some c->env.cells.lookup n=some c)/\(∀ n,(n,NameKind.free)∈scope.names->∃ c,cl.lookup n=some c):=by
 have key:∀ (l:List (Str×NameKind)) (cs:List (Str×Addr)),(∀ x∈l,x.2=.free->∃ c,env.cells.lookup x.1=some c)->(∀ n c,cs.lookup n=some c->env.cells.lookup n=some c) ->
   ∃ cl:List (Str×Addr),(forIn l cs λ x r=>match x with
    | (name,kind)=>if (kind==NameKind.free)=true then do let a <- cellOf env name;pure (ForInStep.yield ((name,a)::r)) else pure (ForInStep.yield r):Sem (List (Str×Addr)))=pure cl /\
    (∀ n c,cl.lookup n=some c->env.cells.lookup n=some c)/\(∀ n c,cs.lookup n=some c->∃ c,cl.lookup n=some c)/\(∀ n,(n,NameKind.free)∈l->∃ c,cl.lookup n=some c):=by
  intro l
  induction l with
  | nil=>intro cs _ hc;exact⟨cs,rfl,hc,λ n c e=>⟨c,e⟩,λ n hn=>nomatch hn⟩
  | cons x l ih =>
   intro cs hl hc;obtain⟨name,kind⟩:=x
   by_cases hk:kind=.free
   ·subst hk;obtain⟨c,e⟩:=hl (name,.free) List.mem_cons_self rfl;obtain⟨cl,h1,h2,h3,h4⟩:=ih ((name,c)::cs) (λ y hy=>hl y (List.mem_cons_of_mem _ hy)) (λ n d q=>by
     rw[List.lookup_cons] at q;cases hb:n==name with
     | true =>
      rw[hb] at q;cases q;rw[eq_of_beq hb];exact e
     | false =>
      rw[hb] at q;exact hc n d q)
    refine⟨cl,?_,h2,λ n d q=>?_,λ n hn=>?_⟩
    ·rw[List.forIn_cons];simp only[beq_self_eq_true,if_true,cellOf,e,pure_bind];exact h1
    ·cases hb:n==name with
     | true=>exact h3 n c (by rw[List.lookup_cons,hb])
     | false=>exact h3 n d (by rw[List.lookup_cons,hb];exact q)
    ·rcases List.mem_cons.mp hn with z | z
     ·cases z;exact h3 name c (by rw[List.lookup_cons];simp)
     ·exact h4 n z
   ·obtain⟨cl,h1,h2,h3,h4⟩:=ih cs (λ y hy=>hl y (List.mem_cons_of_mem _ hy)) hc;refine⟨cl,?_,h2,h3,λ n hn=>?_⟩
    ·rw[List.forIn_cons];have:(kind==NameKind.free)=false:=by simpa using hk
     simp only[this,Bool.false_eq_true,if_false,pure_bind];exact h1
    ·rcases List.mem_cons.mp hn with z | z
     ·cases z;exact absurd rfl hk
     ·exact h4 n z
 obtain⟨cl,h1,h2,_,h4⟩:=key scope.names [] h (λ n c e=>by simp at e);refine⟨cl,?_,h2,h4⟩;unfold closureFor;simp only[bind_pure];exact h1
theorem jI{sc:Scope}{env:Env}{x:Str}:∀ {names:List (Str×NameKind)},(names.map λ(n,k)=>if (k==NameKind.free&&env.scope.kind==.function&&env.kindOf n==some .cell) then (n,NameKind.cell) else (n,k)).lookup x=some .cell \/
  (names.map λ(n,k)=>if (k==NameKind.free&&env.scope.kind==.function&&env.kindOf n==some .cell) then (n,NameKind.cell) else (n,k)).lookup x=some .free->(∀ y∈names,y.2 ≠ .cell)->(x,NameKind.free)∈names
 | [],h,_=>by simp at h
 | (n,k)::r,h,hc=>by
  have ih:=@jI sc env x r
  by_cases hk:(k==NameKind.free&&env.scope.kind==.function&&env.kindOf n==some .cell)=true
  ·simp only[List.map_cons,if_pos hk,List.lookup_cons] at h;cases hx:x==n with
   | true =>
    have e:=eq_of_beq hx;subst e;simp only[Bool.and_eq_true] at hk;have:=eq_of_beq hk.1.1;subst this;exact List.mem_cons_self
   | false =>
    rw[hx] at h;exact List.mem_cons_of_mem _ (ih h λ y hy=>hc y (List.mem_cons_of_mem _ hy))
  ·simp only[List.map_cons,if_neg hk,List.lookup_cons] at h;cases hx:x==n with
   | true =>
    rw[hx] at h;have e:=eq_of_beq hx;subst e;rcases h with h | h
    ·cases h;exact absurd rfl (hc (x,.cell) List.mem_cons_self)
    ·cases h;exact List.mem_cons_self
   | false =>
    rw[hx] at h;exact List.mem_cons_of_mem _ (ih h λ y hy=>hc y (List.mem_cons_of_mem _ hy))
theorem eR{env:Env}{x:Str}:∀ {names:List (Str×NameKind)},names.lookup x=some .free ->
  (names.map λ(n,k)=>if (k==NameKind.free&&env.scope.kind==.function&&env.kindOf n==some .cell) then (n,NameKind.cell) else (n,k)).lookup x=some .cell \/
  (names.map λ(n,k)=>if (k==NameKind.free&&env.scope.kind==.function&&env.kindOf n==some .cell) then (n,NameKind.cell) else (n,k)).lookup x=some .free
 | [],h=>by simp at h
 | (n,k)::r,h=>by
  have ih:=@eR env x r
  by_cases hk:(k==NameKind.free&&env.scope.kind==.function&&env.kindOf n==some .cell)=true
  ·simp only[List.map_cons,if_pos hk,List.lookup_cons];cases hx:x==n with
   | true=>exact .inl rfl
   | false=>rw[List.lookup_cons,hx] at h;exact ih h
  ·simp only[List.map_cons,if_neg hk,List.lookup_cons];cases hx:x==n with
   | true=>rw[List.lookup_cons,hx] at h;exact .inr h
   | false=>rw[List.lookup_cons,hx] at h;exact ih h
def blk(X:Cx)(sc:Scope)(N':List Str)(cl:List (Str×Addr))(C:Addr)(s:Shared)(H:Hp)(ex:List Addr)(pins:PN):Cx:=
 {X with N:=N',s₀:=s,H₀:=H,env:=compEnvC sc cl C X.env,outer:=X.stack,ex:=ex,fn:=λ _=>false,pn:=X.pn++pins,xe:=λ _ _=>False}
def lcN(X:Cx)(own:List Str)(fr:List Nat):List Str:=own++fr.map λ j=>X.N.getD j Str.empty
def lcS(k:Nat)(fr:List Nat)(σ:St):St:=List.replicate k none++fr.map λ j=>(σ[j]?).getD none
def afN(N:List Str)(sc:Scope)(fr:List Nat):Bool:=fr.all λ j=>match N[j]? with
 | some x=>sc.names.lookup x==some .free
 | none=>false
structure qj(X:Cx)(sc:Scope)(own:List Str)(fr:List Nat):Prop where
 kind:sc.kind=.function
 cell:∀ y∈sc.names,y.2 ≠ .cell
 free:∀ y∈sc.names,y.2=.free->(X.env.kindOf y.1=some .cell\/X.env.kindOf y.1=some .free)
 names:∀ y∈sc.names,y.2=.local->sc.names.lookup y.1=some .local
 fr:afN X.N sc fr=true
def PTs(X:Cx)(ifs:List Expr)(t:TT):Prop:=
 ∀ (pins:PN) (s:Shared) (σ:St) (H:Hp) (Q:Bool->Hp->Prop),Inv X pins σ H s->t σ H Q->wpAny (model X.prog X.w) X.A (rO ifs X.env) (TP X pins σ Q) X.xe s
def ajr:TT:=λ _ H Q=>Q true H
theorem ac6:PTs X [] ajr:=λ _ _ _ H _ I h=>wpAny_tests_nil ⟨H,I,h⟩
theorem acn(h:PT X c t):PTs X [c] t:=λ pins s σ H Q I q=>wpAny_tests_one (h pins s σ H Q I q)
theorem tW(h:afN N sc fr=true)(hj:j∈fr):∃ x,N[j]? =some x/\sc.names.lookup x=some .free:=by
 have q:=List.all_eq_true.mp h j hj;cases e:N[j]? with
 | none=>simp[e] at q
 | some x =>
  simp only[e] at q;exact⟨x,rfl,eq_of_beq q⟩
theorem agw(L:qj X sc own fr)(I:Inv X pins σ H s)(hf:∀ b∈fp,jg X pins H b)(hb:∀ b∈fp,b<s.heap.objs.size)(hC:s.heap.objs.size<=C)
  (c1:∀ n c,cl.lookup n=some c->X.env.cells.lookup n=some c)(c2:∀ n,(n,NameKind.free)∈sc.names->∃ c,cl.lookup n=some c):(blk X sc (lcN X own fr) cl C s H fp pins).Ok where
 mod:=I.ok.mod
 kind:=L.kind
 glob:=I.ok.glob
 blt:=I.ok.blt
 above:=hC
 inj:=λ x y c a b=>I.ok.inj x y c (c1 _ _ a) (c1 _ _ b)
 has:=λ x hx=>c2 x (jI (sc:=sc) (env:=X.env) hx L.cell)
 cab:=λ x c z=>absurd (show false=true from z) Bool.false_ne_true
 hd:=I.ok.hd
 frames:=I.ok.frames
 stk:=.inl rfl
 exf:=λ b z=>⟨Nat.ne_of_lt (Nat.lt_of_lt_of_le (hb b z) hC),λ x c e=>(hf b z).2.2.2.2.1 x c (c1 _ _ e)⟩
 bs:=I.bs
 bsz:=Nat.le_trans I.ok.bsz I.sz
 noex:=λ b o e z=>by
  rcases(hf b z).2.2.2.1 with q | q
  ·exact I.ok.noex b o e q
  ·exact absurd (Nat.lt_of_lt_of_le (Heap.lt_size e) (Nat.le_trans I.ok.bsz q)) (Nat.lt_irrefl _)
 exfs:=λ b z q=>by
  rcases List.mem_cons.mp (I.jR b q) with e | e
  ·exact(hf b z).2.1 e
  ·exact(hf b z).2.2.1 e
 nS:=I.stack
 frf:=I.nI
theorem yU(L:qj X sc own fr)(I:Inv X pins σ H s)(hf:∀ b∈fp,jg X pins H b)(hb:∀ b∈fp,b<s.heap.objs.size)(hC:s.heap.objs.size<=C)
  (c1:∀ n c,cl.lookup n=some c->X.env.cells.lookup n=some c)(c2:∀ n,(n,NameKind.free)∈sc.names->∃ c,cl.lookup n=some c)
(hn:h1.Ns C m) (k:∀ b o,s.heap.get? b=some o->h1.get? b=some o) :
  Inv (blk X sc (lcN X own fr) cl C s H fp pins) [] (lcS own.length fr σ) H {s with heap:=h1,toks:=tk}:=by
 have ok:=agw L I hf hb hC c1 c2;refine⟨ok,rfl,I.bare,Un.kept k,⟨m,hn,λ i x v e1 e2 e3=>?_⟩,λ x c e=>?_,I.hok.fresh hC,λ x c e=>I.freeC x c (c1 _ _ e),λ p hp=>?_,I.hok.kept k,?_⟩
 ·-- one of the names around
  have hi:¬ i<own.length:=λ hi=>by
   unfold lcS at e2;rw[List.getElem?_append_left (by simpa using hi),List.getElem?_replicate] at e2
   split at e2<;>cases e2
  have e1':(lcN X own fr)[i]? =some x:=e1;unfold lcN at e1';unfold lcS at e2;rw[List.getElem?_append_right (by omega),List.getElem?_map] at e1';rw[List.getElem?_append_right (by simpa using hi),List.getElem?_map,List.length_replicate] at e2;cases q:fr[i-own.length]? with
  | none=>rw[q] at e1';cases e1'
  | some j =>
   rw[q] at e1' e2;obtain⟨y,hy,hyf⟩:=tW L.fr (List.mem_of_getElem? q);have ex:y=x:=by have:=Option.some.inj e1';rw[<- this];simp[List.getD,hy]
   subst ex;have ev:σ[j]? =some (some v):=by
    have z:(σ[j]?).getD none=some v:=Option.some.inj e2;cases w:σ[j]? with
    | none=>rw[w] at z;cases z
    | some o=>rw[w] at z;exact congrArg some z
   have hm:(y,NameKind.free)∈sc.names:=PySem.mem_of_lookup hyf;have hk:=L.free _ hm rfl;have vis:Vis X.env.scope y:=by
    rcases hk with z | z
    ·exact .inr (.inl z)
    ·exact .inr (.inr z)
   obtain⟨m0,hn0,hl⟩:=I.loc;obtain⟨u,r,l⟩:=hl j y v hy ev vis;refine⟨u,r,.inr ⟨?_,?_⟩⟩
   ·exact eR (env:=X.env) hyf
   ·obtain⟨c,hc⟩:=c2 y hm;rcases l with ⟨z,_⟩ | ⟨_,c',hc',hcell⟩
    ·rcases hk with q | q
     ·exact absurd (show X.env.kindOf y=some .local from z) (by rw[q];decide)
     ·exact absurd (show X.env.kindOf y=some .local from z) (by rw[q];decide)
    ·have:c=c':=Option.some.inj ((c1 _ _ hc).symm.trans hc');subst this;obtain⟨o,ho,hd⟩:=hcell;exact⟨c,hc,o,k _ _ ho,hd⟩
 ·obtain⟨v,o,ho,hd⟩:=I.cell x c (c1 _ _ e);exact⟨v,o,k _ _ ho,hd⟩
 ·have hp':p∈X.pn++pins:=by simpa [blk] using hp
  obtain⟨a1,a2,a3,a4,a5⟩:=I.pin p hp';refine⟨k _ _ a1,a2,Nat.ne_of_lt (Nat.lt_of_lt_of_le (Heap.lt_size a1) hC),λ q=>?_,a5⟩;rcases List.mem_cons.mp (I.jR _ q) with e | e
  ·exact a3 e
  ·exact a4 e
 ·show(lcS own.length fr σ).length=(lcN X own fr).length;simp[lcS,lcN]
abbrev LcW:=Nat->Nat->List V->St->Hp->Prop
def ab4(J:It)(g:TG)(tt:TT)(te:TE)(W:LcW)(Fin:List V->Hp->Prop):Prop:=∀ i m ys τ H,W i m ys τ H ->
 (J.stop i H/\Fin ys H)\/(J.go i H/\ys.length<sizeLine/\∀ x H',J.yld i H x H'->g x τ H' λ τ2 H2=>tt τ2 H2 λ b H3 =>
  if b=true then te τ2 H3 λ y H4=>∃ m',m'<m/\W (i+1) m' (ys++[y]) τ2 H4 else ∃ m',m'<m/\W (i+1) m' ys τ2 H3)
section
variable {X:Cx}{pins:PN}{σ:St}{H:Hp}{s:Shared}{sc:Scope}{own:List Str}{fr:List Nat}{cl:List (Str×Addr)}{fp:List Addr}{it:Addr}{J:It}{tn:Nat->Heap->Prop}{g:TG}{tt:TT}{te:TE}{W:LcW}{Fin:List V->Hp->Prop}
 {elt tg iter:Expr}{ifs:List Expr}{pos:Pos}{E:VP}
theorem adk{RR:Value->Addr->Result->Shared->Prop}(hc:X.calm=true)(L:qj X sc own fr)(hcl1:∀ n c,cl.lookup n=some c->X.env.cells.lookup n=some c)(hcl2:∀ n,(n,NameKind.free)∈sc.names->∃ c,cl.lookup n=some c)
  (hg:∀ C s H ex pl,PG (blk X sc (lcN X own fr) cl C s H ex pl) tg g)(ht:∀ C s H ex pl,PTs (blk X sc (lcN X own fr) cl C s H ex pl) ifs tt)(he:∀ C s H ex pl,PE (blk X sc (lcN X own fr) cl C s H ex pl) elt te)
  (I:Inv X pins σ H s)(T:Turn X.prog X.w X.K tg J fp it tn)(st:tn 0 s.heap)(hf:∀ b∈fp,jg X pins H b)(w0:∃ m,W 0 m [] (lcS own.length fr σ) H)(turn:ab4 J g tt te W Fin)
  (hRR:∀ (D C:Addr) (s':Shared) (H':Hp) (ys:List V) (us:List Value) (n:Nat) (m:Str->Option Value),Inv X pins σ H' s'->s'.heap.get? D=some {cls:=.type "list",data:=.seq us.toArray n}->Vals ys us->ys.length<=sizeLine->H' D=none->H' C=none ->
   s.heap.objs.size<=D->s.heap.objs.size<=C->D≠C->s'.heap.Ns C m->Fin ys H'->RR (.ref D) C (.ok .next) s') :
  wpAny (model X.prog X.w) X.A (newList []) (λ acc s₃=>wpAny (model X.prog X.w) X.A (newFunctionEnv sc X.env.globals cl [] X.env.qual none .none (some X.env)) (λ cenv s₄ =>
   codeAny (model X.prog X.w) X.A (.compStart (.ListComp elt [⟨tg,iter,ifs,0⟩] sc pos) 0 (.ref it) acc {cenv with scope:=relabel sc X.env}) (RR acc cenv.locals) s₄) E s₃) E s:=by
 refine wpAny_newObj_type (wpAny_newFunctionEnv L.cell (by intro y hy;simp at hy) (λ h₁ hns₁ hsb₁=>?_) L.kind);dsimp only at hns₁ hsb₁ ⊢;generalize hH2:s.heap.push {cls:=.type "list",dict:=none,data:=.seq ([]:List Value).toArray}=H2 at hns₁ hsb₁ ⊢;have hCs:H2.objs.size=s.heap.objs.size+1:=by rw[<- hH2,Heap.size_push]
 have hD0:s.heap.objs.size≠H2.objs.size:=by rw[hCs];exact Nat.ne_of_lt (Nat.lt_succ_self _)
 have hCle:s.heap.objs.size<=H2.objs.size:=by rw[hCs];exact Nat.le_succ _
 have below:∀ b,b<s.heap.objs.size->b≠H2.objs.size/\b≠s.heap.objs.size:=λ b hb=>⟨by rw[hCs];exact Nat.ne_of_lt (Nat.lt_succ_of_lt hb),Nat.ne_of_lt hb⟩;have old:∀ b o,s.heap.get? b=some o->h₁.get? b=some o:=λ b o e=>hsb₁.extBut b o (below b (Heap.lt_size e)).1 (Heap.get?_push_of_some _ (hH2 ▸ Heap.get?_push_of_some _ e));have hacc:h₁.get? s.heap.objs.size=some {cls:=.type "list",data:=.seq ([]:List Value).toArray 0}:=hsb₁.extBut _ _ hD0 (Heap.get?_push_of_some _ (hH2 ▸ Heap.get?_push_size _ rfl));have hfb:∀ b∈fp,b<s.heap.objs.size:=λ b hb=>by obtain⟨o,e,_⟩:=T.obj 0 _ st b hb;exact Heap.lt_size e
 have I1:Inv (blk X sc (lcN X own fr) cl H2.objs.size s H fp pins) [] (lcS own.length fr σ) H {s with heap:=h₁,toks:=s.toks+([]:List (Str×Value)).length}:=yU L I hf hfb hCle hcl1 hcl2 hns₁ old;have st1:tn 0 h₁:=T.keep 0 _ _ st λ b _ o e=>old b o e;generalize hY:blk X sc (lcN X own fr) cl H2.objs.size s H fp pins=Y at I1;have hYp:Y.prog=X.prog:=by rw[<- hY];rfl
 have hYw:Y.w=X.w:=by rw[<- hY];rfl
 have hYK:Y.K=X.K:=by rw[<- hY];rfl
 have hYA:Y.A=X.A:=by rw[<- hY];rfl
 have hYc:Y.calm=true:=by rw[<- hY];exact hc
 have hYe:Y.env=compEnvC sc cl H2.objs.size X.env:=by rw[<- hY];rfl
 have hYx:Y.xe=λ _ _=>False:=by rw[<- hY];rfl
 have hYpn:Y.pn=X.pn++pins:=by rw[<- hY];rfl
 have hYs:Y.s₀=s:=by rw[<- hY];rfl
 have hYH:Y.H₀=H:=by rw[<- hY];rfl
 have hYex:Y.ex=fp:=by rw[<- hY];rfl
 have hYfs:Y.fs=frs X.stack:=by rw[<- hY];rfl
 have gY:=hg H2.objs.size s H fp pins;have tY:=ht H2.objs.size s H fp pins;have eY:=he H2.objs.size s H fp pins;rw[hY] at gY tY eY;have D_pin:∀ p∈Y.pn++([]:PN),p.1≠s.heap.objs.size:=λ p hp=>by rw[hYpn,List.append_nil] at hp;exact(below _ (Heap.lt_size (I.pin p hp).1)).2
 have D_cell:∀ x c,Y.env.cells.lookup x=some c->c≠s.heap.objs.size:=λ x c e=>by rw[hYe] at e;obtain⟨v,z⟩:=I.cell x c (hcl1 _ _ e);exact(below _ z.lt).2
 have D_loc:s.heap.objs.size≠Y.env.locals:=by rw[hYe];exact hD0
 have D_fs:s.heap.objs.size ∉ Y.fs:=by
  rw[hYfs];intro z;rcases List.mem_cons.mp (I.jR _ z) with e | e
  ·exact absurd I.lt (by rw[<- e];exact Nat.lt_irrefl _)
  ·exact I.ai8 (Nat.le_refl _) e
 have fpY:∀ {H':Hp} (pl:PN),(∀ b∈fp,H' b=none)->(∀ p∈pl,p.1=s.heap.objs.size)->∀ b∈fp,jg Y pl H' b:=λ {H'} pl hn hp b hb=>by
  obtain⟨_,f1,f2,f3,f4,f5⟩:=hf b hb;refine⟨hn b hb,by rw[hYe];exact(below b (hfb b hb)).1,?_,.inl (by rw[hYex];exact hb),λ x c e=>?_,λ p q=>?_⟩
  ·rw[hYfs];intro z;rcases List.mem_cons.mp (I.jR _ z) with e | e
   ·exact f1 e
   ·exact f2 e
  ·rw[hYe] at e;exact f4 x c (hcl1 _ _ e)
  ·rcases List.mem_append.mp q with z | z
   ·rw[hYpn] at z;exact f5 p z
   ·rw[hp p z];exact Ne.symm (below b (hfb b hb)).2
 have loop:∀ s₃:Shared,s₃={s with heap:=h₁,toks:=s.toks+([]:List (Str×Value)).length} ->
   codeAny (model X.prog X.w) X.A (.compLoop (.ListComp elt [⟨tg,iter,ifs,0⟩] sc pos) 0 (.ref it) (.ref s.heap.objs.size) (compEnvC sc cl H2.objs.size X.env)) (RR (.ref s.heap.objs.size) H2.objs.size) s₃:=by
  rintro s₃ rfl;obtain⟨m0,w0⟩:=w0;refine qd (λ n s'=>∃ i ys τ H' us k,Inv Y [] τ H' s'/\tn i s'.heap/\(∀ b∈fp,H' b=none)/\H' s.heap.objs.size=none/\s'.heap.get? s.heap.objs.size=some {cls:=.type "list",data:=.seq us.toArray k}/\Vals ys us/\ys.length<=sizeLine/\W i n ys τ H') ?_ m0
   ⟨0,[],_,H,[],0,I1,st1,λ b hb=>(hf b hb).1,I.hok.fresh (Nat.le_refl _),hacc,.nil,Nat.zero_le _,w0⟩
  rintro n s' ⟨i,ys,τ,H',us,k,I',st',hn',hD',ha',hv',hz',w'⟩;have Ip:Inv Y [(s.heap.objs.size,{cls:=.type "list",data:=.seq us.toArray k})] τ H' s':=I'.fm λ p hp=>by
   have e:p=(s.heap.objs.size,{cls:=.type "list",data:=.seq us.toArray k}):=by simpa using hp
   subst e;exact⟨ha',hD',D_loc,D_fs,λ v z=>nomatch (show Data.seq _ _=Data.cell v from z)⟩
  have onlyD:∀ p∈[((s.heap.objs.size,{cls:=.type "list",data:=.seq us.toArray k}):Addr×Obj)],p.1=s.heap.objs.size:=λ p hp=>by
   have e:p=(s.heap.objs.size,{cls:=.type "list",data:=.seq us.toArray k}):=by simpa using hp
   subst e;rfl
  rcases turn i n ys τ H' w' with ⟨stop,fin⟩ | ⟨go,hlen,step⟩
  ·have q:=T.done Y hYp hYw hYK hYc i _ s' τ H' (λ _ _=>False) Ip (fpY _ hn' onlyD) st' stop;rw[hYA] at q;refine thn q λ r s4 hq29=>?_;obtain⟨hr,I4⟩:=hq29;subst hr;have un:Un (frs X.stack) fp H H' s.heap s4.heap:=by have z:=I4.base;rw[hYfs,hYex,hYH,hYs] at z;exact z
   have os4:s4.os=s.os:=by have z:=I4.os;rw[hYs] at z;exact z
   have hok4:HOk X.prog X.w H' s4.heap:=by have z:=I4.hok;rw[hYp,hYw] at z;exact z
   have hch:∀ b∈fp,(b∈X.ex\/X.s₀.heap.objs.size<=b)/\b≠X.env.locals/\(∀ x c,X.env.cells.lookup x=some c->c≠b)/\∀ p∈X.pn++pins,p.1≠b:=λ b hb=>by obtain⟨_,f1,f2,f3,f4,f5⟩:=hf b hb;exact⟨f3,f1,f4,f5⟩
   have IX:Inv X pins σ H' s4:=I.acD os4 un hok4 I4.bare hch;obtain⟨mC,hmC,_⟩:=I4.loc;have hCf:=I4.free;rw[hYe] at hmC hCf;have pD:=I4.pin (s.heap.objs.size,{cls:=.type "list",data:=.seq us.toArray k}) (List.mem_append_right _ (List.mem_singleton.mpr rfl));exact hRR _ _ s4 H' ys us k mC IX pD.1 hv' hz' pD.2.1 hCf (Nat.le_refl _) hCle hD0 hmC fin
  ·have q:=T.item Y hYp hYw hYK hYc i _ s' τ H' (λ _ _=>False) Ip (fpY _ hn' onlyD) st' go;rw[hYA] at q;refine thn q λ r s4 hq30=>?_;obtain⟨u,hr,h4⟩:=hq30;subst hr;refine thn h4 λ _ s5 hq31=>?_;obtain⟨x,H5,I5,r5,y5,st5,fr5⟩:=hq31;have I5':=I5.pinned (fpY _ fr5 onlyD) (T.obj _ _ st5);have g5:=gY _ s5 τ H5 x u _ I5' r5 (step x H5 y5);rw[hYp,hYw,hYA,hYe,hYx] at g5;refine thn g5 λ _ s6 hq32=>?_;obtain⟨σ6,H6,I6,q6⟩:=hq32;have t6:=tY _ s6 σ6 H6 _ I6 q6;rw[hYp,hYw,hYA,hYe,hYx] at t6;refine thn t6 λ ok s7 hq33=>?_;obtain⟨H7,I7,q7⟩:=hq33;have keepD:∀ {σ8:St} {H8:Hp} {s8:Shared},Inv Y ([(s.heap.objs.size,{cls:=.type "list",data:=.seq us.toArray k})]++lC fp s5.heap) σ8 H8 s8->s8.heap.get? s.heap.objs.size=some {cls:=.type "list",data:=.seq us.toArray k}/\H8 s.heap.objs.size=none:=
    λ {σ8 H8 s8} I8=>by have pD:=I8.pin (s.heap.objs.size,{cls:=.type "list",data:=.seq us.toArray k}) (List.mem_append_right _ (List.mem_append_left _ (List.mem_singleton.mpr rfl)));exact⟨pD.1,pD.2.1⟩
   have keepI:∀ {σ8:St} {H8:Hp} {s8:Shared},Inv Y ([(s.heap.objs.size,{cls:=.type "list",data:=.seq us.toArray k})]++lC fp s5.heap) σ8 H8 s8->tn (i+1) s8.heap/\∀ b∈fp,H8 b=none:=
    λ {σ8 H8 s8} I8=>by refine⟨T.keep _ _ _ st5 λ b hb o e=>(I8.pin (b,o) (List.mem_append_right _ (List.mem_append_right _ (eN hb e)))).1,λ b hb=>?_⟩;obtain⟨o,e,d⟩:=T.obj _ _ st5 b hb;exact(I8.pin (b,o) (List.mem_append_right _ (List.mem_append_right _ (eN hb e)))).2.1
   cases ok with
   | false =>
    rw[if_neg Bool.false_ne_true] at q7 ⊢;obtain⟨m',hm',w7⟩:=q7;obtain⟨a7,b7⟩:=keepD I7;obtain⟨c7,d7⟩:=keepI I7;exact⟨m',hm',i+1,ys,σ6,H7,us,k,I7.fm (λ p hp=>(nomatch hp)),c7,d7,b7,a7,hv',hz',w7⟩
   | true =>
    rw[if_pos rfl] at q7 ⊢;have e7:=eY _ s7 σ6 H7 _ I7 q7;rw[hYp,hYw,hYA,hYe,hYx] at e7;refine thn e7 λ v s8 hq34=>?_;obtain⟨y,H8,I8,r8,m',hm',w8⟩:=hq34;obtain⟨a8,b8⟩:=keepD I8;obtain⟨c8,d8⟩:=keepI I8;have hl:=hv'.length;refine call_meets F.slot_list_append ⟨_,a8,rfl⟩ F.entry_list_append (F.args_list_append_2 _ _) (PySem.list_append s.heap.objs.size us.toArray k v (by rw[List.size_toArray];omega)) ⟨a8,?_⟩;have qu:=PySem.IsL.update a8 (λ xs=>xs.push v);have I9:=(I8.fm (pins':=[]) λ p hp=>nomatch hp).turned (it:=s.heap.objs.size) (t':=s8.toks) (h':=s8.heap.update s.heap.objs.size (Obj.mapSeq λ xs=>xs.push v)) (λ b o hb e=>(Heap.get?_update_other s8.heap _ (Ne.symm hb)).trans e) b8 D_loc (.inr (by rw[hYs];exact Nat.le_refl _)) D_cell D_pin;have ep:us.toArray.push v=(us++[v]).toArray:=by simp
    rw[ep] at qu;refine⟨m',hm',i+1,ys++[y],σ6,H8,us++[v],(if (us++[v]).toArray.size==us.toArray.size then k else k+1),I9,T.keep _ _ _ c8 λ b hb o e=>(Heap.get?_update_other s8.heap _ (Ne.symm (below b (hfb b hb)).2)).trans e,d8,b8,?_,hv'.append (.cons r8 .nil),?_,w8⟩
    ·exact qu
    ·rw[List.length_append,List.length_singleton];omega
 exact codeAny_compStart_list (loop _ rfl) (T.self _ 0 _ _ _ st1 (loop _ rfl))
def tLC(wi:TI)(g:TG)(tt:TT)(te:TE)(k:Nat)(fr:List Nat):TE:=λ σ H Q=>wi σ H λ J H1=>∃ W:LcW,(∃ m,W 0 m [] (lcS k fr σ) H1)/\ab4 J g tt te W λ ys H2=>∀ p,H2 p=none->Q (.ref p) (upd H2 p (.lst ys))
theorem jt(L:qj X sc own fr)(ok:X.Ok):∃ cl,closureFor sc X.env=pure cl/\(∀ n c,cl.lookup n=some c->X.env.cells.lookup n=some c)/\(∀ n,(n,NameKind.free)∈sc.names->∃ c,cl.lookup n=some c):=
 jV λ x hx hf=>ok.has x.1 (L.free x hx hf)
theorem aeW(hc:X.calm=true)(L:qj X sc own fr)(hi:PI X tg iter wi)
  (hg:∀ cl C s H ex pl,PG (blk X sc (lcN X own fr) cl C s H ex pl) tg g)(ht:∀ cl C s H ex pl,PTs (blk X sc (lcN X own fr) cl C s H ex pl) ifs tt)(he:∀ cl C s H ex pl,PE (blk X sc (lcN X own fr) cl C s H ex pl) elt te)
  (hs:∀ x,foldedSetIterable iter X.env x=pure x:=by intro _;rfl):PE X (.ListComp elt [⟨tg,iter,ifs,0⟩] sc pos) (tLC wi g tt te own.length fr):=by
 intro pins s σ H Q I h;obtain⟨cl,hcl,c1,c2⟩:=jt L I.ok;rw[eval_ListComp];refine wpAny_comprehension_free (use:=none) (g:=⟨tg,iter,ifs,0⟩) (gs:=[]) rfl hs hcl L.kind L.names ?_;refine thn (hi pins s σ H _ I h) λ v s1 h1=>thn h1 λ itv s2 h2=>?_;obtain⟨it,fp,tn,J,H2,e,I2,T,st2,f2,W,w0,turn⟩:=h2;subst e;refine adk (cl:=cl) hc L c1 c2 (hg cl) (ht cl) (he cl) I2 T st2 f2 w0 turn λ D C s' H' ys us n m I' a' hv hz hD hC dD dC hDC hns fin=>?_;refine⟨m,hns,λ h' sb=>?_⟩;have far:∀ b,s2.heap.objs.size<=b->(X.s₀.heap.objs.size<=b)/\b≠X.env.locals/\(∀ x c,X.env.cells.lookup x=some c->c≠b)/\∀ p∈X.pn++pins,p.1≠b:=λ b hb=>by obtain⟨_,f1,_,f3,f4,f5⟩:=I2.oz (H':=λ _=>none) hb rfl;refine⟨Nat.le_trans I2.sz hb,f1,f4,f5⟩
 obtain⟨z1,z2,z3,z4⟩:=far C dC;obtain⟨y1,y2,y3,y4⟩:=far D dD;have I3:Inv X pins σ H' {s' with heap:=h'}:=I'.turned (t':=s'.toks) (λ b o hb e=>sb.extBut b o hb e) hC z2 (.inr z1) z3 z4;exact⟨.ref D,_,I3.acO (sb.extBut _ _ hDC a') hD hv hz y1 y2 y3 y4,rfl,fin D hD⟩
end
end L2
namespace D
open L2
abbrev St:=L2.St
structure Kp(H H':Hp):Prop where
 tup:∀ b xs,H b=some (.tup xs)->H' b=some (.tup xs)
 frz:∀ b o u,H b=some (.frz o u)->H' b=some (.frz o u)
theorem Kp.refl(H:Hp):Kp H H:=⟨λ _ _ e=>e,λ _ _ _ e=>e⟩
theorem Kp.trans(a:Kp H H1)(b:Kp H1 H2):Kp H H2:=⟨λ c xs e=>b.tup c xs (a.tup c xs e),λ c o u e=>b.frz c o u (a.frz c o u e)⟩
theorem Kp.new(h:H p=none):Kp H (upd H p o):=⟨λ b xs e=>by rw[ao (aV e h)];exact e,λ b ob u e=>by rw[ao (aV e h)];exact e⟩
theorem Kp.set(h:H p=some u)(ht:∀ xs,u ≠ .tup xs)(hf:∀ ob v,u ≠ .frz ob v):Kp H (upd H p o):=
 ⟨λ b xs e=>by rw[ao (vp e h λ z=>ht _ z.symm)];exact e,λ b ob v e=>by rw[ao (vp e h λ z=>hf _ _ z.symm)];exact e⟩
theorem Kp.un(u:Un fs ex H H' h h'):Kp H H':=⟨u.mS,u.frzs⟩
def SqF(K:FG)(H:Hp)(a:Addr)(xs:List V):Prop:=
 (∃ o,H a=some (.frz o (.lst xs)))\/∃ (o:Obj) (its:Array Value) (n:Nat),K.lookup a=some o/\o.cls=.type "list" /\ o.dict=none/\o.data=.seq its n/\its.size<=sizeLine/\Vals xs its.toList
theorem SqF.sq{K:FG}{H:Hp}{a:Addr}{xs:List V}(h:SqF K H a xs):SqL K H a xs:=by
 rcases h with h | h
 ·exact .inl (.inr h)
 ·exact .inr h
theorem SqF.keep{K:FG}{H H':Hp}{a:Addr}{xs:List V}(k:Kp H H')(h:SqF K H a xs):SqF K H' a xs:=by
 rcases h with ⟨o,h⟩ | h
 ·exact .inl ⟨o,k.frz _ _ _ h⟩
 ·exact .inr h
theorem SqT.keep{K:FG}{H H':Hp}{a:Addr}{xs:List V}(k:Kp H H')(h:SqT K H a xs):SqT K H' a xs:=by
 rcases h with (h | ⟨o,h⟩) | h
 ·exact .inl (.inl (k.tup _ _ h))
 ·exact .inl (.inr ⟨o,k.frz _ _ _ h⟩)
 ·exact .inr h
def rg:Key->PyData
 | .inl i=>.int i
 | .inr x=>.str x
mutual
def aG(K:FG)(H:Hp):PyData->V->Prop
 | .none,v=>v=.non
 | .bool b,v=>v=.bl b
 | .int i,v=>v=.int i
 | .str x,v=>v=.str x
 | .list ds,v=>∃ a vs,v=.ref a/\SqF K H a vs/\bt K H ds vs
 | .tuple ds,v=>∃ a vs,v=.ref a/\SqT K H a vs/\bt K H ds vs
 | .dict kvs,v=>∃ a o l,v=.ref a/\H a=some (.frz o (.dK l))/\lp K H kvs l
def bt(K:FG)(H:Hp):List PyData->List V->Prop
 | [],vs=>vs=[]
 | d::ds,vs=>∃ v r,vs=v::r/\aG K H d v/\bt K H ds r
def lp(K:FG)(H:Hp):List (PyData×PyData)->List (Key×V)->Prop
 | [],l=>l=[]
 | (k,d)::ds,l=>∃ key v r,l=(key,v)::r/\k=rg key/\aG K H d v/\lp K H ds r
end
mutual
theorem aG.keep{K:FG}{H H':Hp}(k:Kp H H'):∀ {d:PyData} {v:V},aG K H d v->aG K H' d v
 | .none,v,h=>by simp only[aG] at h ⊢;exact h
 | .bool b,v,h=>by simp only[aG] at h ⊢;exact h
 | .int i,v,h=>by simp only[aG] at h ⊢;exact h
 | .str x,v,h=>by simp only[aG] at h ⊢;exact h
 | .list ds,v,h=>by simp only[aG] at h ⊢;obtain⟨a,vs,e,s,r⟩:=h;exact⟨a,vs,e,s.keep k,bt.keep k r⟩
 | .tuple ds,v,h=>by simp only[aG] at h ⊢;obtain⟨a,vs,e,s,r⟩:=h;exact⟨a,vs,e,SqT.keep k s,bt.keep k r⟩
 | .dict kvs,v,h=>by simp only[aG] at h ⊢;obtain⟨a,o,l,e,s,r⟩:=h;exact⟨a,o,l,e,k.frz _ _ _ s,lp.keep k r⟩
theorem bt.keep{K:FG}{H H':Hp}(k:Kp H H'):∀ {ds:List PyData} {vs:List V},bt K H ds vs->bt K H' ds vs
 | [],vs,h=>by simp only[bt] at h ⊢;exact h
 | d::ds,vs,h=>by simp only[bt] at h ⊢;obtain⟨v,r,e,h1,h2⟩:=h;exact⟨v,r,e,aG.keep k h1,bt.keep k h2⟩
theorem lp.keep{K:FG}{H H':Hp}(k:Kp H H'):∀ {ds:List (PyData×PyData)} {l:List (Key×V)},lp K H ds l->lp K H' ds l
 | [],l,h=>by simp only[lp] at h ⊢;exact h
 | (key,d)::ds,l,h=>by simp only[lp] at h ⊢;obtain⟨k',v,r,e,ek,h1,h2⟩:=h;exact⟨k',v,r,e,ek,aG.keep k h1,lp.keep k h2⟩
end
theorem bt.length{K:FG}{H:Hp}:∀ {ds:List PyData} {vs:List V},bt K H ds vs->vs.length=ds.length
 | [],vs,h=>by simp only[bt] at h;rw[h];rfl
 | d::ds,vs,h=>by simp only[bt] at h;obtain⟨v,r,e,_,h2⟩:=h;rw[e,List.length_cons,List.length_cons,bt.length h2]
theorem bt.get{K:FG}{H:Hp}:∀ {ds:List PyData} {vs:List V} {i:Nat} {d:PyData},bt K H ds vs->ds[i]? =some d->∃ v,vs[i]? =some v/\aG K H d v
 | [],_,_,_,_,e=>by simp at e
 | d::ds,vs,0,d',h,e=>by simp only[bt] at h;obtain⟨v,r,ev,h1,_⟩:=h;simp at e;subst e;exact⟨v,by rw[ev];rfl,h1⟩
 | d::ds,vs,i+1,d',h,e=>by simp only[bt] at h;obtain⟨v,r,ev,_,h2⟩:=h;obtain⟨v',e1,e2⟩:=bt.get (i:=i) h2 (by simpa using e);exact⟨v',by rw[ev];simpa using e1,e2⟩
theorem bt.get'{K:FG}{H:Hp}{ds:List PyData}{vs:List V}{i:Nat}{v:V}(h:bt K H ds vs)(e:vs[i]? =some v):∃ d,ds[i]? =some d/\aG K H d v:=by
 have hi:i<ds.length:=by have:=(List.getElem?_eq_some_iff.mp e).1;rw[h.length] at this;exact this
 obtain⟨v',e1,r⟩:=h.get (i:=i) (d:=ds[i]) (by simp[hi]);rw[e] at e1;cases e1;exact⟨ds[i],by simp[hi],r⟩
theorem bt.ints{K:FG}{H:Hp}:∀ (ns:List Int),bt K H (ns.map PyData.int) (ns.map V.int)
 | []=>by simp[bt]
 | n::ns=>by simp only[List.map_cons,bt];exact⟨_,_,rfl,by simp[aG],bt.ints ns⟩
theorem bt.append{K:FG}{H:Hp}:∀ {ds es:List PyData} {vs us:List V},bt K H ds vs->bt K H es us->bt K H (ds++es) (vs++us)
 | [],es,vs,us,h,q=>by simp only[bt] at h;subst h;exact q
 | d::ds,es,vs,us,h,q=>by simp only[bt] at h;obtain⟨v,r,e,h1,h2⟩:=h;subst e;simp only[List.cons_append,bt];exact⟨v,r++us,rfl,h1,bt.append h2 q⟩
theorem bt.drop{K:FG}{H:Hp}:∀ {ds:List PyData} {vs:List V} (n:Nat),bt K H ds vs->bt K H (ds.drop n) (vs.drop n)
 | ds,vs,0,h=>by simpa using h
 | [],vs,n+1,h=>by simp only[bt] at h;subst h;simp[bt]
 | d::ds,vs,n+1,h=>by
  simp only[bt] at h;obtain⟨v,r,e,_,h2⟩:=h;subst e
  simpa using bt.drop n h2
theorem bt.take{K:FG}{H:Hp}:∀ {ds:List PyData} {vs:List V} (n:Nat),bt K H ds vs->bt K H (ds.take n) (vs.take n)
 | ds,vs,0,h=>by simp[bt]
 | [],vs,n+1,h=>by simp only[bt] at h;subst h;simp[bt]
 | d::ds,vs,n+1,h=>by simp only[bt] at h;obtain⟨v,r,e,h1,h2⟩:=h;subst e;simp only[List.take_succ_cons,bt];exact⟨v,_,rfl,h1,bt.take n h2⟩
inductive W where
 | d (x:PyData)
 | m (a:Addr)
 | t (n:String)
inductive MO where
 | lst (ws:List W)
 | dic (kvs:List (Key×W))
 | dct (kvs:List (List Key×W))
 | fdic (kvs:List (Key×W))
 | ins (C:Addr) (fs:List (Str×W))
 | tup (ws:List W)
 | flst (ws:List W)
 | exc (C:Addr) (fs:List (Str×W))
 | code (q:Str) (pos:Pos)
abbrev MH:=Addr->Option MO
def bY(M:MH)(a:Addr)(o:MO):MH:=λ b=>if b=a then some o else M b
theorem ak:bY M a o a=some o:=if_pos rfl
theorem aF(h:b≠a):bY M a o b=M b:=if_neg h
theorem wM:bY (bY M a o) a u=bY M a u:=by funext b;unfold bY;split<;>rfl
abbrev DS:=List (Option W)
def aO(K:FG)(H:Hp):W->V->Prop
 | .d x,v=>aG K H x v
 | .m a,v=>v=.ref a
 | .t n,v=>v=.ty n
theorem aO.keep{K:FG}{H H':Hp}(k:Kp H H'):∀ {w:W} {v:V},aO K H w v->aO K H' w v
 | .d _,_,h=>aG.keep k h
 | .m _,_,h=>h
 | .t _,_,h=>h
def bB(K:FG)(H:Hp):List W->List V->Prop:=Paired (aO K H)
theorem bB.keep{K:FG}{H H':Hp}(k:Kp H H'){ws:List W}{vs:List V}(h:bB K H ws vs):bB K H' ws vs:=Paired.jL h λ _ _ r=>r.keep k
theorem bB.length{K:FG}{H:Hp}{ws:List W}{vs:List V}(h:bB K H ws vs):ws.length=vs.length:=Paired.length h
theorem bB.get{K:FG}{H:Hp}:∀ {ws:List W} {vs:List V} {i:Nat} {w:W},bB K H ws vs->ws[i]? =some w->∃ v,vs[i]? =some v/\aO K H w v
 | _,_,_,_,.nil,e=>by simp at e
 | _,_,0,_,.cons r _,e=>by simp at e;subst e;exact⟨_,rfl,r⟩
 | _,_,i+1,_,.cons _ t,e=>by obtain⟨u,h1,h2⟩:=bB.get (i:=i) t (by simpa using e);exact⟨u,by simpa using h1,h2⟩
theorem bB.set{K:FG}{H:Hp}{w:W}{v:V}(r:aO K H w v):∀ {ws:List W} {vs:List V} (i:Nat),bB K H ws vs->bB K H (ws.set i w) (vs.set i v)
 | _,_,_,.nil=>.nil
 | _,_,0,.cons _ t=>.cons r t
 | _,_,i+1,.cons q t=>.cons q (bB.set r i t)
theorem bB.append{K:FG}{H:Hp}:∀ {ws ws':List W} {vs vs':List V},bB K H ws vs->bB K H ws' vs'->bB K H (ws++ws') (vs++vs')
 | _,_,_,_,.nil,s=>s
 | _,_,_,_,.cons r t,s=>.cons r (bB.append t s)
theorem bB.data{K:FG}{H:Hp}:∀ {ds:List PyData} {vs:List V},bB K H (ds.map W.d) vs->bt K H ds vs
 | [],_,h=>by cases h;simp[bt]
 | d::ds,_,h=>by
  cases h with
  | cons r t=>simp only[bt];exact⟨_,_,rfl,r,bB.data t⟩
theorem bt.ws{K:FG}{H:Hp}:∀ {ds:List PyData} {vs:List V},bt K H ds vs->bB K H (ds.map W.d) vs
 | [],vs,h=>by simp only[bt] at h;subst h;exact .nil
 | d::ds,vs,h=>by simp only[bt] at h;obtain⟨v,r,e,h1,h2⟩:=h;subst e;exact .cons h1 (bt.ws h2)
def acd(K:FG)(H:Hp)(a:Addr):MO->Prop
 | .lst ws=>∃ vs,H a=some (.lst vs)/\bB K H ws vs
 | .dic kvs=>∃ l,H a=some (.dK l)/\Paired (λ(p:Key×W) (q:Key×V)=>p.1=q.1/\aO K H p.2 q.2) kvs l
 | .fdic kvs=>∃ o l,H a=some (.frz o (.frz o (.dK l)))/\Paired (λ(p:Key×W) (q:Key×V)=>p.1=q.1/\aO K H p.2 q.2) kvs l
 | .dct kvs=>∃ l,H a=some (.dT l)/\Paired (λ(p:List Key×W) (q:List Key×V)=>p.1=q.1/\aO K H p.2 q.2) kvs l
 | .ins C fs=>∃ dx l,H a=some (.ins C dx l)/\Paired (λ(p:Str×W) (q:Str×V)=>p.1=q.1/\aO K H p.2 q.2) fs l
 | .tup ws=>∃ vs,H a=some (.tup vs)/\bB K H ws vs
 | .flst ws=>∃ o vs,H a=some (.frz o (.frz o (.lst vs)))/\bB K H ws vs
 | .exc C fs=>∃ φ dct,H a=some (.ext φ)/\(∀ h,φ h->∃ vs,h.get? a=some {cls:=.ref C,dict:=dct,data:=.fields vs}/\(fs=[]->vs[2]? =some .none)) /\
   ((dct=none/\fs=[])\/∃ dx o l,dct=some dx/\H dx=some (.frz o (.xd l))/\Paired (λ(p:Str×W) (q:Str×V)=>p.1=q.1/\aO K H p.2 q.2) fs l)
 | .code q pos=>∃ ps,H a=some (.tbl ps)/\TriplesOk ps.toList/\(codeAmong pos ps.toList=none\/∃ c o vs t,codeAmong pos ps.toList=some (.ref c)/\H c=some (.frz o (.own 0))/\o.data=.fields vs/\vs[1]? =some (.str q t))
def cX(K:FG)(H:Hp)(M:MH):Prop:=∀ a o,M a=some o->acd K H a o
theorem acd.is{K:FG}{H:Hp}{a:Addr}{o:MO}(h:acd K H a o):∃ u,H a=some u:=by
 cases o with
 | lst ws=>obtain⟨vs,e,_⟩:=h;exact⟨_,e⟩
 | dic kvs=>obtain⟨l,e,_⟩:=h;exact⟨_,e⟩
 | dct kvs=>obtain⟨l,e,_⟩:=h;exact⟨_,e⟩
 | fdic kvs=>obtain⟨o,l,e,_⟩:=h;exact⟨_,e⟩
 | ins C fs=>obtain⟨dx,l,e,_⟩:=h;exact⟨_,e⟩
 | tup ws=>obtain⟨vs,e,_⟩:=h;exact⟨_,e⟩
 | flst ws=>obtain⟨o,vs,e,_⟩:=h;exact⟨_,e⟩
 | exc C fs=>obtain⟨φ,dct,e,_⟩:=h;exact⟨_,e⟩
 | code q pos=>obtain⟨ps,e,_⟩:=h;exact⟨_,e⟩
theorem cX.free{K:FG}{H:Hp}{M:MH}(h:cX K H M){p:Addr}(e:H p=none):M p=none:=by
 cases q:M p with
 | none=>rfl
 | some o =>
  obtain⟨u,z⟩:=(h p o q).is;rw[e] at z;cases z
theorem acd.keep{K:FG}{H H':Hp}{a:Addr}{o:MO}(k:Kp H H')(s:∀ u,H a=some u->H' a=some u)(h:acd K H a o):acd K H' a o:=by
 cases o with
 | lst ws=>obtain⟨vs,e,r⟩:=h;exact⟨vs,s _ e,r.keep k⟩
 | dic kvs=>obtain⟨l,e,r⟩:=h;exact⟨l,s _ e,Paired.jL r λ p q z=>⟨z.1,z.2.keep k⟩⟩
 | dct kvs=>obtain⟨l,e,r⟩:=h;exact⟨l,s _ e,Paired.jL r λ p q z=>⟨z.1,z.2.keep k⟩⟩
 | fdic kvs=>obtain⟨o,l,e,r⟩:=h;exact⟨o,l,s _ e,Paired.jL r λ p q z=>⟨z.1,z.2.keep k⟩⟩
 | ins C fs=>obtain⟨dx,l,e,r⟩:=h;exact⟨dx,l,s _ e,Paired.jL r λ p q z=>⟨z.1,z.2.keep k⟩⟩
 | tup ws=>obtain⟨vs,e,r⟩:=h;exact⟨vs,s _ e,r.keep k⟩
 | flst ws=>obtain⟨o,vs,e,r⟩:=h;exact⟨o,vs,s _ e,r.keep k⟩
 | exc C fs =>
  obtain⟨φ,dct,e,p,r⟩:=h;refine⟨φ,dct,s _ e,p,?_⟩;rcases r with r | ⟨dx,o,l,e1,e2,r⟩
  ·exact .inl r
  ·exact .inr ⟨dx,o,l,e1,k.frz _ _ _ e2,Paired.jL r λ p q z=>⟨z.1,z.2.keep k⟩⟩
 | code q pos =>
  obtain⟨ps,e,ht,hc⟩:=h;refine⟨ps,s _ e,ht,?_⟩;rcases hc with hc | ⟨c,o,vs,t,e1,e2,e3⟩
  ·exact .inl hc
  ·exact .inr ⟨c,o,vs,t,e1,k.frz _ _ _ e2,e3⟩
theorem cX.new{K:FG}{H:Hp}{M:MH}{p:Addr}{o:HO}(h:cX K H M)(e:H p=none):cX K (upd H p o) M:=λ a mo q =>
 (h a mo q).keep (Kp.new e) λ u z=>by rw[ao (aV z e)];exact z
theorem cX.put{K:FG}{H:Hp}{M:MH}{p:Addr}{o:HO}{mo:MO}(h:cX K H M)(k:Kp H (upd H p o))(r:acd K (upd H p o) p mo):cX K (upd H p o) (bY M p mo):=λ a mo' q=>by
 by_cases e:a=p
 ·subst e;rw[ak] at q;cases q;exact r
 ·rw[aF e] at q;exact(h a mo' q).keep k λ u z=>by rw[ao e];exact z
structure Abs(K:FG)(H:Hp)(σ:St)(τ:DS)(M:MH):Prop where
 len:σ.length=τ.length
 val:∀ (i:Nat) w,τ[i]? =some (some w)->∃ v,σ[i]? =some (some v)/\aO K H w v
 mem:cX K H M
theorem Abs.go{K:FG}{H H':Hp}{σ:St}{τ:DS}{M M':MH}(h:Abs K H σ τ M)(k:Kp H H')(m:cX K H' M'):Abs K H' σ τ M':=
 ⟨h.len,λ i w e=>let ⟨v,q,r⟩:=h.val i w e; ⟨v,q,r.keep k⟩,m⟩
theorem Abs.set{K:FG}{H:Hp}{σ:St}{τ:DS}{M:MH}{w:W}{v:V}(h:Abs K H σ τ M)(i:Nat)(r:aO K H w v):Abs K H (σ.set i (some v)) (τ.set i (some w)) M:=by
 refine⟨by rw[List.length_set,List.length_set];exact h.len,λ j w' e=>?_,h.mem⟩
 by_cases hj:i=j
 ·subst hj;have hl:i<τ.length:=by
   have:=(List.getElem?_eq_some_iff.mp e).1
   rwa[List.length_set] at this
  rw[List.getElem?_set_self hl] at e;cases e;exact⟨v,List.getElem?_set_self (by rw[h.len];exact hl),r⟩
 ·rw[List.getElem?_set_ne hj] at e;obtain⟨v',q,r'⟩:=h.val j w' e;exact⟨v',by rw[List.getElem?_set_ne hj];exact q,r'⟩
abbrev QD:=W->MH->Prop
abbrev TD:=DS->MH->QD->Prop
abbrev TTd:=DS->MH->(Bool->MH->Prop)->Prop
abbrev TAd:=DS->MH->(List W->MH->Prop)->Prop
structure Ed where
 nx:DS->MH->Prop
 rt:QD
 bk:DS->MH->Prop:=λ _ _=>False
 ct:DS->MH->Prop:=λ _ _=>False
abbrev TSd:=Ed->DS->MH->Prop
def up(K:FG)(t:TD):TE:=λ σ H Q=>∃ τ M Qd,Abs K H σ τ M/\t τ M Qd/\∀ v H' w M',Kp H H'->aO K H' w v->cX K H' M'->Qd w M'->Q v H'
def upT(K:FG)(t:TTd):TT:=λ σ H Q=>∃ τ M Qd,Abs K H σ τ M/\t τ M Qd/\∀ b H' M',Kp H H'->cX K H' M'->Qd b M'->Q b H'
def upA(K:FG)(t:TAd):TA:=λ σ H Q=>∃ τ M Qd,Abs K H σ τ M/\t τ M Qd/\∀ vs H' ws M',Kp H H'->bB K H' ws vs->cX K H' M'->Qd ws M'->Q vs H'
def upS(K:FG)(t:TSd):TS:=λ D σ H=>∃ τ M Dd,Abs K H σ τ M/\t Dd τ M /\
 (∀ σ' H' τ' M',Kp H H'->Abs K H' σ' τ' M'->Dd.nx τ' M'->D.nx σ' H')/\(∀ v H' w M',Kp H H'->aO K H' w v->cX K H' M'->Dd.rt w M'->D.rt v H') /\
 (∀ σ' H' τ' M',Kp H H'->Abs K H' σ' τ' M'->Dd.bk τ' M'->D.bk σ' H')/\(∀ σ' H' τ' M',Kp H H'->Abs K H' σ' τ' M'->Dd.ct τ' M'->D.ct σ' H')
abbrev PD(X:Cx)(e:Expr)(t:TD):Prop:=PE X e (up X.K t)
abbrev PTd(X:Cx)(e:Expr)(t:TTd):Prop:=PT X e (upT X.K t)
abbrev PAd(X:Cx)(es:List Expr)(t:TAd):Prop:=PA X es (upA X.K t)
abbrev PSd(X:Cx)(st:Stmt)(t:TSd):Prop:=PS X st (upS X.K t)
abbrev md(X:Cx)(st:List Stmt)(t:TSd):Prop:=PSs X st (upS X.K t)
theorem iA(h:PE X e t)(k:∀ σ H Q,t' σ H Q->t σ H Q):PE X e t':=λ pins s σ H Q I q=>h pins s σ H Q I (k σ H Q q)
theorem aho(h:PT X e t)(k:∀ σ H Q,t' σ H Q->t σ H Q):PT X e t':=λ pins s σ H Q I q=>h pins s σ H Q I (k σ H Q q)
theorem aiV(h:PA X es t)(k:∀ σ H Q,t' σ H Q->t σ H Q):PA X es t':=λ pos pins s σ H Q I q=>h pos pins s σ H Q I (k σ H Q q)
theorem u7{st:Stmt}{t t':TS}(h:PS X st t)(k:∀ D σ H,t' D σ H->t D σ H):PS X st t':=λ pins s σ H D I q=>h pins s σ H D I (k D σ H q)
theorem afL{st:List Stmt}{t t':TS}(h:PSs X st t)(k:∀ D σ H,t' D σ H->t D σ H):PSs X st t':=λ pins s σ H D I q=>h pins s σ H D I (k D σ H q)
end D
namespace D
open L2
section
variable {X:Cx}{pos:Pos}{a b c e:Expr}{ta tb tc te:TD}{K:FG}
abbrev Kont(K:FG)(H:Hp)(Qd:QD)(Q:VK):Prop:=∀ v H' w M',Kp H H'->aO K H' w v->cX K H' M'->Qd w M'->Q v H'
theorem kgo(k:Kont K H Qd Q)(kp:Kp H H1):Kont K H1 Qd Q:=λ v H' w M' k2 r m q=>k v H' w M' (kp.trans k2) r m q
inductive ai0(i:Nat) (τ:DS) (M:MH) (Q:QD):Prop
 | mk (w:W) (z:τ[i]? =some (some w)) (q:Q w M):ai0 i τ M Q
def ai(i:Nat)(τ:DS)(M:MH)(Q:QD):Prop:=ai0 i τ M Q
theorem aeV(h:PE X e (aiN i)):PD X e (ai i):=iA h λ σ H Q hq35=>by obtain⟨τ,M,Qd,A,⟨w,e,q⟩,k⟩:=hq35;obtain⟨v,e',r⟩:=A.val i w e;exact⟨v,e',k v H w M (Kp.refl H) r A.mem q⟩
theorem dv(i:Nat)(hN:X.N[i]? =some x:=by rfl)(hv:Vis X.env.scope x:=by first | exact Or.inl rfl | exact Or.inr (Or.inl rfl) | exact Or.inr (Or.inr rfl))(hd:ND x:=by decide)
  (hcd:(x==("__classdict__" : Str))=false:=by decide):PD X (.Name x pos) (ai i):=aeV (iS hN hv hd hcd)
def dC(w:W)(_:DS)(M:MH)(Q:QD):Prop:=Q w M
theorem aev(h:PE X e (tC v))(r:∀ H,aO X.K H w v):PD X e (dC w):=iA h λ σ H Q ⟨τ,M,Qd,A,q,k⟩=>k v H w M (Kp.refl H) (r H) A.mem q
def OpD(K:FG)(r:R2)(rd:W->W->MH->QD->Prop):Prop:=∀ x y H w w' M Qd Q,aO K H w x->aO K H w' y->cX K H M->rd w w' M Qd->Kont K H Qd Q->r x y H Q
def dOp(rd:W->W->MH->QD->Prop)(ta tb:TD)(τ:DS)(M:MH)(Q:QD):Prop:=ta τ M λ w M1=>tb τ M1 λ w' M2=>rd w w' M2 Q
theorem tQ(hd:OpD K r rd)(h:up K (dOp rd ta tb) σ H Q):tOp r (up K ta) (up K tb) σ H Q:=by obtain⟨τ,M,Qd,A,h,k⟩:=h;refine⟨τ,M,_,A,h,λ x H1 w M1 kp r1 m1 q1=>⟨τ,M1,_,A.go kp m1,q1,λ y H2 w' M2 kp2 r2 m2 q2=>?_⟩⟩;exact hd x y H2 w w' M2 Qd Q (r1.keep kp2) r2 m2 q2 (kgo k (kp.trans kp2))
theorem aiv(ho:OpR X (binaryOp op) r)(hd:OpD X.K r rd)(ha:PD X a ta)(hb:PD X b tb):PD X (.BinOp a op b pos) (dOp rd ta tb):=iA (afB ho ha hb) λ σ H Q h=>tQ hd h
theorem agW(ho:OpR X (compareOp op) r)(hd:OpD X.K r rd)(ha:PD X a ta)(hb:PD X b tb)(hm:behindInMarks op b=false:=by first | exact kC _ (by decide) (by decide) | rfl) :
  PD X (.Compare a [op] [b] pos) (dOp rd ta tb):=iA (adL ho ha hb hm) λ σ H Q h=>tQ hd h
theorem aim(hr:IxR X r)(hd:OpD X.K r rd)(ha:PD X a ta)(hb:PD X b tb)(hs:rP b:=by intro _ _;rfl):PD X (.Subscript a b pos) (dOp rd ta tb):=iA (ahC hr ha hb hs) λ σ H Q h=>tQ hd h
def aZ(t:TD)(τ:DS)(M:MH)(Q:Bool->MH->Prop):Prop:=t τ M λ w M1=>∃ k,w=.d (.bool k)/\Q k M1
theorem oG(hi:∀ σ H Q,up K ta σ H Q->t' σ H Q)(h:upT K (aZ ta) σ H Q):acP t' σ H Q:=by obtain⟨τ,M,Qd,A,h,k⟩:=h;refine hi σ H _ ⟨τ,M,_,A,h,λ v H' w M' kp r m hq36=>?_⟩;obtain⟨b,e,q⟩:=hq36;subst e;simp only[aO,aG] at r;exact⟨b,r,k b H' M' kp m q⟩
theorem adM(ho:OpR X (compareOp op) r)(hd:OpD X.K r rd)(ha:PD X a ta)(hb:PD X b tb)(hm:behindInMarks op b=false:=by first | exact kC _ (by decide) (by decide) | rfl) :
  PTd X (.Compare a [op] [b] pos) (aZ (dOp rd ta tb)):=aho (adD ho ha hb hm) λ σ H Q h=>oG (λ _ _ _ q=>tQ hd q) h
theorem adR(h:PD X e te)(he:∀ whole,isTrue e X.env whole=(do let v <- whole;standAt e.pos;holding [v] (truthy v)):=by intro _;rfl):PTd X e (aZ te):=aho (af0 h he) λ σ H Q q=>oG (λ _ _ _ z=>z) q
def g9(r r':W->W->MH->QD->Prop)(ta tb tc:TD)(τ:DS)(M:MH)(Q:QD):Prop:=ta τ M λ x M1=>tb τ M1 λ y M2=>r x y M2 λ z M3=>∃ k,z=.d (.bool k)/\(if k=true then tc τ M3 λ w' M4=>r' y w' M4 Q else Q (.d (.bool false)) M3)
theorem qq(hd:OpD K r rd)(hd':OpD K r' rd')(h:up K (g9 rd rd' ta tb tc) σ H Q):xD r r' (up K ta) (up K tb) (up K tc) σ H Q:=by
 obtain⟨τ,M,Qd,A,h,k⟩:=h;refine⟨τ,M,_,A,h,λ x H1 w M1 kp r1 m1 q1=>⟨τ,M1,_,A.go kp m1,q1,λ y H2 w' M2 kp2 r2 m2 q2=>?_⟩⟩;have kq:=kp.trans kp2;refine hd x y H2 w w' M2 _ _ (r1.keep kp2) r2 m2 q2 λ v H3 w'' M3 kp3 r3 m3 hq37=>?_;obtain⟨b,e,q3⟩:=hq37;subst e;simp only[aO,aG] at r3;refine⟨b,r3,?_⟩;have kr:=kq.trans kp3;cases b with
 | false =>
  rw[if_neg Bool.false_ne_true] at q3 ⊢;exact k _ H3 _ M3 kr (by simp[aO,aG]) m3 q3
 | true =>
  rw[if_pos rfl] at q3 ⊢;exact⟨τ,M3,_,A.go kr m3,q3,λ u H4 w4 M4 kp4 r4 m4 q4=>hd' y u H4 w' w4 M4 Qd Q (r2.keep (kp3.trans kp4)) r4 m4 q4 (kgo k (kr.trans kp4))⟩
theorem aad(ho:OpR X (compareOp op) r)(hd:OpD X.K r rd)(ho':OpR X (compareOp op') r')(hd':OpD X.K r' rd')(ha:PD X a ta)(hb:PD X b tb)(hc:PD X c tc)
  (hm:lastMarks [op,op'] [b,c]=false:=by with_unfolding_all rfl):PD X (.Compare a [op,op'] [b,c] pos) (g9 rd rd' ta tb tc):=iA (zE ho ho' ha hb hc hm) λ σ H Q h=>qq hd hd' h
theorem vV(ho:OpR X (compareOp op) r)(hd:OpD X.K r rd)(ho':OpR X (compareOp op') r')(hd':OpD X.K r' rd')(ha:PD X a ta)(hb:PD X b tb)(hc:PD X c tc)
  (hm:lastMarks [op,op'] [b,c]=false:=by with_unfolding_all rfl):PTd X (.Compare a [op,op'] [b,c] pos) (aZ (g9 rd rd' ta tb tc)):=aho (zw ho ho' ha hb hc hm) λ σ H Q h=>oG (λ _ _ _ q=>qq hd hd' q) h
def UnD(K:FG)(r:V->Hp->VK->Prop)(rd:W->MH->QD->Prop):Prop:=∀ x H w M Qd Q,aO K H w x->cX K H M->rd w M Qd->Kont K H Qd Q->r x H Q
def dUn(rd:W->MH->QD->Prop)(ta:TD)(τ:DS)(M:MH)(Q:QD):Prop:=ta τ M λ w M1=>rd w M1 Q
theorem ahT(ho:UnR X (unaryOp op) r)(hd:UnD X.K r rd)(ha:PD X a ta):PD X (.UnaryOp op a pos) (dUn rd ta):=iA (ahV ho ha) λ σ H Q h=>by obtain⟨τ,M,Qd,A,h,k⟩:=h;exact⟨τ,M,_,A,h,λ x H1 w M1 kp r1 m1 q1=>hd x H1 w M1 Qd Q r1 m1 q1 (kgo k kp)⟩
variable {tA tB:TTd}{rest:List Expr}
def yY(t u:TTd)(τ:DS)(M:MH)(Q:Bool->MH->Prop):Prop:=t τ M λ k M1=>if k=true then u τ M1 Q else Q false M1
def dOr(t u:TTd)(τ:DS)(M:MH)(Q:Bool->MH->Prop):Prop:=t τ M λ k M1=>if k=true then Q true M1 else u τ M1 Q
def mN(t:TTd)(τ:DS)(M:MH)(Q:Bool->MH->Prop):Prop:=t τ M λ k M1=>Q (!k) M1
abbrev PWd(X:Cx)(e:Expr)(t:TTd):Prop:=PW X e (upT X.K t)
theorem pw_w(h:PW X e t)(k:∀ σ H Q,t' σ H Q->t σ H Q):PW X e t':=λ w pins s σ H Q I q=>h w pins s σ H Q I (k σ H Q q)
theorem aaq(ha:PTd X a tA):PWd X (.BoolOp .And [a] pos) tA:=pw_and1 ha
theorem acN(ha:PTd X a tA):PWd X (.BoolOp .Or [a] pos) tA:=pw_or1 ha
theorem acL(ha:PTd X a tA)(hb:PWd X (.BoolOp .And (b::rest) pos) tB):PWd X (.BoolOp .And (a::b::rest) pos) (yY tA tB):=pw_w (pw_and ha hb) λ σ H Q h=>by
 obtain⟨τ,M,Qd,A,h,k⟩:=h;refine⟨τ,M,_,A,h,λ b H1 M1 kp m1 q1=>?_⟩;cases b with
 | true=>rw[if_pos rfl] at q1 ⊢;exact⟨τ,M1,Qd,A.go kp m1,q1,λ b H2 M2 kp2 m2 q2=>k b H2 M2 (kp.trans kp2) m2 q2⟩
 | false=>rw[if_neg Bool.false_ne_true] at q1 ⊢;exact k _ H1 M1 kp m1 q1
theorem ag9(ha:PTd X a tA)(hb:PWd X (.BoolOp .Or (b::rest) pos) tB):PWd X (.BoolOp .Or (a::b::rest) pos) (dOr tA tB):=pw_w (pw_or ha hb) λ σ H Q h=>by
 obtain⟨τ,M,Qd,A,h,k⟩:=h;refine⟨τ,M,_,A,h,λ b H1 M1 kp m1 q1=>?_⟩;cases b with
 | false=>rw[if_neg Bool.false_ne_true] at q1 ⊢;exact⟨τ,M1,Qd,A.go kp m1,q1,λ b H2 M2 kp2 m2 q2=>k b H2 M2 (kp.trans kp2) m2 q2⟩
 | true=>rw[if_pos rfl] at q1 ⊢;exact k _ H1 M1 kp m1 q1
theorem aiC(h:PWd X e tA):PTd X e tA:=h.pt
theorem adC(ha:PTd X a tA):PTd X (.UnaryOp .Not a pos) (mN tA):=aho (afH ha) λ σ H Q h=>by obtain⟨τ,M,Qd,A,h,k⟩:=h;exact⟨τ,M,_,A,h,λ b H1 M1 kp m1 q1=>k (!b) H1 M1 kp m1 q1⟩
def j0(ta tb:TD)(τ:DS)(M:MH)(Q:QD):Prop:=ta τ M λ x M1=>∃ k,x=.d (.bool k)/\if k=true then tb τ M1 Q else Q (.d (.bool false)) M1
def aa8(ta:TD)(τ:DS)(M:MH)(Q:QD):Prop:=ta τ M λ x M1=>∃ k,x=.d (.bool k)/\Q (.d (.bool (!k))) M1
theorem aha{op}(h:PD X a ta):PD X (.BoolOp op [a] pos) ta:=agU h
theorem aeO(ha:PD X a ta)(hb:PD X (.BoolOp .And (b::rest) pos) tb):PD X (.BoolOp .And (a::b::rest) pos) (j0 ta tb):=iA (agi ha hb) λ σ H Q h=>by
 obtain⟨τ,M,Qd,A,h,k⟩:=h;refine⟨τ,M,_,A,h,λ x H1 w M1 kp r1 m1 hq38=>?_⟩;obtain⟨b,e,q1⟩:=hq38;subst e;simp only[aO,aG] at r1;refine⟨b,r1,?_⟩;cases b with
 | true=>rw[if_pos rfl] at q1 ⊢;exact⟨τ,M1,Qd,A.go kp m1,q1,kgo k kp⟩
 | false=>rw[if_neg Bool.false_ne_true] at q1 ⊢;exact k _ H1 _ M1 kp (by simp[aO,aG]) m1 q1
theorem af1(ha:PD X a ta):PD X (.UnaryOp .Not a pos) (aa8 ta):=iA (afh ha) λ σ H Q h=>by obtain⟨τ,M,Qd,A,h,k⟩:=h;refine⟨τ,M,_,A,h,λ x H1 w M1 kp r1 m1 hq39=>?_⟩;obtain⟨b,e,q1⟩:=hq39;subst e;simp only[aO,aG] at r1;exact⟨b,r1,k _ H1 _ M1 kp (by simp[aO,aG]) m1 q1⟩
def aix(t:TTd)(ta tb:TD)(τ:DS)(M:MH)(Q:QD):Prop:=t τ M λ k M1=>if k=true then ta τ M1 Q else tb τ M1 Q
theorem zu(hc:PTd X c tA)(ha:PD X a ta)(hb:PD X b tb):PD X (.IfExp c a b pos) (aix tA ta tb):=iA (aaz hc ha hb) λ σ H Q h=>by
 obtain⟨τ,M,Qd,A,h,k⟩:=h;refine⟨τ,M,_,A,h,λ b H1 M1 kp m1 q1=>?_⟩;cases b with
 | true=>rw[if_pos rfl] at q1 ⊢;exact⟨τ,M1,Qd,A.go kp m1,q1,kgo k kp⟩
 | false=>rw[if_neg Bool.false_ne_true] at q1 ⊢;exact⟨τ,M1,Qd,A.go kp m1,q1,kgo k kp⟩
variable {es:List Expr}{t:TAd}
def aB(_:DS)(M:MH)(Q:List W->MH->Prop):Prop:=Q [] M
def ae(ta:TD)(tr:TAd)(τ:DS)(M:MH)(Q:List W->MH->Prop):Prop:=ta τ M λ w M1=>tr τ M1 λ ws M2=>Q (w::ws) M2
theorem xP:PAd X [] aB:=aiV mX λ σ H Q ⟨τ,M,Qd,A,h,k⟩=>k [] H [] M (Kp.refl H) .nil A.mem h
theorem aaQ(ha:PD X e te)(hr:PAd X es t)(hs:starEach (e::es) X.env=(false,eval e X.env)::starEach es X.env:=by rfl):PAd X (e::es) (ae te t):=aiV (iG ha hr hs) λ σ H Q h=>by obtain⟨τ,M,Qd,A,h,k⟩:=h;exact⟨τ,M,_,A,h,λ x H1 w M1 kp r1 m1 q1=>⟨τ,M1,_,A.go kp m1,q1,λ xs H2 ws M2 kp2 r2 m2 q2=>k _ H2 _ M2 (kp.trans kp2) (.cons (r1.keep kp2) r2) m2 q2⟩⟩
def oJ:List W->Option (List PyData)
 | []=>some []
 | .d x::r=>(oJ r).map (x::·)
 | _::_=>none
theorem nU:∀ {ws:List W} {ds:List PyData},oJ ws=some ds->ws=ds.map W.d
 | [],ds,h=>by simp only[oJ] at h;cases h;rfl
 | .d x::r,ds,h=>by
  simp only[oJ] at h;cases q:oJ r with
  | none=>rw[q] at h;cases h
  | some l=>rw[q] at h;cases h;rw[nU q];rfl
 | .m _::_,ds,h=>by simp[oJ] at h
 | .t _::_,ds,h=>by simp[oJ] at h
def gW(t:TAd)(τ:DS)(M:MH)(Q:QD):Prop:=t τ M λ ws M1=>∃ ds,oJ ws=some ds/\ds.length<=sizeLine/\Q (.d (.list ds)) M1
theorem acm(hp:H p=none)(r:bt K H ds vs):aG K (upd H p (.frz o (.lst vs))) (.list ds) (.ref p):=by simp only[aG];exact⟨p,vs,rfl,.inl ⟨o,ar⟩,r.keep (Kp.new hp)⟩
theorem nV(hp:H p=none)(r:bt K H ds vs)(m:cX K H M)(q:Qd (.d (.list ds)) M)(k:Kont K H Qd Q) :
  ∃ p' u,V.ref p=.ref p'/\(upd H p (.lst vs)) p'=some u/\Fz u/\∀ o,Q (.ref p) (upd (upd H p (.lst vs)) p' (.frz o u)):=by
 refine⟨p,_,rfl,ar,trivial,λ o=>?_⟩;rw[yS];exact k _ _ (.d (.list ds)) M (Kp.new hp) (acm hp r) (m.new hp) q
theorem agH(h:PAd X es t):PD X (.List es pos) (gW t):=iA (oS (ab3 h)) λ σ H Q h=>by obtain⟨τ,M,Qd,A,h,k⟩:=h;refine⟨τ,M,_,A,h,λ vs H1 ws M1 kp r1 m1 hq40=>?_⟩;obtain⟨ds,e,hz,q1⟩:=hq40;have e':=nU e;subst e';have rA:=r1.data;exact⟨by rw[rA.length];exact hz,λ p hp=>nV hp rA m1 q1 (kgo k kp)⟩
def gy(t:TAd)(τ:DS)(M:MH)(Q:QD):Prop:=t τ M λ ws M1=>ws.length<=sizeLine/\∀ p,M1 p=none->Q (.m p) (bY M1 p (.lst ws))
theorem acR(h:PAd X es t):PD X (.List es pos) (gy t):=iA (ab3 h) λ σ H Q h=>by obtain⟨τ,M,Qd,A,h,k⟩:=h;refine⟨τ,M,_,A,h,λ vs H1 ws M1 kp r1 m1 ⟨hz,q1⟩=>⟨by rw[<- r1.length];exact hz,λ p hp=>?_⟩⟩;exact k _ _ (.m p) (bY M1 p (.lst ws)) (kp.trans (Kp.new hp)) rfl (m1.put (mo:=.lst ws) (Kp.new hp) ⟨vs,ar,r1.keep (Kp.new hp)⟩) (q1 p (m1.free hp))
def dF(t:TAd)(τ:DS)(M:MH)(Q:QD):Prop:=t τ M λ ws M1=>∃ ds,oJ ws=some ds/\ds.length<=sizeLine/\Q (.d (.tuple ds)) M1
theorem ae9{x1}(h:PAd X es t):PD X (.Tuple es x1 pos) (dF t):=iA (abb h) λ σ H Q h=>by obtain⟨τ,M,Qd,A,h,k⟩:=h;refine⟨τ,M,_,A,h,λ vs H1 ws M1 kp r1 m1 hq41=>?_⟩;obtain⟨ds,e,hz,q1⟩:=hq41;have e':=nU e;subst e';have rA:=r1.data;refine⟨by rw[rA.length];exact hz,λ p hp=>k _ _ (.d (.tuple ds)) M1 (kp.trans (Kp.new hp)) ?_ (m1.new hp) q1⟩;simp only[aO,aG];exact⟨p,vs,rfl,.inl (.inl ar),rA.keep (Kp.new hp)⟩
variable {x:Str}{p:Pos}{id T:String}{r:List V->Hp->VK->Prop}{rd:List W->MH->QD->Prop}
def fH(K:FG)(r:List V->Hp->VK->Prop)(rd:List W->MH->QD->Prop):Prop:=∀ vs H ws M Qd Q,bB K H ws vs->cX K H M->rd ws M Qd->Kont K H Qd Q->r vs H Q
def dCB(rd:List W->MH->QD->Prop)(t:TAd)(τ:DS)(M:MH)(Q:QD):Prop:=t τ M λ ws M1=>rd ws M1 Q
theorem abC(hd:fH K r rd)(h:up K (dCB rd t) σ H Q):tCB r (upA K t) σ H Q:=by obtain⟨τ,M,Qd,A,h,k⟩:=h;exact⟨τ,M,_,A,h,λ vs H1 ws M1 kp r1 m1 q1=>hd vs H1 ws M1 Qd Q r1 m1 q1 (kgo k kp)⟩
theorem aaO(hc:eI X (.builtin id) r)(hd:fH X.K r rd)(hg:Gl X x)(hm:X.mg x=none)(hv:bootBuiltins x=some (.builtin id))(ha:PAd X (e::es) t)(hn:x ≠ "__name__":= by decide)(hdb:ND x:=by decide)
  (he:starEach (e::es) X.env=(false,eval e X.env)::starEach es X.env:=by rfl)(hpl:(backTo pos (starEach es X.env)).any (·.1)=false:=by rfl):PD X (.Call (.Name x p) (e::es) [] pos) (dCB rd t):=
 iA (tu hc hg hm hv ha hn hdb he hpl) λ σ H Q h=>abC hd h
theorem yk(hc:eI X (.type T) r)(hd:fH X.K r rd)(hg:Gl X x)(hm:X.mg x=none)(hv:bootBuiltins x=some (.type T))(ha:PAd X (e::es) t)(hn:x ≠ "__name__":= by decide)(hdb:ND x:=by decide)
  (he:starEach (e::es) X.env=(false,eval e X.env)::starEach es X.env:=by rfl)(hpl:(backTo pos (starEach es X.env)).any (·.1)=false:=by rfl):PD X (.Call (.Name x p) (e::es) [] pos) (dCB rd t):=
 iA (yc hc hg hm hv ha hn hdb he hpl) λ σ H Q h=>abC hd h
end
section
variable {X:Cx}{pos:Pos}{st:Stmt}{sts:List Stmt}{t u:TSd}{e:Expr}{te:TD}{K:FG}
def cf(D:Ed)(τ:DS)(M:MH):Prop:=D.nx τ M
def bp(t u:TSd)(D:Ed)(τ:DS)(M:MH):Prop:=t {D with nx:=u D} τ M
theorem wI(h1:PSd X st t)(h2:md X sts u):md X (st::sts) (bp t u):=afL (oy h1 h2) λ D σ H ⟨τ,M,Dd,A,h,k1,k2,k3,k4⟩ =>
 ⟨τ,M,{Dd with nx:=u Dd},A,h,λ σ' H' τ' M' kp A' q=>⟨τ',M',Dd,A',q,λ σ2 H2 τ2 M2 kp2=>k1 σ2 H2 τ2 M2 (kp.trans kp2),λ v H2 w M2 kp2=>k2 v H2 w M2 (kp.trans kp2),λ σ2 H2 τ2 M2 kp2=>k3 σ2 H2 τ2 M2 (kp.trans kp2),λ σ2 H2 τ2 M2 kp2=>k4 σ2 H2 τ2 M2 (kp.trans kp2)⟩,k2,k3,k4⟩
theorem aap(h1:PSd X st t):md X [st] t:=si h1
def iu(te:TD)(D:Ed)(τ:DS)(M:MH):Prop:=te τ M λ _ M1=>D.nx τ M1
theorem aaS(he:PD X e te)(hs:swapsWith e none pos.line X.env=pure false:=by rfl):PSd X (.Expr e pos) (iu te):=u7 (acK he hs) λ D σ H ⟨τ,M,Dd,A,h,k1,_⟩ =>
 ⟨τ,M,_,A,h,λ v H1 w M1 kp r m q=>k1 σ H1 τ M1 kp (A.go kp m) q⟩
def de(te:TD)(D:Ed)(τ:DS)(M:MH):Prop:=te τ M D.rt
theorem ac7(he:PD X e te):PSd X (.Return (some e) pos) (de te):=u7 (agQ he) λ D σ H ⟨τ,M,Dd,A,h,k1,k2,_⟩=>⟨τ,M,_,A,h,λ v H1 w M1 kp r m q=>k2 v H1 w M1 kp r m q⟩
def dIf(c:TTd)(t u:TSd)(D:Ed)(τ:DS)(M:MH):Prop:=c τ M λ b M1=>if b=true then t D τ M1 else u D τ M1
theorem ag2(hc:PTd X c tc)(ha:md X a t)(hb:md X b u):PSd X (.If c a b pos) (dIf tc t u):=u7 (aie hc ha hb) λ D σ H hq42=>by
 obtain⟨τ,M,Dd,A,h,k1,k2,k3,k4⟩:=hq42;refine⟨τ,M,_,A,h,λ b H1 M1 kp m q=>?_⟩;have go:∀ {t':TSd},t' Dd τ M1->upS X.K t' D σ H1:=λ {t'} q=>⟨τ,M1,Dd,A.go kp m,q,λ σ2 H2 τ2 M2 kp2=>k1 σ2 H2 τ2 M2 (kp.trans kp2),λ v H2 w M2 kp2=>k2 v H2 w M2 (kp.trans kp2),λ σ2 H2 τ2 M2 kp2=>k3 σ2 H2 τ2 M2 (kp.trans kp2),λ σ2 H2 τ2 M2 kp2=>k4 σ2 H2 τ2 M2 (kp.trans kp2)⟩;cases b with
 | true=>rw[if_pos rfl] at q;show(if true=true then upS X.K t D σ H1 else upS X.K u D σ H1);rw[if_pos rfl];exact go q
 | false=>rw[if_neg Bool.false_ne_true] at q;show(if false=true then upS X.K t D σ H1 else upS X.K u D σ H1);rw[if_neg Bool.false_ne_true];exact go q
abbrev TGd:=W->DS->MH->(DS->MH->Prop)->Prop
def upG(K:FG)(g:TGd):TG:=λ v σ H Q=>∃ w τ M Qd,aO K H w v/\Abs K H σ τ M/\g w τ M Qd/\∀ σ' H' τ' M',Kp H H'->Abs K H' σ' τ' M'->Qd τ' M'->Q σ' H'
abbrev PGd(X:Cx)(e:Expr)(g:TGd):Prop:=PG X e (upG X.K g)
theorem aio(h:PG X e g)(k:∀ v σ H Q,g' v σ H Q->g v σ H Q):PG X e g':=λ pins s σ H v u Q I r q=>h pins s σ H v u Q I r (k v σ H Q q)
def gN(i:Nat)(w:W)(τ:DS)(M:MH)(Q:DS->MH->Prop):Prop:=Q (τ.set i (some w)) M
def cB(te:TD)(g:TGd)(D:Ed)(τ:DS)(M:MH):Prop:=te τ M λ w M1=>g w τ M1 D.nx
theorem ace(h:upS K (cB te g) D σ H):ahk (up K te) (upG K g) D σ H:=by obtain⟨τ,M,Dd,A,h,k1,_⟩:=h;exact⟨τ,M,_,A,h,λ v H1 w M1 kp r m q=>⟨w,τ,M1,_,r,A.go kp m,q,λ σ2 H2 τ2 M2 kp2 A2 q2=>k1 σ2 H2 τ2 M2 (kp.trans kp2) A2 q2⟩⟩
theorem adN(he:PD X e te)(hg:PGd X tg g)(hs:swapsWithSole [tg] e pos.line X.env=pure false:=by rfl)(hw:swappedStores [tg] e X.env=pure none:=by rfl)
  (h1:(assignEach [tg] X.env).map (·.2)=[assign tg X.env]:=by rfl):PSd X (.Assign [tg] e pos) (cB te g):=u7 (agC he hg hs hw h1) λ D σ H h=>ace h
theorem ac1(hN:X.N.Nodup)(hi:X.N[i]? =some x)(hx:Loc X.env.scope x)(he:PD X e te)(hs:swapsWith e (some (.Name x pos')) pos.line X.env=pure false:=by rfl)(hf:X.fn x=true\/X.env.scope.names.lookup x=some .local:=by first | exact .inl rfl | exact .inr rfl | assumption) :
  PSd X (.Assign [.Name x pos'] e pos) (cB te (gN i)):=u7 (agm hN hi hx he hs hf) λ D σ H ⟨τ,M,Dd,A,h,k1,_⟩ =>
 ⟨τ,M,_,A,h,λ v H1 w M1 kp r m q=>k1 _ H1 _ M1 kp ((A.go kp m).set i r) q⟩
end
abbrev SpD:=List W->MH->QD->Prop
def dX(K:FG)(sp:SpD):Sp:=λ vs H Q _=>∃ ws M Qd,bB K H ws vs/\cX K H M/\sp ws M Qd/\Kont K H Qd Q
def bf(sp:SpD)(t:TAd)(τ:DS)(M:MH)(Q:QD):Prop:=t τ M λ ws M1=>sp ws M1 Q
theorem ab9(F:cj X.prog X.w X.K X.mg X.base CX0 k f fd ps (dX X.K sp))(hr:eM k X.A)(hg:Gl X x)(hm:X.mg x=some (.ref f))(hk:W.keepIn X.K (.ref f)=true)(hb:Binds X.K fd ps [])
  (ha:PAd X (e::es) t)(hdb:ND x:=by decide)(he:starEach (e::es) X.env=(false,eval e X.env)::starEach es X.env:=by rfl)(hpl:(backTo pos (starEach es X.env)).any (·.1)=false:=by rfl) :
  PD X (.Call (.Name x p) (e::es) [] pos) (bf sp t):=iA (acs (E:=E0) (dvs:=[]) F hr hg hm hk hb .nil aip ha hdb he hpl) λ σ H Q h=>by
 obtain⟨τ,M,Qd,A,h,k⟩:=h;exact⟨τ,M,_,A,h,λ vs H1 ws M1 kp r1 m1 q1=>⟨ws,M1,Qd,by rw[List.append_nil];exact r1,m1,q1,kgo k kp⟩⟩
def dg(N:List Str)(ws:List W):DS:=ws.map some++List.replicate (N.length-ws.length) none
section
variable {P:Program}{w:World}{K:FG}{mg:Str->Option Value}{base:Heap}
theorem iP(r:bB K H ws vs)(m:cX K H M):Abs K H (start N vs) (dg N ws) M:=by
 have hl:=r.length;refine⟨?_,λ i w e=>?_,m⟩
 ·simp[L2.start,dg,hl]
 ·unfold dg at e
  by_cases hi:i<ws.length
  ·rw[List.getElem?_append_left (by simpa using hi),List.getElem?_map] at e;cases q:ws[i]? with
   | none=>rw[q] at e;cases e
   | some w' =>
    rw[q] at e;cases e;obtain⟨v,e1,r1⟩:=r.get q;refine⟨v,?_,r1⟩;unfold L2.start;rw[List.getElem?_append_left (by rw[List.length_map,<- hl];exact hi),List.getElem?_map,e1];rfl
  ·rw[List.getElem?_append_right (by simpa using hi),List.getElem?_replicate] at e
   split at e<;>cases e
theorem cM{x qual:Str}{st:Stmt}{N ps:List Str}{k:Nat}{sp:SpD}{t:TSd}(F:Fun K x qual st f fd)(S:aU N ps (aj st))(len:∀ ws M Q,sp ws M Q->ws.length=ps.length)
  (hbody:∀ (cdv:Value) (A:Around) (outer:List Env) (s:Shared) (H:Hp) (E:XK),eM k (A.deeper (envOfC qual (aj st) s.heap.objs.size f cdv)) ->
   md (sy CX0 P w K mg base N qual (aj st) f cdv A outer s H E).nox (bj st) t)
  (read:∀ ws M Q,sp ws M Q->t {nx:=λ _ M'=>Q (.d .none) M',rt:=Q} (dg N ws) M):cj P w K mg base CX0 (k+1) f fd ps (dX K sp):=by
 refine F.ok S (λ vs H Q E h=>?_) (λ cdv A outer s H vs Q E hr h=>?_)
 ·obtain⟨ws,M,Qd,r,_,q,_⟩:=h;rw[<- r.length];exact len _ _ _ q
 ·obtain⟨ws,M,Qd,r,m,q,kk⟩:=h;refine⟨_,hbody cdv A outer s H E hr,dg N ws,M,_,iP r m,read ws M Qd q,λ σ' H' τ' M' kp A' q'=>?_,λ v H' w' M' kp r' m' q'=>?_,λ σ' H' τ' M' kp A' q'=>q'.elim,λ σ' H' τ' M' kp A' q'=>q'.elim⟩
  ·exact kk _ H' _ M' kp (by simp[aO,aG]) A'.mem q'
  ·exact kk v H' w' M' kp r' m' q'
end
end D
namespace L2
structure iB(k:Nat)(A:Around):Prop where
 gd:A.guards=some []
 dp:A.depth+3 * k+5<recursionLimit
 un:A.units+16 * k+200<cLine
theorem iB.units(r:iB k A):A.units+64<cLine:=by have:=r.un;omega
theorem eM.h(r:eM k A):iB k A:=⟨r.gd,r.dp,r.un⟩
theorem iB.mark(r:iB k A)(v:Value):iB k (A.mark (some v)):=⟨r.gd,r.dp,r.un⟩
end L2
namespace D
open L2
mutual
theorem eZ(I:Inv X pins σ H s):∀ (d:PyData) {x:V} {u:Value},aG X.K H d x->RelV x u->d.hasDict=false->∃ as,Reads s.heap u d as
 | .none,x,u,h,r,_=>by simp only[aG] at h;subst h;cases (show u=Value.none from r);exact⟨_,.none⟩
 | .bool b,x,u,h,r,_=>by simp only[aG] at h;subst h;cases (show u=Value.bool b from r);exact⟨_,.bool b⟩
 | .int i,x,u,h,r,_=>by simp only[aG] at h;subst h;obtain⟨t,e⟩:=(show ∃ t,u=Value.int i t from r);subst e;exact⟨_,.int i t⟩
 | .str z,x,u,h,r,_=>by simp only[aG] at h;subst h;obtain⟨t,e⟩:=(show ∃ t,u=Value.str z t from r);subst e;exact⟨_,.str z t⟩
 | .list ds,x,u,h,r,hd=>by simp only[aG] at h;obtain⟨a,vs,e,hs,ra⟩:=h;subst e;cases (show u=Value.ref a from r);obtain⟨its,rv,⟨o,n,e1,e2,e3,e4⟩,hz⟩:=I.list hs.sq;obtain⟨as,q⟩:=ll I ds ra rv (by simpa [PyData.hasDict] using hd);exact⟨_,.list e1 e2 e4 (by simpa using q)⟩
 | .tuple ds,x,u,h,r,hd=>by simp only[aG] at h;obtain⟨a,vs,e,hs,ra⟩:=h;subst e;cases (show u=Value.ref a from r);obtain⟨its,rv,⟨o,e1,e2,n,e4⟩,hz⟩:=I.tuple hs;obtain⟨as,q⟩:=ll I ds ra rv (by simpa [PyData.hasDict] using hd);exact⟨_,.tuple e1 e2 e4 (by simpa using q)⟩
 | .dict kvs,x,u,h,r,hd=>by simp[PyData.hasDict] at hd
theorem ll(I:Inv X pins σ H s):∀ (ds:List PyData) {xs:List V} {us:List Value},bt X.K H ds xs->Vals xs us->PyData.hasDictAll ds=false->∃ as,ReadsAll s.heap us ds as
 | [],xs,us,h,r,_=>by simp only[bt] at h;subst h;cases r;exact⟨_,.nil⟩
 | d::ds,xs,us,h,r,hd=>by
  simp only[bt] at h;obtain⟨v,vr,e,h1,h2⟩:=h;subst e;simp only[PyData.hasDictAll,Bool.or_eq_false_iff] at hd;cases r with
  | cons r1 r2 =>
   obtain⟨as,q1⟩:=eZ I d h1 r1 hd.1;obtain⟨bs,q2⟩:=ll I ds h2 r2 hd.2;exact⟨_,.cons q1 q2⟩
end
def uO:PyData->Bool
 | .none | .bool _ | .int _ | .str _=>true
 | _=>false
theorem fI:∀ {d:PyData} {x:V} {u:Value} {h:Heap} {K:FG} {H:Hp},uO d=true->aG K H d x->RelV x u->Reads h u d []
 | .none,x,u,h,K,H,_,e,r=>by simp only[aG] at e;subst e;cases (show u=Value.none from r);exact .none
 | .bool b,x,u,h,K,H,_,e,r=>by simp only[aG] at e;subst e;cases (show u=Value.bool b from r);exact .bool b
 | .int i,x,u,h,K,H,_,e,r=>by simp only[aG] at e;subst e;obtain⟨t,z⟩:=(show ∃ t,u=Value.int i t from r);subst z;exact .int i t
 | .str i,x,u,h,K,H,_,e,r=>by simp only[aG] at e;subst e;obtain⟨t,z⟩:=(show ∃ t,u=Value.str i t from r);subst z;exact .str i t
 | .list _,_,_,_,_,_,f,_,_=>nomatch f
 | .tuple _,_,_,_,_,_,f,_,_=>nomatch f
 | .dict _,_,_,_,_,_,f,_,_=>nomatch f
theorem iC{P:Program}{w:World}{h:Heap}{K:FG}{H:Hp}:∀ {kvs:List (PyData×PyData)} {l:List (Key×V)} {vs:List (Key×Value)} {es:List DictEntry},(kvs.all λ p=>uO p.2)=true->lp K H kvs l->KV l vs->Pairs (bu P w) es vs ->
  ReadsAll h (es.map (·.key)) (kvs.map (·.1)) []/\ReadsAll h (es.map (·.val)) (kvs.map (·.2)) []
 | [],l,vs,es,_,r,kv,p=>by simp only[lp] at r;subst r;cases kv;cases p;exact⟨.nil,.nil⟩
 | (k,d)::kvs,l,vs,es,f,r,kv,p=>by
  simp only[lp] at r;obtain⟨key,v,lr,e,ek,r1,r2⟩:=r;subst e;rw[List.all_cons,Bool.and_eq_true] at f;cases kv with
  | cons q1 q2 =>
   rename_i kv0 vs0
   obtain⟨k0,u0⟩:=kv0;obtain⟨q1,q3⟩:=q1;cases p with
   | cons p1 p2 p3 =>
    rename_i en es0
    obtain⟨i1,i2⟩:=iC f.2 r2 q2 p3;have rk:Reads h en.key k []:=by
     have hk:qp k0 en.key=true:=p1;have hk0:key=k0:=q1;subst hk0;rw[ek];rcases bV hk with ⟨i,t,z1,z2⟩ | ⟨i,t,z1,z2⟩
     ·subst z1;rw[z2];exact .int i t
     ·subst z1;rw[z2];exact .str i t
    have rv:Reads h en.val d []:=by rw[p2];exact fI f.1 r1 q3
    exact⟨.cons rk i1,.cons rv i2⟩
def k8(d:PyData):Bool:=d.showable&&decide (d.shown.length<=sizeLine)&&decide (d.depth<=60)&&(!d.hasDict || match d with
 | .dict kvs=>kvs.all λ p=>uO p.2
 | _=>false)
theorem uG(I:Inv X pins σ H s){d:PyData}{x:V}{u:Value}(h:aG X.K H d x)(r:RelV x u)(ok:k8 d=true):∃ as,Reads s.heap u d as/\(d.hasDict=true->sysModules ∉ as):=by
 simp only[k8,Bool.and_eq_true,Bool.or_eq_true] at ok;cases hd:d.hasDict with
 | false =>
  obtain⟨as,q⟩:=eZ I d h r hd;exact⟨as,q,λ z=>absurd z (by simp)⟩
 | true =>
  have f:=ok.2.resolve_left (by simp[hd]);cases d with
  | dict kvs =>
   simp only[aG] at h;obtain⟨a,o,l,e,ha,rk⟩:=h;subst e;cases (show u=Value.ref a from r);obtain⟨z,hs,vs,kv,o',es,ep,e1,e2,e3,e4,e5,e6⟩:=rE I.hok (.inr ⟨o,ha⟩);obtain⟨q1,q2⟩:=iC (h:=s.heap) f rk kv e5;refine⟨_,.dict e1 e2.1 e3 q1 q2,λ _ hm=>?_⟩;simp only[List.append_nil] at hm;have hm':sysModules=a:=by simpa using hm
   rw[<- hm'] at hs;simp at hs
  | _=>exact absurd f (by simp)
def vD(d:PyData):Bool:=SeqAt.shaped d&&!d.hasDict
def gj:PyData->PyData->Bool
 | .str _,.str _=>true
 | d,d'=>vD d&&vD d'
theorem fK(h:gj d d'=true):(∃ x y,d=.str x/\d'=.str y)\/(vD d=true/\vD d'=true):=by
 cases d with
 | str x =>
  cases d' with
  | str y=>exact .inl ⟨x,y,rfl,rfl⟩
  | _=>exact .inr (by simpa [gj] using h)
 | _=>exact .inr (by simpa [gj] using h)
theorem ya(x y:Str):decide (V.str x=V.str y)=PyData.eqv (.str x) (.str y):=by
 rw[PyData.eqv]
 by_cases e:x=y
 ·subst e;simp
 ·rw[decide_eq_false (λ z=>e (V.str.inj z))];exact(beq_eq_false_iff_ne.mpr e).symm
theorem xN(hr:iB k X.A):OpR X (compareOp .Eq) (λ x y H Q=>∃ d d',aG X.K H d x/\aG X.K H d' y/\gj d d'=true/\Q (.bl (PyData.eqv d d')) H):=by
 intro pins s σ H x y v u Q I rx ry h;obtain⟨d,d',h1,h2,o,q⟩:=h;rcases fK o with ⟨a,b,e1,e2⟩ | ⟨o1,o2⟩
 ·subst e1;subst e2;simp only[aG] at h1 h2;subst h1;subst h2;exact ahU pins s σ H _ _ v u Q I rx ry ⟨rfl,by rw[ya];exact q⟩
 simp only[vD,Bool.and_eq_true,Bool.not_eq_true'] at o1 o2;obtain⟨as,r1⟩:=eZ I d h1 rx o1.2;obtain⟨bs,r2⟩:=eZ I d' h2 ry o2.2;exact eq_dataH r1 r2 o1.1 o2.1 hr.units ⟨.bl _,H,I,rfl,q⟩
theorem agB(hr:iB k X.A):OpR X (compareOp .NotEq) (λ x y H Q=>∃ d d',aG X.K H d x/\aG X.K H d' y/\gj d d'=true/\Q (.bl (!PyData.eqv d d')) H):=by
 intro pins s σ H x y v u Q I rx ry h;obtain⟨d,d',h1,h2,o,q⟩:=h;rcases fK o with ⟨a,b,e1,e2⟩ | ⟨o1,o2⟩
 ·subst e1;subst e2;simp only[aG] at h1 h2;subst h1;subst h2;exact ah6 pins s σ H _ _ v u Q I rx ry ⟨rfl,by rw[ya];exact q⟩
 simp only[vD,Bool.and_eq_true,Bool.not_eq_true'] at o1 o2;obtain⟨as,r1⟩:=eZ I d h1 rx o1.2;obtain⟨bs,r2⟩:=eZ I d' h2 ry o2.2;exact ne_dataH r1 r2 o1.1 o2.1 hr.units ⟨.bl _,H,I,rfl,q⟩
def tyD:PyData->String
 | .none => "NoneType"
 | .bool _ => "bool"
 | .int _ => "int"
 | .str _ => "str"
 | .list _ => "list"
 | .tuple _ => "tuple"
 | .dict _ => "dict"
inductive Ty6:String->Prop where
 | int:Ty6 "int" | bool:Ty6 "bool" | str:Ty6 "str" | list:Ty6 "list" | tuple:Ty6 "tuple" | dict:Ty6 "dict"
def lX(d:PyData)(T:String):Bool:=tyD d==T || (T == "int" && tyD d == "bool")
theorem yi{K:FG}(d:PyData){T:String}(h:Ty6 T):W.kitOne K (.type (tyD d)) (.type T)=some (lX d T):=by
 cases h<;>cases d<;>rfl
theorem yz:eI X (.builtin "isinstance") (λ xs H Q=>∃ x d T,xs=[x,.ty T]/\aG X.K H d x/\Ty6 T/\Q (.bl (lX d T)) H):=by
 intro pins s σ H xs us Q I r h;obtain⟨x,d,T,rfl,rd,h6,q⟩:=h;obtain⟨u,w',rfl,rx,ry⟩:=vals2 r;cases (show w'=Value.type T from ry);have e:=yi (K:=X.K) d h6;have fin:∀ tk,EP X pins σ Q (.bool (lX d T)) {s with toks:=tk}:=λ tk=>⟨.bl _,H,I.tok _,rfl,q⟩;generalize lX d T=b at e fin;cases d with
 | none=>simp only[aG] at rd;subst rd;cases (show u=Value.none from rx);exact W.kia_one W.kitx_none I.kIn True.intro e (λ z=>nomatch z) fin
 | bool y=>simp only[aG] at rd;subst rd;cases (show u=Value.bool y from rx);exact W.kia_one W.kitx_bool I.kIn True.intro e (λ z=>nomatch z) fin
 | int i=>simp only[aG] at rd;subst rd;obtain⟨t,z⟩:=(show ∃ t,u=Value.int i t from rx);subst z;exact W.kia_one W.kitx_int I.kIn True.intro e (λ z=>nomatch z) fin
 | str y=>simp only[aG] at rd;subst rd;obtain⟨t,z⟩:=(show ∃ t,u=Value.str y t from rx);subst z;exact W.kia_one W.kitx_str I.kIn True.intro e (λ z=>nomatch z) fin
 | list ds =>
  simp only[aG] at rd;obtain⟨a,vs,z,hs,_⟩:=rd;subst z;cases (show u=Value.ref a from rx);obtain⟨its,rv,⟨o,n,e1,e2,e3,e4⟩,hz⟩:=I.list hs.sq;exact W.kia_one W.kitx_list I.kIn ⟨_,e1,e2⟩ e (λ z=>nomatch z) fin
 | tuple ds =>
  simp only[aG] at rd;obtain⟨a,vs,z,hs,_⟩:=rd;subst z;cases (show u=Value.ref a from rx);obtain⟨its,rv,⟨o,e1,e2,e3⟩,hz⟩:=I.tuple hs;exact W.kia_one W.kitx_tuple I.kIn ⟨_,e1,e2⟩ e (λ z=>nomatch z) fin
 | dict kvs =>
  simp only[aG] at rd;obtain⟨a,o,l,z,ha,_⟩:=rd;subst z;cases (show u=Value.ref a from rx);obtain⟨_,hs,vs,kv,o',es,ep,e1,e2,_⟩:=rE I.hok (.inr ⟨o,ha⟩);exact W.kia_one W.kitx_dict I.kIn ⟨_,e1,e2.1⟩ e (λ z=>nomatch z) fin
theorem oV{K:FG}{H:Hp}:∀ {bs:List Bool} {vs:List V} {us:List Value},bt K H (bs.map PyData.bool) vs->Vals vs us->LSm.BoolsAre us bs
 | [],vs,us,h,r=>by simp only[List.map_nil,bt] at h;subst h;cases r;exact .nil
 | b::bs,vs,us,h,r=>by
  simp only[List.map_cons,bt] at h;obtain⟨v,vr,e,h1,h2⟩:=h;subst e;simp only[aG] at h1;subst h1;cases r with
  | cons r1 r2=>cases (show _=Value.bool b from r1);exact .cons b (oV h2 r2)
theorem oQ(hc:X.calm=true):eI X (.builtin "all") (λ xs H Q=>∃ (x:V) (bs:List Bool),xs=[x]/\aG X.K H (.list (bs.map PyData.bool)) x/\Q (.bl (bs.all id)) H):=by
 intro pins s σ H xs us Q I r h;obtain⟨x,bs,rfl,rd,q⟩:=h;obtain⟨u,rfl,rx⟩:=vals1 r;simp only[aG] at rd;obtain⟨a,vs,z,hs,ra⟩:=rd;subst z;cases (show u=Value.ref a from rx);obtain⟨its,rv,pl,hz⟩:=I.list hs.sq;obtain⟨m,F⟩:=I.fr;have N:News X.base X.env.locals s.heap []:=λ p hp=>nomatch hp;have hb:=oV ra rv;have hl:s.heap.IsList a its.toArray:=pl.isList;have hlt:a<s.heap.objs.size:=by obtain⟨_,e,_⟩:=hl;exact Heap.lt_size e
 refine call_all_walk (wpAny_pyIter_list hl ?_);refine⟨s.heap.objs.size,[s.heap.objs.size,a],[s.heap.objs.size],its.toArray.size,_,_,λ i=>(bs[i]?).getD true,rfl,Walks.list (A:=X.A.in1) (I.ok.hd hc) _ a (Nat.ne_of_lt hlt) its.toArray,
  ⟨⟨_,Heap.get?_push_size _ rfl,rfl,rfl⟩,hl.push _⟩,λ i v s' Q' E' hP hQ=>?_,λ h' tk hk=>?_⟩
 ·obtain⟨b,e,rfl⟩:=hb.get i v (by simpa using hP);simp only[e,Option.getD_some] at hQ;exact wpAny_truthy_bool hQ
 ·have e:((List.range its.toArray.size).all λ i=>(bs[i]?).getD true)=bs.all id:=by rw[List.size_toArray,hb.length];exact LSm.range_all bs
  rw[e];exact⟨.bl _,H,I.kept (LSm.kept_iter hk),rfl,q⟩
end D
namespace D
open L2
section
variable {X:Cx}{K:FG}
theorem OpR.or(h:OpR X f r)(h':OpR X f r'):OpR X f (λ x y H Q=>r x y H Q\/r' x y H Q):=by
 intro pins s σ H x y v u Q I rx ry q;rcases q with q | q
 ·exact h pins s σ H x y v u Q I rx ry q
 ·exact h' pins s σ H x y v u Q I rx ry q
theorem OpD.or(h:OpD K r rd)(h':OpD K r' rd'):OpD K (λ x y H Q=>r x y H Q\/r' x y H Q) (λ w w' M Q=>rd w w' M Q\/rd' w w' M Q):=by
 intro x y H w w' M Qd Q r1 r2 m q k;rcases q with q | q
 ·exact .inl (h x y H w w' M Qd Q r1 r2 m q k)
 ·exact .inr (h' x y H w w' M Qd Q r1 r2 m q k)
def adO(g:Int->Int->PyData)(w:W)(w':W)(M:MH)(Q:QD):Prop:=∃ i j,w=.d (.int i)/\w'=.d (.int j)/\Q (.d (g i j)) M
def rdI(C:Int->Int->Prop)(g:Int->Int->PyData)(w:W)(w':W)(M:MH)(Q:QD):Prop:=∃ i j,w=.d (.int i)/\w'=.d (.int j)/\C i j/\Q (.d (g i j)) M
theorem mz(hg:∀ i j H,aG K H (gd i j) (g i j)):OpD K (rI0 g) (adO gd):=by intro x y H w w' M Qd Q r1 r2 m ⟨i,j,e1,e2,q⟩ k;subst e1;subst e2;simp only[aO,aG] at r1 r2;exact⟨i,j,r1,r2,k _ H (.d (gd i j)) M (Kp.refl H) (hg i j H) m q⟩
theorem ad1(hg:∀ i j H,aG K H (gd i j) (g i j)):OpD K (rI C g) (rdI C gd):=by intro x y H w w' M Qd Q r1 r2 m ⟨i,j,e1,e2,c,q⟩ k;subst e1;subst e2;simp only[aO,aG] at r1 r2;exact⟨i,j,r1,r2,c,k _ H (.d (gd i j)) M (Kp.refl H) (hg i j H) m q⟩
def xr(w w':W)(M:MH)(Q:QD):Prop:=adO (λ i j=>.int (i-j)) w w' M Q
def iz(w w':W)(M:MH)(Q:QD):Prop:=rdI afR (λ i j=>.int (i * j)) w w' M Q
def eV(w w':W)(M:MH)(Q:QD):Prop:=rdI (λ _ j=>0<j) (λ i j=>.int (i % j)) w w' M Q
def xI(w w':W)(M:MH)(Q:QD):Prop:=rdI ais (λ i j=>.int (i / j)) w w' M Q
def dq(w:W)(w':W)(M:MH)(Q:QD):Prop:=adO (λ i j=>.int (i+j)) w w' M Q\/∃ x y,w=.d (.str x)/\w'=.d (.str y)/\x.length+y.length<=sizeLine/\Q (.d (.str (x++y))) M
theorem sH:OpD K (rI0 λ i j=>.int (i-j)) xr:=mz λ _ _ _=>by simp[aG]
theorem jC:OpD K (rI afR λ i j=>.int (i * j)) iz:=ad1 λ _ _ _=>by simp[aG]
theorem eS:OpD K (rI (λ _ j=>0<j) λ i j=>.int (i % j)) eV:=ad1 λ _ _ _=>by simp[aG]
theorem yg:OpD K (rI ais λ i j=>.int (i / j)) xI:=ad1 λ _ _ _=>by simp[aG]
def adf:R2:=λ x y H Q=>∃ i j,x=.str i/\y=.str j/\i.length+j.length<=sizeLine/\Q (.str (i++j)) H
theorem zH:OpD K adf (λ w w' M Q=>∃ x y,w=.d (.str x)/\w'=.d (.str y)/\x.length+y.length<=sizeLine/\Q (.d (.str (x++y))) M):=by intro x y H w w' M Qd Q r1 r2 m ⟨i,j,e1,e2,c,q⟩ k;subst e1;subst e2;simp only[aO,aG] at r1 r2;exact⟨i,j,r1,r2,c,k _ H (.d (.str (i++j))) M (Kp.refl H) (by simp[aO,aG]) m q⟩
theorem cn:OpR X (binaryOp .Add) (λ x y H Q=>rI0 (λ i j=>.int (i+j)) x y H Q\/adf x y H Q):=OpR.or aeH vy
theorem bz:OpD K (λ x y H Q=>rI0 (λ i j=>.int (i+j)) x y H Q\/adf x y H Q) dq:=OpD.or (mz λ _ _ _=>by simp[aG]) zH
def rS(g:Str->Str->Bool):R2:=λ x y H Q=>∃ i j,x=.str i/\y=.str j/\Q (.bl (g i j)) H
def rdS(g:Str->Str->Bool)(w:W)(w':W)(M:MH)(Q:QD):Prop:=∃ i j,w=.d (.str i)/\w'=.d (.str j)/\Q (.d (.bool (g i j))) M
theorem afF:OpD K (rS g) (rdS g):=by intro x y H w w' M Qd Q r1 r2 m ⟨i,j,e1,e2,q⟩ k;subst e1;subst e2;simp only[aO,aG] at r1 r2;exact⟨i,j,r1,r2,k _ H (.d (.bool (g i j))) M (Kp.refl H) (by simp[aO,aG]) m q⟩
theorem yP:OpR X (compareOp .LtE) (rS λ x y=>!decide (y.cps.toList<x.cps.toList)):=by intro pins s σ H x y v u Q I rx ry h;obtain⟨i,j,rfl,rfl,q⟩:=h;obtain⟨t,rfl⟩:=rx;obtain⟨t',rfl⟩:=ry;exact PySem.P.le_str ⟨.bl _,H,I,rfl,q⟩
def vd(w:W)(w':W)(M:MH)(Q:QD):Prop:=adO (λ i j=>.bool (decide (i<=j))) w w' M Q\/rdS (λ x y=>!decide (y.cps.toList<x.cps.toList)) w w' M Q
theorem gg:OpR X (compareOp .LtE) (λ x y H Q=>rI0 (λ i j=>.bl (decide (i<=j))) x y H Q\/rS (λ x y=>!decide (y.cps.toList<x.cps.toList)) x y H Q):=OpR.or aiu yP
theorem ef:OpD K (λ x y H Q=>rI0 (λ i j=>.bl (decide (i<=j))) x y H Q\/rS (λ x y=>!decide (y.cps.toList<x.cps.toList)) x y H Q) vd:=OpD.or (mz λ _ _ _=>by simp[aG]) afF
def ahc(w w':W)(M:MH)(Q:QD):Prop:=adO (λ i j=>.bool (decide (i<j))) w w' M Q
def abV(w w':W)(M:MH)(Q:QD):Prop:=adO (λ i j=>.bool (decide (j<i))) w w' M Q
def agP(w w':W)(M:MH)(Q:QD):Prop:=adO (λ i j=>.bool (decide (j<=i))) w w' M Q
theorem abK:OpD K (rI0 λ i j=>.bl (decide (i<j))) ahc:=mz λ _ _ _=>by simp[aG]
theorem oZ:OpD K (rI0 λ i j=>.bl (decide (j<i))) abV:=mz λ _ _ _=>by simp[aG]
theorem yO:OpD K (rI0 λ i j=>.bl (decide (j<=i))) agP:=mz λ _ _ _=>by simp[aG]
def aiU(w:W)(w':W)(M:MH)(Q:QD):Prop:=∃ d d',w=.d d/\w'=.d d'/\gj d d'=true/\Q (.d (.bool (PyData.eqv d d'))) M
theorem agV:OpD K (λ x y H Q=>∃ d d',aG K H d x/\aG K H d' y/\gj d d'=true/\Q (.bl (PyData.eqv d d')) H) aiU:=by intro x y H w w' M Qd Q r1 r2 m ⟨d,d',e1,e2,o1,q⟩ k;subst e1;subst e2;exact⟨d,d',r1,r2,o1,k _ H (.d (.bool _)) M (Kp.refl H) (by simp[aO,aG]) m q⟩
def inS(x y:Str):Bool:=!(Builtin.Str.occurrences y x 0 y.length 1).isEmpty
def gR(w:W)(M:MH)(Q:QD):Prop:=∃ i,w=.d (.int i)/\Q (.d (.int (-i))) M
theorem eA:UnD K (rU λ i=>.int (-i)) gR:=by intro x H w M Qd Q r m ⟨i,e,q⟩ k;subst e;simp only[aO,aG] at r;exact⟨i,r,k _ H (.d (.int (-i))) M (Kp.refl H) (by simp[aO,aG]) m q⟩
def vw:W->Bool
 | .d (.str z)=>decide (z.length<=sizeLine)
 | _=>true
def ixW(M:MH):W->Int->Option W
 | .d (.list ds),i=>(atI ds i).map W.d
 | .d (.tuple ds),i=>(atI ds i).map W.d
 | .d (.str z),i=>(atI z.cps.toList i).map λ c=>W.d (.str ⟨#[c]⟩)
 | .m a,i=>match M a with
  | some (.lst ws)=>atI ws i
  | some (.tup ws)=>atI ws i
  | _=>none
 | _,_=>none
inductive RIx(w:W) (w':W) (M:MH) (Q:QD):Prop
 | mk (i:Int) (x:W) (z0:w'=.d (.int i)) (z1:ixW M w i=some x) (z2:vw w=true) (q:Q x M):RIx w w' M Q
def cY(w:W)(w':W)(M:MH)(Q:QD):Prop:=RIx w w' M Q
theorem tP(r:bt K H ds vs)(e:atI ds i=some d):∃ v,atI vs i=some v/\aG K H d v:=by
 unfold atI at e ⊢;rw[r.length];cases q:ixN ds.length i with
 | none=>rw[q] at e;cases e
 | some j =>
  rw[q] at e;exact r.get e
theorem qH(r:bB K H ds vs)(e:atI ds i=some d):∃ v,atI vs i=some v/\aO K H d v:=by
 unfold atI at e ⊢;rw[<- r.length];cases q:ixN ds.length i with
 | none=>rw[q] at e;cases e
 | some j =>
  rw[q] at e;exact r.get e
theorem bb:OpD K (rIx K) cY:=by
 intro x y H w w' M Qd Q r1 r2 m ⟨i,z,e2,ei,hf,q⟩ k;subst e2;simp only[aO,aG] at r2;cases w with
 | t n=>simp[ixW] at ei
 | m a =>
  simp only[aO] at r1;simp only[ixW] at ei;cases hm:M a with
  | none=>rw[hm] at ei;cases ei
  | some mo =>
   rw[hm] at ei;cases mo with
   | lst ws =>
    obtain⟨vs,e1,rw1⟩:=m a _ hm;obtain⟨v,e3,rv⟩:=qH rw1 ei;exact .inl ⟨a,vs,i,v,r1,r2,SqL.of e1,e3,k v H z M (Kp.refl H) rv m q⟩
   | dic _=>cases ei
   | dct _=>cases ei
   | fdic _=>cases ei
   | ins _ _=>cases ei
   | tup ws =>
    obtain⟨vs,e1,rw1⟩:=m a _ hm;obtain⟨v,e3,rv⟩:=qH rw1 ei;exact .inr (.inl ⟨a,vs,i,v,r1,r2,.inl (.inl e1),e3,k v H z M (Kp.refl H) rv m q⟩)
   | flst _=>cases ei
   | exc _ _=>cases ei
   | code _ _=>cases ei
 | d d =>
  cases d with
  | list ds =>
   simp only[aO,aG] at r1;obtain⟨a,vs,e1,hs,ra⟩:=r1;simp only[ixW] at ei;cases h:atI ds i with
   | none=>rw[h] at ei;cases ei
   | some d =>
    rw[h] at ei;cases ei;obtain⟨v,e3,rv⟩:=tP ra h;exact .inl ⟨a,vs,i,v,e1,r2,hs.sq,e3,k v H (.d d) M (Kp.refl H) rv m q⟩
  | tuple ds =>
   simp only[aO,aG] at r1;obtain⟨a,vs,e1,hs,ra⟩:=r1;simp only[ixW] at ei;cases h:atI ds i with
   | none=>rw[h] at ei;cases ei
   | some d =>
    rw[h] at ei;cases ei;obtain⟨v,e3,rv⟩:=tP ra h;exact .inr (.inl ⟨a,vs,i,v,e1,r2,hs,e3,k v H (.d d) M (Kp.refl H) rv m q⟩)
  | str s =>
   simp only[aO,aG] at r1;simp only[ixW] at ei;cases h:atI s.cps.toList i with
   | none=>rw[h] at ei;cases ei
   | some c =>
    rw[h] at ei;cases ei;exact .inr (.inr ⟨s,i,c,r1,r2,of_decide_eq_true hf,h,k _ H (.d (.str ⟨#[c]⟩)) M (Kp.refl H) (by simp[aO,aG]) m q⟩)
  | _=>simp[ixW] at ei
theorem acT(h:PE X e t):PE X e (λ σ H Q=>t σ H λ v H1=>Q v H1\/∃ p u,v=.ref p/\H1 p=some u/\Fz u/\∀ o,Q v (upd H1 p (.frz o u))):=by
 intro pins s σ H Q I hq;refine thn (h pins s σ H _ I hq) λ v s1 hq43=>?_;obtain⟨x,H1,I1,r1,q⟩:=hq43;rcases q with q | ⟨p,u,e1,e2,f,q⟩
 ·exact⟨x,_,I1,r1,q⟩
 ·obtain⟨o,I2⟩:=I1.freeze e2 f;exact⟨x,_,I2,r1,q o⟩
def ai4:V->Option Int->Option Int->Hp->VK->Prop:=λ x lo hi H Q=>∃ z,x=.str z/\z.length<=sizeLine/\Q (.str (Txt.slice z lo hi)) H
theorem aeR:SlR X ai4:=by
 intro pins s σ H x v vl vu lo hi sl Q I rx hs pl pu h;obtain⟨z,rfl,hz,q⟩:=h;obtain⟨t,rfl⟩:=rx;have fin:∀ t' k,EP X pins σ Q (.str (Txt.slice z lo hi) t') {s with toks:=k}:=λ t' k=>⟨.str _,H,I.tok _,⟨_,rfl⟩,q⟩;refine⟨"str",_,F.slot_str_getitem.lookup,typeIs_str _ _ _,?_⟩;cases pl with
 | none =>
  cases pu with
  | none=>exact wpAny_getItem_str_slice (l:=none) (u:=none) (st:=none) hs rfl (post_val_or_str ⟨Nat.le_trans (Txt.slice_le z _ _) hz,fin⟩)
  | int j uj=>exact wpAny_getItem_str_slice (l:=none) (u:=some (j,uj)) (st:=none) hs rfl (post_val_or_str ⟨Nat.le_trans (Txt.slice_le z _ _) hz,fin⟩)
 | int i ui =>
  cases pu with
  | none=>exact wpAny_getItem_str_slice (l:=some (i,ui)) (u:=none) (st:=none) hs rfl (post_val_or_str ⟨Nat.le_trans (Txt.slice_le z _ _) hz,fin⟩)
  | int j uj=>exact wpAny_getItem_str_slice (l:=some (i,ui)) (u:=some (j,uj)) (st:=none) hs rfl (post_val_or_str ⟨Nat.le_trans (Txt.slice_le z _ _) hz,fin⟩)
abbrev TOd:=DS->MH->(Option Int->MH->Prop)->Prop
def upO(K:FG)(t:TOd):TO:=λ σ H Q=>∃ τ M Qd,Abs K H σ τ M/\t τ M Qd/\∀ b H' M',Kp H H'->cX K H' M'->Qd b M'->Q b H'
abbrev POd(X:Cx)(e:Option Expr)(t:TOd):Prop:=PO X e (upO X.K t)
theorem aiQ(h:PO X e t)(k:∀ σ H Q,t' σ H Q->t σ H Q):PO X e t':=λ pins s σ H Q I q=>h pins s σ H Q I (k σ H Q q)
def aK(_:DS)(M:MH)(Q:Option Int->MH->Prop):Prop:=Q none M
def bE(t:TD)(τ:DS)(M:MH)(Q:Option Int->MH->Prop):Prop:=t τ M λ w M1=>∃ i,w=.d (.int i)/\Q (some i) M1
theorem z6(h:PD X e te):POd X (some e) (bE te):=aiQ (adT h) λ σ H Q ⟨τ,M,Qd,A,q,k⟩=>⟨τ,M,_,A,q,λ v H1 w M1 kp r m hq44=>by obtain⟨i,e,q1⟩:=hq44;subst e;simp only[aO,aG] at r;exact⟨i,r,k _ H1 M1 kp m q1⟩⟩
def cutD(xs:List α)(lo hi:Option Int):List α:=(xs.drop (HT.sIx xs.length 0 lo)).take (HT.sIx xs.length xs.length hi-HT.sIx xs.length 0 lo)
def abz(n:Nat)(lo hi:Option Int):Bool:=decide (HT.sIx n 0 lo=0/\HT.sIx n n hi=n)
def slW:W->Option Int->Option Int->Option W
 | .d (.list ds),lo,hi=>some (.d (.list (cutD ds lo hi)))
 | .d (.tuple ds),lo,hi=>if abz ds.length lo hi then none else some (.d (.tuple (cutD ds lo hi)))
 | .d (.str z),lo,hi=>some (.d (.str (Txt.slice z lo hi)))
 | _,_,_=>none
def dSl(te:TD)(tl th:TOd)(τ:DS)(M:MH)(Q:QD):Prop:=te τ M λ w M1=>tl τ M1 λ lo M2=>th τ M2 λ hi M3=>∃ z,slW w lo hi=some z/\vw w=true/\Q z M3
theorem afz:SlR X (λ x lo hi H Q=>aiS X.K x lo hi H Q\/aiR X.K x lo hi H Q\/ai4 x lo hi H Q):=acb.or (afK.or aeR)
theorem bt.cut(r:bt K H ds vs)(lo hi:Option Int):bt K H (cutD ds lo hi) (abW vs lo hi):=by
 unfold cutD abW;rw[r.length];exact(r.drop _).take _
theorem zI{te:TD}{lo hi:Option Expr}{tl th:TOd}{pos p2:Pos}(he:PD X e te)(hl:POd X lo tl)(hu:POd X hi th):PD X (.Subscript e (.Slice lo hi none p2) pos) (dSl te tl th):=
 iA (acT (aao afz he hl hu)) λ σ H Q h=>by
  obtain⟨τ,M,Qd,A,h,k⟩:=h;refine⟨τ,M,_,A,h,λ v H1 w M1 kp1 r1 m1 q1=>⟨τ,M1,_,A.go kp1 m1,q1,λ lo H2 M2 kp2 m2 q2=>⟨τ,M2,_,A.go (kp1.trans kp2) m2,q2,λ hi H3 M3 kp3 m3 q3=>?_⟩⟩⟩;obtain⟨z,ez,hf,q⟩:=q3;have kp:=(kp1.trans kp2).trans kp3;have r:=r1.keep (kp2.trans kp3);cases w with
  | t n=>simp[slW] at ez
  | m a=>simp[slW] at ez
  | d d =>
   cases d with
   | list ds =>
    simp only[slW] at ez;cases ez;simp only[aO,aG] at r;obtain⟨a,vs,e1,hs,ra⟩:=r;exact .inl ⟨a,vs,e1,hs.sq,λ p hp=>.inr (nV hp (bt.cut ra lo hi) m3 q (kgo k kp))⟩
   | tuple ds =>
    simp only[slW] at ez
    split at ez
    ·cases ez
    ·rename_i hw
     cases ez;simp only[aO,aG] at r;obtain⟨a,vs,e1,hs,ra⟩:=r;refine .inr (.inl ⟨a,vs,e1,hs,?_,λ p hp=>.inl ?_⟩)
     ·rw[ra.length]
      simpa [abz] using hw
     ·refine k _ _ (.d (.tuple _)) M3 (kp.trans (Kp.new hp)) ?_ (m3.new hp) q;simp only[aO,aG];exact⟨p,_,rfl,.inl (.inl ar),(bt.cut ra lo hi).keep (Kp.new hp)⟩
   | str s =>
    simp only[slW] at ez;cases ez;simp only[aO,aG] at r;exact .inr (.inr ⟨s,r,of_decide_eq_true hf,.inl (k _ H3 (.d (.str _)) M3 kp (by simp[aO,aG]) m3 q)⟩)
   | _=>simp[slW] at ez
def vC(to ti:TD)(v:W)(τ:DS)(M:MH)(Q:DS->MH->Prop):Prop:=to τ M λ w M1=>ti τ M1 λ w' M2=>∃ a ws i j,w=.m a/\w'=.d (.int i)/\M2 a=some (.lst ws)/\ixN ws.length i=some j/\Q τ (bY M2 a (.lst (ws.set j v)))
theorem xj(m:cX K H M)(e:H a=some (.lst vs))(rw1:bB K H ws vs)(rv:aO K H w v) :
  Kp H (upd H a (.lst (vs.set j v)))/\cX K (upd H a (.lst (vs.set j v))) (bY M a (.lst (ws.set j w))):=by
 have kp:Kp H (upd H a (.lst (vs.set j v))):=Kp.set e (λ xs z=>nomatch z) λ _ _ z=>nomatch z;exact⟨kp,m.put kp ⟨_,ar,(bB.set rv j rw1).keep kp⟩⟩
theorem ad3(ho:PD X o to)(hi:PD X i ti)
  (ha:∀ v,assign (.Subscript o i pos) X.env v=(do
   let ov <- holding [v] (eval o X.env)
   let iv <- holding [v,ov] (eval i X.env)
   standAt pos
   holding [v,ov,iv] (setItem ov iv v)
   release [v,ov,iv] []):=by intro _;rfl):PGd X (.Subscript o i pos) (vC to ti):=aio (afA ho hi set_list ha) λ v σ H Q h=>by
 obtain⟨w,τ,M,Qd,rv,A,h,k⟩:=h;refine⟨τ,M,_,A,h,λ x H1 wo M1 kp1 r1 m1 q1=>⟨τ,M1,_,A.go kp1 m1,q1,λ y H2 wi M2 kp2 r2 m2 q2=>?_⟩⟩;obtain⟨a,ws,i,j,e1,e2,hm,hj,q⟩:=q2;subst e1;subst e2;simp only[aO,aG] at r1 r2;obtain⟨vs,e3,rw1⟩:=m2 a _ hm;have kp:=kp1.trans kp2;obtain⟨kp3,m3⟩:=xj (j:=j) m2 e3 rw1 (rv.keep kp);exact⟨a,vs,i,j,r1,r2,e3,by rw[<- rw1.length];exact hj,k σ _ τ _ (kp.trans kp3) (A.go (kp.trans kp3) m3) q⟩
theorem aaZ:aib X (ahG X.K):=by
 intro pins s σ H o i ov iv Q I ro ri h;obtain⟨p,xs,k,z,rfl,rfl,hq,he,q⟩:=h;cases ro;obtain⟨t,rfl⟩:=ri;obtain⟨its,r,pl,hz⟩:=I.list hq;obtain⟨j,h1,h2,h3,h4,h5⟩:=oB he;obtain⟨w,ew,rw'⟩:=r.get h2;have hl:=r.length;have hn:=mT;have fin:EP X pins σ Q w s:=⟨z,H,I,rw',q⟩
 by_cases h0:0<=k
 ·have hj:k.toNat=j:=by rw[seqIndex_of h0 h5] at h1;exact Option.some.inj h1
  exact wpAny_getItem_list pl.isList h0 (by omega) (by rw[hj];simpa using ew) fin
 ·have hj:(k+(its.toArray.size:Int)).toNat=j:=by rw[seqIndex_neg (by omega) h4] at h1;rw[List.size_toArray,<- hl];exact Option.some.inj h1
  exact wpAny_getItem_list_neg pl.isList (by omega) (by rw[List.size_toArray]<;>omega) (by omega) (by rw[hj];simpa using ew) fin
def aat(to ti te:TD)(f:Int->Int->Int)(D:Ed)(τ:DS)(M:MH):Prop:=to τ M λ w M1=>ti τ M1 λ w' M2=>∃ a ws i j n,w=.m a/\w'=.d (.int i)/\M2 a=some (.lst ws)/\ixN ws.length i=some j/\ws[j]? =some (.d (.int n)) /\
 te τ M2 λ y M3=>∃ n',y=.d (.int n')/\M3=M2/\D.nx τ (bY M3 a (.lst (ws.set j (.d (.int (f n n'))))))
theorem zF(ho:PD X o to)(hi:PD X i ti)(he:PD X e te)(hp:PIp X op (ipI f))
  (ha:∀ ov iv new,augStore i ov iv new=(do holding [new,ov,iv] (setItem ov iv new);release [new,ov,iv] [];pure .next):=by intros;rfl):PSd X (.AugAssign (.Subscript o i tpos) op e pos) (aat to ti te f):=
 u7 (wk ho hi aaZ he hp set_list ha) λ D σ H h=>by
  obtain⟨τ,M,Dd,A,h,k1,_⟩:=h;refine⟨τ,M,_,A,h,λ x H1 wo M1 kp1 r1 m1 q1=>⟨τ,M1,_,A.go kp1 m1,q1,λ y H2 wi M2 kp2 r2 m2 q2=>?_⟩⟩;obtain⟨a,ws,i,j,n,e1,e2,hm,hj,hn,q⟩:=q2;subst e1;subst e2;simp only[aO,aG] at r1 r2;obtain⟨vs,e3,rw1⟩:=m2 a _ hm;obtain⟨v,e4,rv⟩:=rw1.get hn;simp only[aO,aG] at rv;have hj':ixN vs.length i=some j:=by rw[<- rw1.length];exact hj
  refine⟨a,vs,i,v,r1,r2,SqL.of e3,by unfold atI;rw[hj'];exact e4,?_⟩;refine⟨τ,M2,_,A.go (kp1.trans kp2) m2,q,λ z H3 wz M3 kp3 r3 m3 q3=>?_⟩;obtain⟨n',e5,e6,qn⟩:=q3;subst e5;subst e6;simp only[aO,aG] at r3;refine⟨n,n',rv,r3,?_⟩;obtain⟨vs',e3',rw2⟩:=m3 a _ hm;have kp:=(kp1.trans kp2).trans kp3;obtain⟨kp4,m4⟩:=xj (j:=j) (v:=.int (f n n')) (w:=.d (.int (f n n'))) m3 e3' rw2 (by simp[aO,aG]);exact⟨a,vs',i,j,r1,r2,e3',by rw[<- rw2.length];exact hj,k1 σ _ τ _ (kp.trans kp4) (A.go (kp.trans kp4) m4) qn⟩
end
section
variable {X:Cx}{K:FG}{tg:Expr}
def Its(z:Str):It:=⟨λ i _=>i<z.cps.size,λ i H x H'=>H'=H/\∃ c,z.cps[i]? =some c/\x=.str ⟨#[c]⟩,λ i _=>z.cps.size<=i⟩
theorem uk(it:Addr)(T:String)(z:Str)(t:Tok)
  (hT:["enumerate", "zip", "dict_itemiterator", "dict_reverseitemiterator", "odict_iterator", "itertools.zip_longest", "itertools.pairwise"].contains T=false)
  (W:∀ A:Around,A.handled=none->Walks P w A it [it] [it] z.cps.size (SignAt z) (λ i h=>h.IsStrIter it T z t i))(hself:∀ (A:Around) (i:Nat) (s:Shared) (Q:VP) (E:VP),s.heap.IsStrIter it T z t i->Q (.ref it) s->wpAny (model P w) A (pyIter (.ref it)) Q E s)
  (hend:∀ (A:Around) (i:Nat) (s:Shared) (Q:Option Value->Shared->Prop) (E:VP),A.handled=none->s.heap.IsStrIter it T z t i->z.cps[i]? =none->(∀ h',Heap.ExtBut it s.heap h'->Q none {s with heap:=h'})->wpAny (model P w) A (pyNext (.ref it)) Q E s) :
  Turn P w K tg (Its z) [it] it (λ i h=>h.IsStrIter it T z t i) where
 mem:=by simp
 obj:=λ i h st b hb=>by
  have e:b=it:=by simpa using hb
  subst e;obtain⟨o,e,c,d⟩:=st;exact⟨o,e,λ v q=>by rw[d] at q;cases q⟩
 keep:=λ i h h' st k=>by obtain⟨o,e,r⟩:=st;exact⟨o,k it (by simp) o e,r⟩
 item:=by intro X hP hw hK hc i pins s σ H E I hf st hg;subst hP hw hK;obtain⟨f0,f1,f2,f3,f4,f5⟩:=hf it (by simp);refine(W X.A (I.ok.hd hc)).item i s _ _ hg st λ v h' tk hv st' kk=>?_;obtain⟨c,u,hc',rfl⟩:=hv;have I1:Inv X pins σ H {s with heap:=h',toks:=tk}:=I.turned (λ b o hb e=>kk b o (by simpa using hb) e) f0 f1 f3 f4 f5;obtain⟨o,e,cl,d⟩:=id st';exact⟨_,rfl,uM (s:={s with heap:=h',toks:=tk}) e cl d hT ⟨.str ⟨#[c]⟩,H,I1,⟨u,rfl⟩,⟨rfl,c,hc',rfl⟩,st',λ b hb=>(hf b hb).1⟩⟩
 done:=by intro X hP hw hK hc i pins s σ H E I hf st hg;subst hP hw hK;obtain⟨f0,f1,f2,f3,f4,f5⟩:=hf it (by simp);have hn:z.cps.size<=i:=hg;exact hend X.A i s _ E (I.ok.hd hc) st (by simp[hn]) λ h' eb=>⟨rfl,I.turned (t':=s.toks) (λ b o hb e=>eb b o hb e) f0 f1 f3 f4 f5⟩
 self:=hself
section
variable {pins:PN}{σ:St}{H:Hp}{s:Shared}{R:It->Hp->Prop}{E:VP}
theorem afU(I:Inv X pins σ H s)(q:R (Its z) H):wpAny (model X.prog X.w) X.A (pyIter (.str z t)) (PIE X pins σ tg R) E s:=by
 cases ha:z.cps.all (·<128)
 ·refine wpAny_pyIter_wide ha ?_;refine⟨s.heap.objs.size,[s.heap.objs.size],_,_,H,rfl,I.kept (t':=s.toks) λ b o e=>Heap.get?_push_of_some _ e,
   uk _ "str_iterator" z t (by decide) (λ A hA=>Walks.strWide hA _ z t) (λ A i s Q E st h=>wpAny_pyIter_striter_wide st h) (λ A i s Q E hh st hx hQ=>wpAny_pyNext_wide_end hh st hx hQ),⟨_,Heap.get?_push_size _ rfl,rfl,rfl⟩,λ b hb=>?_,q⟩
  have e:b=s.heap.objs.size:=by simpa using hb
  subst e;exact I.oz (Nat.le_refl _) (I.hok.fresh (Nat.le_refl _))
 ·refine wpAny_pyIter_ascii ha ?_;refine⟨s.heap.objs.size,[s.heap.objs.size],_,_,H,rfl,I.kept (t':=s.toks) λ b o e=>Heap.get?_push_of_some _ e,
   uk _ "str_ascii_iterator" z t (by decide) (λ A hA=>Walks.strAscii hA _ z t) (λ A i s Q E st h=>wpAny_pyIter_striter_ascii st h) (λ A i s Q E hh st hx hQ=>wpAny_pyNext_ascii_end hh st hx hQ),⟨_,Heap.get?_push_size _ rfl,rfl,rfl⟩,λ b hb=>?_,q⟩
  have e:b=s.heap.objs.size:=by simpa using hb
  subst e;exact I.oz (Nat.le_refl _) (I.hok.fresh (Nat.le_refl _))
theorem ads(I:Inv X pins σ H s)(hq:SqL X.K H a xs)(q:R (Itl X.K a) H):wpAny (model X.prog X.w) X.A (pyIter (.ref a)) (PIE X pins σ tg R) E s:=by
 obtain⟨its,rv,p,hz⟩:=I.list hq;refine wpAny_pyIter_list p.isList ?_;refine⟨s.heap.objs.size,[s.heap.objs.size],_,_,H,rfl,I.kept (t':=s.toks) λ b o e=>Heap.get?_push_of_some _ e,yb a _,⟨_,Heap.get?_push_size _ rfl,rfl,rfl⟩,λ b hb=>?_,q⟩;have e:b=s.heap.objs.size:=by simpa using hb
 subst e;exact I.oz (Nat.le_refl _) (I.hok.fresh (Nat.le_refl _))
theorem agI(I:Inv X pins σ H s)(hq:SqT X.K H a xs)(q:R (Itt X.K a) H):wpAny (model X.prog X.w) X.A (pyIter (.ref a)) (PIE X pins σ tg R) E s:=by
 obtain⟨its,rv,p,hz⟩:=I.tuple hq;refine wpAny_pyIter_tuple (show s.heap.IsTuple a its.toArray from p) ?_;refine⟨s.heap.objs.size,[s.heap.objs.size],_,_,H,rfl,I.kept (t':=s.toks) λ b o e=>Heap.get?_push_of_some _ e,u6 a _,⟨_,Heap.get?_push_size _ rfl,rfl,rfl⟩,λ b hb=>?_,q⟩;have e:b=s.heap.objs.size:=by simpa using hb
 subst e;exact I.oz (Nat.le_refl _) (I.hok.fresh (Nat.le_refl _))
end
def ajo(K:FG)(tl:TE):TI:=λ σ H R=>tl σ H λ x H1=>(∃ a xs,x=.ref a/\SqL K H1 a xs/\R (Itl K a) H1)\/(∃ a xs,x=.ref a/\SqT K H1 a xs/\R (Itt K a) H1)\/∃ z,x=.str z/\R (Its z) H1
theorem aeJ(hl:PE X l tl):PI X tg l (ajo X.K tl):=by
 intro pins s σ H R I h;refine thn (hl pins s σ H _ I h) λ v s1 hq45=>?_;obtain⟨x,H1,I1,r1,q1⟩:=hq45;rcases q1 with ⟨a,xs,e,hq,q⟩ | ⟨a,xs,e,hq,q⟩ | ⟨z,e,q⟩
 ·subst e;cases r1;exact ads I1 hq q
 ·subst e;cases r1;exact agI I1 hq q
 ·subst e;obtain⟨t,rfl⟩:=r1;exact afU I1 q
def ItD(K:FG)(J:It)(H0:Hp)(ws:List W):Prop:=∀ H,Kp H0 H->∀ i:Nat,(i<ws.length->J.go i H)/\(ws.length<=i->J.stop i H) /\
 ∀ x H',i<ws.length->J.yld i H x H'->Kp H H'/\(∀ M,cX K H M->cX K H' M)/\∃ w,ws[i]? =some w/\aO K H' w x
abbrev TId:=DS->MH->(List W->MH->Prop)->Prop
def upI(K:FG)(t:TId):TI:=λ σ H R=>∃ τ M Rd,Abs K H σ τ M/\t τ M Rd/\∀ J H' ws M',Kp H H'->cX K H' M'->ItD K J H' ws->Rd ws M'->R J H'
abbrev PId(X:Cx)(tg iter:Expr)(t:TId):Prop:=PI X tg iter (upI X.K t)
theorem acX(h:PI X tg iter t)(k:∀ σ H R,t' σ H R->t σ H R):PI X tg iter t':=λ pins s σ H R I q=>h pins s σ H R I (k σ H R q)
def lR:W->Option (List W)
 | .d (.list ds)=>some (ds.map W.d)
 | .d (.tuple ds)=>some (ds.map W.d)
 | .d (.str z)=>some (z.cps.toList.map λ c=>W.d (.str ⟨#[c]⟩))
 | _=>none
def dJ(te:TD)(τ:DS)(M:MH)(R:List W->MH->Prop):Prop:=te τ M λ w M1=>∃ ws,lR w=some ws/\R ws M1
theorem aei(hs:SqT K H a vs)(ra:bt K H ds vs):ItD K (Itt K a) H (ds.map W.d):=λ H1 kp i=>by
 have hl:=ra.length;refine⟨λ hi=>?_,λ hi=>⟨vs,SqT.keep kp hs,by rw[List.length_map] at hi;omega⟩,λ x H' hi y=>?_⟩
 ·rw[List.length_map] at hi;exact⟨vs,vs[i]'(by omega),SqT.keep kp hs,by simp⟩
 ·obtain⟨e,y⟩:=y;subst e;have ev:=y vs (SqT.keep kp hs);obtain⟨d,e1,rd⟩:=(ra.keep kp).get' ev;exact⟨Kp.refl _,λ M m=>m,.d d,by simp[e1],rd⟩
theorem acW(z:Str):ItD K (Its z) H (z.cps.toList.map λ c=>W.d (.str ⟨#[c]⟩)):=λ H1 kp i=>by refine⟨λ hi=>(show i<z.cps.size by simpa using hi),λ hi=>(show z.cps.size<=i by simpa using hi),λ x H' hi y=>?_⟩;obtain⟨e,c,hc,ex⟩:=y;subst e;subst ex;exact⟨Kp.refl _,λ M m=>m,.d (.str ⟨#[c]⟩),by simp[hc],by simp[aO,aG]⟩
theorem acJ(lo:Int)(n:Nat):ItD K (Itr lo n) H ((List.range n).map λ i:Nat=>W.d (.int (lo+(i:Int)))):=λ H1 kp i=>by refine⟨λ hi=>(show i<n by simpa using hi),λ hi=>(show n<=i by simpa using hi),λ x H' hi y=>?_⟩;obtain⟨e,ex⟩:=y;subst e;subst ex;simp at hi;exact⟨Kp.refl _,λ M m=>m,.d (.int (lo+i)),by simp[hi],by simp[aO,aG]⟩
theorem wB(h:PD X l te):PId X tg l (dJ te):=acX (aeJ h) λ σ H R hq46=>by
 obtain⟨τ,M,Rd,A,h,k⟩:=hq46;refine⟨τ,M,_,A,h,λ v H1 w M1 kp r m hq47=>?_⟩;obtain⟨ws,e,q⟩:=hq47;cases w with
 | t n=>simp[lR] at e
 | m a=>simp[lR] at e
 | d d =>
  cases d with
  | list ds =>
   simp only[lR] at e;cases e;simp only[aO,aG] at r;obtain⟨a,vs,e1,hs,ra⟩:=r;refine .inl ⟨a,vs,e1,hs.sq,k _ H1 _ M1 kp m ?_ q⟩;intro H2 kp2 i;have hl:=ra.length;have hs2:=(hs.keep kp2).sq;refine⟨λ hi=>?_,λ hi=>⟨vs,hs2,by rw[List.length_map] at hi;omega⟩,λ x H' hi y=>?_⟩
   ·rw[List.length_map] at hi;exact⟨vs,vs[i]'(by omega),hs2,by simp⟩
   ·obtain⟨e,y⟩:=y;subst e;have ev:=y vs hs2;obtain⟨d,e1,rd⟩:=(ra.keep kp2).get' ev;exact⟨Kp.refl _,λ M m=>m,.d d,by simp[e1],rd⟩
  | tuple ds =>
   simp only[lR] at e;cases e;simp only[aO,aG] at r;obtain⟨a,vs,e1,hs,ra⟩:=r;exact .inr (.inl ⟨a,vs,e1,hs,k _ H1 _ M1 kp m (aei hs ra) q⟩)
  | str z =>
   simp only[lR] at e;cases e;simp only[aO,aG] at r;exact .inr (.inr ⟨z,r,k _ H1 _ M1 kp m (acW z) q⟩)
  | _=>simp[lR] at e
def nh(lo:Int)(n:Nat):List W:=(List.range n).map λ i:Nat=>W.d (.int (lo+(i:Int)))
def nE(ta:TAd)(τ:DS)(M:MH)(R:List W->MH->Prop):Prop:=ta τ M λ ws M1=>∃ j:Int,ws=[.d (.int j)]/\-(2 ^ 62)<=j/\j<2 ^ 62/\R (nh 0 j.toNat) M1
theorem eU(r:bB K H [w] vs):∃ v,vs=[v]/\aO K H w v:=by
 cases r with
 | cons r1 r2=>cases r2;exact⟨_,rfl,r1⟩
theorem tS(r:bB K H [w,w'] vs):∃ v v',vs=[v,v']/\aO K H w v/\aO K H w' v':=by
 cases r with
 | cons r1 r2 =>
  cases r2 with
  | cons r3 r4=>cases r4;exact⟨_,_,rfl,r1,r3⟩
theorem vh(hg:Gl X "range")(hm:X.mg "range" = none)(ha:PAd X [a] ta)(hs:starEach [a] X.env=[(false,eval a X.env)]:=by rfl):PId X tg (.Call (.Name "range" p) [a] [] pos) (nE ta):=
 acX (vW hg hm ha hs) λ σ H R ⟨τ,M,Rd,A,h,k⟩=>⟨τ,M,_,A,h,λ vs H1 ws M1 kp r m hq48=>by obtain⟨j,e,h1,h2,q⟩:=hq48;subst e;obtain⟨v,e1,r1⟩:=eU r;simp only[aO,aG] at r1;subst r1;exact⟨j,e1,h1,h2,k _ H1 _ M1 kp m (acJ 0 j.toNat) q⟩⟩
def ou(di:TId)(g:TGd)(tb:TSd)(D:Ed)(τ:DS)(M:MH):Prop:=di τ M λ ws M1=>∃ P:Nat->DS->MH->Prop,P 0 τ M1 /\
 (∀ i w τ M,ws[i]? =some w->P i τ M->g w τ M λ τ2 M2=>tb {D with nx:=P (i+1),ct:=P (i+1),bk:=D.nx} τ2 M2)/\∀ τ M,P ws.length τ M->D.nx τ M
theorem acZ(hp:PassesOwn (model X.prog X.w) X.A X.env X.xe)(hc:X.calm=true)(hi:PId X tg iter di)(hg:PGd X tg g)(hb:md X body tb)
  (hs:∀ x,foldedSetIterable iter X.env x=pure x:=by intro _;rfl):PSd X (.For tg iter body [] pos) (ou di g tb):=u7 (af5 hp hc hi hg hb hs) λ D σ H hq49=>by
 obtain⟨τ,M,Dd,A,h,k1,k2,k3,k4⟩:=hq49;refine⟨τ,M,_,A,h,λ J H1 ws M1 kp m1 it hq50=>?_⟩;obtain⟨P,p0,pt,pe⟩:=hq50;refine⟨λ i n σ H'=>n=ws.length-i/\i<=ws.length/\Kp H1 H'/\∃ τ M,Abs X.K H' σ τ M/\P i τ M,⟨ws.length,by simp,Nat.zero_le _,Kp.refl _,τ,M1,A.go kp m1,p0⟩,?_⟩;rintro i n σ2 H2 ⟨rfl,hi,kp2,τ2,M2,A2,p2⟩;obtain⟨go,stop,yld⟩:=it H2 kp2 i
 by_cases hlt:i<ws.length
 ·refine .inr ⟨go hlt,λ σ3 H3=>Kp H2 H3/\∃ τ M,Abs X.K H3 σ3 τ M/\P (i+1) τ M,λ σ3 H3 ⟨kp3,τ3,M3,A3,p3⟩=>⟨ws.length-(i+1),by omega,rfl,hlt,kp2.trans kp3,τ3,M3,A3,p3⟩,λ x H3 y=>?_⟩;obtain⟨kp3,mk,w,ew,rw⟩:=yld x H3 hlt y;refine⟨w,τ2,M2,_,rw,A2.go kp3 (mk _ A2.mem),pt i w τ2 M2 ew p2,λ σ4 H4 τ4 M4 kp4 A4 q4=>?_⟩;have kq:=kp3.trans kp4;have kr:=(kp.trans kp2).trans kq;exact⟨τ4,M4,_,A4,q4,λ σ5 H5 τ5 M5 kp5 A5 q5=>⟨kq.trans kp5,τ5,M5,A5,q5⟩,λ v H5 w M5 kp5=>k2 v H5 w M5 (kr.trans kp5),λ σ5 H5 τ5 M5 kp5=>k1 σ5 H5 τ5 M5 (kr.trans kp5),λ σ5 H5 τ5 M5 kp5 A5 q5=>⟨kq.trans kp5,τ5,M5,A5,q5⟩⟩
 ·have hl:i=ws.length:=by omega
  subst hl;exact .inl ⟨stop (Nat.le_refl _),k1 σ2 H2 τ2 M2 (kp.trans kp2) A2 (pe τ2 M2 p2)⟩
def ac9(k:Nat)(fr:List Nat)(τ:DS):DS:=List.replicate k none++fr.map λ j=>(τ[j]?).getD none
theorem tK(A:Abs K H σ τ M)(k:Nat)(fr:List Nat):Abs K H (lcS k fr σ) (ac9 k fr τ) M:=by
 refine⟨by simp[lcS,ac9],λ i w e=>?_,A.mem⟩;unfold ac9 at e
 by_cases hi:i<k
 ·rw[List.getElem?_append_left (by simpa using hi),List.getElem?_replicate] at e
  split at e<;>cases e
 ·rw[List.getElem?_append_right (by simpa using hi),List.getElem?_map,List.length_replicate] at e;cases q:fr[i-k]? with
  | none=>rw[q] at e;cases e
  | some j =>
   rw[q] at e;have e':(τ[j]?).getD none=some w:=Option.some.inj e;have e2:τ[j]? =some (some w):=by
    cases z:τ[j]? with
    | none=>rw[z] at e';cases e'
    | some o=>rw[z] at e';exact congrArg some e'
   obtain⟨v,q1,r⟩:=A.val j w e2;refine⟨v,?_,r⟩;unfold lcS;rw[List.getElem?_append_right (by simpa using hi),List.getElem?_map,List.length_replicate,q];simp[q1]
def dLC(di:TId)(g:TGd)(tt:TTd)(te:TD)(k:Nat)(fr:List Nat)(τ:DS)(M:MH)(Q:QD):Prop:=di τ M λ ws M1=>∃ P:Nat->List PyData->DS->MH->Prop,P 0 [] (ac9 k fr τ) M1 /\
 (∀ i w acc τ M,ws[i]? =some w->P i acc τ M->acc.length<sizeLine/\g w τ M λ τ2 M2=>tt τ2 M2 λ b M3=>if b=true then te τ2 M3 λ y M4=>∃ d,y=.d d/\P (i+1) (acc++[d]) τ2 M4 else P (i+1) acc τ2 M3) /\
 ∀ acc τ M,P ws.length acc τ M->Q (.d (.list acc)) M
theorem afD(h:up K (dLC di g tt te k fr) σ H Q) :
  aiW (tLC (upI K di) (upG K g) (upT K tt) (up K te) k fr) σ H Q:=by
 obtain⟨τ,M,Qd,A,h,kk⟩:=h;refine⟨τ,M,_,A,h,λ J H1 ws M1 kp m1 it hq51=>?_⟩;obtain⟨P,p0,pt,pe⟩:=hq51;refine⟨λ i n ys σ' H'=>n=ws.length-i/\i<=ws.length/\Kp H1 H'/\∃ acc τ M,bt K H' acc ys/\Abs K H' σ' τ M/\P i acc τ M,⟨ws.length,by simp,Nat.zero_le _,Kp.refl _,[],_,M1,by simp[bt],tK (A.go kp m1) k fr,p0⟩,?_⟩;rintro i n ys σ2 H2 ⟨rfl,hi,kp2,acc,τ2,M2,ra,A2,p2⟩;obtain⟨go,stop,yld⟩:=it H2 kp2 i
 by_cases hlt:i<ws.length
 ·have hlen:=ra.length;refine .inr ⟨go hlt,?_,λ x H3 y=>?_⟩
  ·obtain⟨w,hw⟩:∃ w,ws[i]? =some w:=⟨ws[i],by simp[hlt]⟩;have:=(pt i w acc τ2 M2 hw p2).1;omega
  obtain⟨kp3,mk,w,ew,rw⟩:=yld x H3 hlt y;refine⟨w,τ2,M2,_,rw,A2.go kp3 (mk _ A2.mem),(pt i w acc τ2 M2 ew p2).2,λ σ4 H4 τ4 M4 kp4 A4 q4=>⟨τ4,M4,_,A4,q4,λ b H5 M5 kp5 m5 q5=>?_⟩⟩;have kq:=(kp3.trans kp4).trans kp5;cases b with
  | false =>
   rw[if_neg Bool.false_ne_true] at q5;show(if false=true then _ else _);rw[if_neg Bool.false_ne_true];exact⟨ws.length-(i+1),by omega,rfl,hlt,kp2.trans kq,acc,τ4,M5,ra.keep kq,A4.go kp5 m5,q5⟩
  | true =>
   rw[if_pos rfl] at q5;show(if true=true then _ else _);rw[if_pos rfl];refine⟨τ4,M5,_,A4.go kp5 m5,q5,λ v H6 wv M6 kp6 r6 m6 hq52=>?_⟩;obtain⟨d,e6,q6⟩:=hq52;subst e6;refine⟨ws.length-(i+1),by omega,rfl,hlt,kp2.trans (kq.trans kp6),acc++[d],τ4,M6,bt.append (ra.keep (kq.trans kp6)) ?_,A4.go (kp5.trans kp6) m6,q6⟩;simp only[bt];exact⟨v,[],rfl,r6,rfl⟩
 ·have hl:i=ws.length:=by omega
  subst hl;exact .inl ⟨stop (Nat.le_refl _),λ p hp=>nV hp ra A2.mem (pe acc τ2 M2 p2) (kgo kk (kp.trans kp2))⟩
section
variable {sc:Scope}{own:List Str}{fr:List Nat}{elt iter:Expr}{ifs:List Expr}{pos:Pos}{di:TId}{g:TGd}{tt:TTd}{te:TD}
abbrev vK(X:Cx)(ifs:List Expr)(t:TTd):Prop:=PTs X ifs (upT X.K t)
def rm(_:DS)(M:MH)(Q:Bool->MH->Prop):Prop:=Q true M
theorem zN(h:PTd X c t):vK X [c] t:=acn h
theorem ahu(hc:X.calm=true)(L:qj X sc own fr)(hi:PId X tg iter di)
  (hg:∀ cl C s H ex pl,PGd (blk X sc (lcN X own fr) cl C s H ex pl) tg g)(ht:∀ cl C s H ex pl,vK (blk X sc (lcN X own fr) cl C s H ex pl) ifs tt)(he:∀ cl C s H ex pl,PD (blk X sc (lcN X own fr) cl C s H ex pl) elt te)
  (hs:∀ x,foldedSetIterable iter X.env x=pure x:=by intro _;rfl):PD X (.ListComp elt [⟨tg,iter,ifs,0⟩] sc pos) (dLC di g tt te own.length fr):=
 iA (oS (aeW hc L hi hg ht he hs)) λ σ H Q h=>afD h
end
end
section
variable {X:Cx}{K:FG}
def aeM(ws:List W)(M:MH)(Q:QD):Prop:=∃ i:Int,ws=[.d (.int i)]/\Q (.d (.int (if i<0 then -i else i))) M
theorem agS:fH K (λ xs H Q=>∃ i,xs=[.int i]/\Q (.int (if i<0 then -i else i)) H) aeM:=by intro vs H ws M Qd Q r m ⟨i,e,q⟩ k;subst e;obtain⟨v,e1,r1⟩:=eU r;simp only[aO,aG] at r1;subst r1;exact⟨i,e1,k _ H (.d (.int _)) M (Kp.refl H) (by simp[aO,aG]) m q⟩
def abS(M:MH):W->Option Nat
 | .d (.list ds)=>some ds.length
 | .d (.tuple ds)=>some ds.length
 | .d (.str z)=>some z.length
 | .m a=>match M a with
  | some (.lst ws)=>some ws.length
  | _=>none
 | _=>none
def fT(ws:List W)(M:MH)(Q:QD):Prop:=∃ w n,ws=[w]/\abS M w=some n/\vw w=true/\Q (.d (.int (n:Nat))) M
theorem eD:fH K (λ xs H Q=>∃ x n,xs=[x]/\aiT K x H n/\Q (.int n) H) fT:=by
 intro vs H ws M Qd Q r m ⟨w,n,e,hn,hf,q⟩ k;subst e;obtain⟨v,e1,r1⟩:=eU r;refine⟨v,n,e1,?_,k _ H (.d (.int _)) M (Kp.refl H) (by simp[aO,aG]) m q⟩;cases w with
 | t _=>simp[abS] at hn
 | m a =>
  simp only[aO] at r1;subst r1;simp only[abS] at hn;cases hm:M a with
  | none=>rw[hm] at hn;cases hn
  | some mo =>
   rw[hm] at hn;cases mo with
   | lst l=>cases hn;obtain⟨us,e2,rw1⟩:=m a _ hm;exact .inl ⟨us,SqL.of e2,rw1.length⟩
   | dic _=>cases hn
   | dct _=>cases hn
   | fdic _=>cases hn
   | ins _ _=>cases hn
   | tup _=>cases hn
   | flst _=>cases hn
   | exc _ _=>cases hn
   | code _ _=>cases hn
 | d d =>
  cases d with
  | list ds=>simp only[abS] at hn;cases hn;simp only[aO,aG] at r1;obtain⟨a,us,e2,hs,ra⟩:=r1;subst e2;exact .inl ⟨us,hs.sq,ra.length.symm⟩
  | tuple ds=>simp only[abS] at hn;cases hn;simp only[aO,aG] at r1;obtain⟨a,us,e2,hs,ra⟩:=r1;subst e2;exact .inr ⟨us,hs,ra.length.symm⟩
  | str z=>simp only[abS] at hn;cases hn;simp only[aO,aG] at r1;subst r1;exact⟨of_decide_eq_true hf,rfl⟩
  | _=>simp[abS] at hn
def adz(ws:List W)(M:MH)(Q:QD):Prop:=∃ bs:List Bool,ws=[.d (.list (bs.map PyData.bool))]/\Q (.d (.bool (bs.all id))) M
theorem abx:fH K (λ xs H Q=>∃ (x:V) (bs:List Bool),xs=[x]/\aG K H (.list (bs.map PyData.bool)) x/\Q (.bl (bs.all id)) H) adz:=by intro vs H ws M Qd Q r m ⟨bs,e,q⟩ k;subst e;obtain⟨v,e1,r1⟩:=eU r;exact⟨v,bs,e1,r1,k _ H (.d (.bool _)) M (Kp.refl H) (by simp[aO,aG]) m q⟩
def tN(_:DS)(M:MH)(Q:QD):Prop:=Q (.d (.dict [])) M
theorem sk(r:aG K H (rg key) v):v=kV key:=by
 cases key<;>(simp only[rg,aG] at r;exact r)
end
structure Fn(K:FG)(mg:Str->Option Value)(x:Str)(st:Stmt)(ps:List Str)(f:Addr)(fd:FuncData):Prop where
 fn:Fun K x x st f fd
 mg:mg x=some (.ref f)
 bd:Binds K fd ps []
section
variable {K:FG}{mg:Str->Option Value}{h:Heap}
theorem adJ{st:Stmt}{ps:List Str}{oc:Value}{od an:Option Addr}{osl:Array (Option Value)}{kV doc pm cdv ct:Value}(X:K.In h)(G:h.Ns mainGlobals mg)(a:W.nsIn K mainGlobals x=some (some (.ref f)))
  (l:K.lookup f=some ⟨oc,od,.func (W.fnOf x x (bH st) (bj st) (aj st) .none kV doc pm an cdv ct),osl⟩)(c:W.codeIn K cdv x=true)(k:W.keepIn K (.ref f)=true)
  (b:∀ (kV doc pm:Value) (an:Option Addr) (cdv ct:Value) (us:List Value),us.length=ps.length->bindArgs (W.fnOf x x (bH st) (bj st) (aj st) .none kV doc pm an cdv ct) ⟨us,[]⟩=pure (ps.zip us)) :
  Fn K mg x st ps f (W.fnOf x x (bH st) (bj st) (aj st) .none kV doc pm an cdv ct):=
 have F:=abL (st:=st) l c k
 ⟨F,W.mg_of X G a,F.binds b⟩
end
def ags(sc scX:Scope)(N:List Str)(fr:List Nat):Bool:=
 (sc.kind==.function)&&sc.names.all (λ y=>!(y.2==.cell))&&sc.names.all (λ y=>!(y.2==.free) || scX.names.lookup y.1==some .cell || scX.names.lookup y.1==some .free) &&
  sc.names.all (λ y=>!(y.2==.local) || sc.names.lookup y.1==some .local)&&afN N sc fr
theorem vj(h:ags sc X.env.scope X.N fr=true):qj X sc own fr:=by
 simp only[ags,Bool.and_eq_true] at h;obtain⟨⟨⟨⟨h1,h2⟩,h3⟩,h4⟩,h5⟩:=h;refine⟨eq_of_beq h1,λ y hy e=>?_,λ y hy e=>?_,λ y hy e=>?_,h5⟩
 ·have:=List.all_eq_true.mp h2 y hy;simp[e] at this
 ·have:=List.all_eq_true.mp h3 y hy;simp only[e,beq_self_eq_true,Bool.not_true,Bool.false_or,Bool.or_eq_true] at this;rcases this with z | z
  ·exact .inl (eq_of_beq z)
  ·exact .inr (eq_of_beq z)
 ·have:=List.all_eq_true.mp h4 y hy;simp only[e,beq_self_eq_true,Bool.not_true,Bool.false_or] at this;exact eq_of_beq this
theorem uc:bootBuiltins "int" = some (.type "int"):=by decide +kernel
theorem abY:bootBuiltins "str" = some (.type "str"):=by decide +kernel
theorem ym:bootBuiltins "bool" = some (.type "bool"):=by decide +kernel
theorem ip:bootBuiltins "list" = some (.type "list"):=by decide +kernel
theorem i5:bootBuiltins "tuple" = some (.type "tuple"):=by decide +kernel
theorem yC:bootBuiltins "dict" = some (.type "dict"):=by decide +kernel
theorem eF:bootBuiltins "len" = some (.builtin "len"):=by decide +kernel
theorem ae4:bootBuiltins "abs" = some (.builtin "abs"):=by decide +kernel
theorem wU:bootBuiltins "repr" = some (.builtin "repr"):=by decide +kernel
theorem abl:bootBuiltins "all" = some (.builtin "all"):=by decide +kernel
theorem aW:bootBuiltins "isinstance" = some (.builtin "isinstance"):=by decide +kernel
def gh:Expr->Bool
 | .Starred ..=>true
 | _=>false
theorem cR(e:Expr)(es:List Expr)(env:PySem.Env)(h:gh e=false):starEach (e::es) env=(false,eval e env)::starEach es env:=by
 cases e<;>first | rfl | (exact absurd h (by simp[gh]))
theorem dh(pos:Pos)(env:PySem.Env):∀ es:List Expr,(es.all λ e=>!gh e)=true->(backTo pos (starEach es env)).any (·.1)=false
 | [],_=>rfl
 | e::es,h=>by rw[List.all_cons,Bool.and_eq_true,Bool.not_eq_true'] at h;rw[cR e es env h.1];show(false || (backTo pos (starEach es env)).any (·.1))=false;rw[dh pos env es h.2];rfl
section
variable {X:Cx}{pos p:Pos}{e:Expr}{es:List Expr}{te:TD}{t:TAd}{x:Str}{id T:String}{r:List V->Hp->VK->Prop}{rd:List W->MH->QD->Prop}{k:Nat}{f:Addr}{fd:FuncData}{ps:List Str}{sp:SpD}
theorem pac(ha:PD X e te)(hr:PAd X es t)(h:gh e=false:=by rfl):PAd X (e::es) (ae te t):=aaQ ha hr (cR e es X.env h)
theorem pcB(hc:eI X (.builtin id) r)(hd:fH X.K r rd)(hg:Gl X x)(hm:X.mg x=none)(hv:bootBuiltins x=some (.builtin id))(ha:PAd X (e::es) t)(hn:x ≠ "__name__":= by decide)(hdb:ND x:=by decide)
  (h1:gh e=false:=by rfl)(h2:(es.all λ e=>!gh e)=true:=by rfl):PD X (.Call (.Name x p) (e::es) [] pos) (dCB rd t):=aaO hc hd hg hm hv ha hn hdb (cR e es X.env h1) (dh pos X.env es h2)
theorem pcF(F:cj X.prog X.w X.K X.mg X.base CX0 k f fd ps (dX X.K sp))(hr:eM k X.A)(hg:Gl X x)(hm:X.mg x=some (.ref f))(hk:W.keepIn X.K (.ref f)=true)(hb:Binds X.K fd ps [])
  (ha:PAd X (e::es) t)(hdb:ND x:=by decide)(h1:gh e=false:=by rfl)(h2:(es.all λ e=>!gh e)=true:=by rfl) :
  PD X (.Call (.Name x p) (e::es) [] pos) (bf sp t):=ab9 F hr hg hm hk hb ha hdb (cR e es X.env h1) (dh pos X.env es h2)
end
structure Jd(p:Prop):Prop where
 h:p
section
variable {X:Cx}{pos:Pos}{a b c e:Expr}{ta tb tc te:TD}{K:FG}
theorem dvQ(i:Nat)(hN:X.N[i]? =some x:=by rfl)(hv:Vis X.env.scope x:=by first | exact Or.inl rfl | exact Or.inr (Or.inl rfl) | exact Or.inr (Or.inr rfl))(hd:ND x:=by decide)(hcd:(x==("__classdict__" : Str))=false:=by decide):Jd (PD X (.Name x pos) (ai i)):=⟨D.dv (i:=i) (hN:=hN) (hv:=hv) (hd:=hd) (hcd:=hcd)⟩
theorem ag{i j pos}:Jd (PD X (.Constant (.int i) j pos) (dC (.d (.int i)))):=⟨aev afX λ H=>by simp[aO,aG]⟩
theorem fg{b j pos}:Jd (PD X (.Constant (.bool b) j pos) (dC (.d (.bool b)))):=⟨aev ac3 λ H=>by simp[aO,aG]⟩
theorem cZ{j pos}:Jd (PD X (.Constant .none j pos) (dC (.d .none))):=⟨aev afE λ H=>by simp[aO,aG]⟩
theorem aL{x j pos}:Jd (PD X (.Constant (.str x) j pos) (dC (.d (.str x)))):=⟨aev afc λ H=>by simp[aO,aG]⟩
theorem gB(hg:Gl X x)(hm:X.mg x=some (.int i t))(hd:ND x:=by decide):Jd (PD X (.Name x pos) (dC (.d (.int i)))):=⟨aev (sd (v:=.int i) hg hm ⟨t,rfl⟩ hd) λ H=>by simp[aO,aG]⟩
theorem cF(hg:Gl X x)(hm:X.mg x=none)(hv:bootBuiltins x=some (.type n))(hn:x ≠ "__name__":= by decide)(hd:ND x:=by decide):Jd (PD X (.Name x pos) (dC (.t n))):=⟨
 aev (aek (v:=.ty n) hg hm hv rfl hn hd) λ H=>by simp[aO]⟩
theorem aN(ho:OpR X (binaryOp op) r)(hd:OpD X.K r rd)(ha:Jd (PD X a ta))(hb:Jd (PD X b tb)):Jd (PD X (.BinOp a op b pos) (dOp rd ta tb)):=⟨D.aiv (ho:=ho) (hd:=hd) (ha:=ha.h) (hb:=hb.h)⟩
theorem iF(ho:OpR X (compareOp op) r)(hd:OpD X.K r rd)(ha:Jd (PD X a ta))(hb:Jd (PD X b tb))(hm:behindInMarks op b=false:=by first | exact kC _ (by decide) (by decide) | rfl):Jd (PD X (.Compare a [op] [b] pos) (dOp rd ta tb)):=⟨D.agW (ho:=ho) (hd:=hd) (ha:=ha.h) (hb:=hb.h) (hm:=hm)⟩
theorem bc(hr:IxR X r)(hd:OpD X.K r rd)(ha:Jd (PD X a ta))(hb:Jd (PD X b tb))(hs:rP b:=by intro _ _;rfl):Jd (PD X (.Subscript a b pos) (dOp rd ta tb)):=⟨D.aim (hr:=hr) (hd:=hd) (ha:=ha.h) (hb:=hb.h) (hs:=hs)⟩
theorem aI(ho:OpR X (compareOp op) r)(hd:OpD X.K r rd)(ha:Jd (PD X a ta))(hb:Jd (PD X b tb))(hm:behindInMarks op b=false:=by first | exact kC _ (by decide) (by decide) | rfl):Jd (PTd X (.Compare a [op] [b] pos) (aZ (dOp rd ta tb))):=⟨D.adM (ho:=ho) (hd:=hd) (ha:=ha.h) (hb:=hb.h) (hm:=hm)⟩
theorem cz(h:Jd (PD X e te))(he:∀ whole,isTrue e X.env whole=(do let v <- whole;standAt e.pos;holding [v] (truthy v)):=by intro _;rfl):Jd (PTd X e (aZ te)):=⟨D.adR (h:=h.h) (he:=he)⟩
theorem lh(ho:OpR X (compareOp op) r)(hd:OpD X.K r rd)(ho':OpR X (compareOp op') r')(hd':OpD X.K r' rd')(ha:Jd (PD X a ta))(hb:Jd (PD X b tb))(hc:Jd (PD X c tc))(hm:lastMarks [op,op'] [b,c]=false:=by with_unfolding_all rfl):Jd (PD X (.Compare a [op,op'] [b,c] pos) (g9 rd rd' ta tb tc)):=⟨D.aad (ho:=ho) (hd:=hd) (ho':=ho') (hd':=hd') (ha:=ha.h) (hb:=hb.h) (hc:=hc.h) (hm:=hm)⟩
theorem mv(ho:OpR X (compareOp op) r)(hd:OpD X.K r rd)(ho':OpR X (compareOp op') r')(hd':OpD X.K r' rd')(ha:Jd (PD X a ta))(hb:Jd (PD X b tb))(hc:Jd (PD X c tc))(hm:lastMarks [op,op'] [b,c]=false:=by with_unfolding_all rfl):Jd (PTd X (.Compare a [op,op'] [b,c] pos) (aZ (g9 rd rd' ta tb tc))):=⟨D.vV (ho:=ho) (hd:=hd) (ho':=ho') (hd':=hd') (ha:=ha.h) (hb:=hb.h) (hc:=hc.h) (hm:=hm)⟩
theorem fZ(ho:UnR X (unaryOp op) r)(hd:UnD X.K r rd)(ha:Jd (PD X a ta)):Jd (PD X (.UnaryOp op a pos) (dUn rd ta)):=⟨D.ahT (ho:=ho) (hd:=hd) (ha:=ha.h)⟩
variable {tA tB:TTd}{rest:List Expr}
theorem fu(ha:Jd (PTd X a tA)):Jd (PWd X (.BoolOp .And [a] pos) tA):=⟨D.aaq (ha:=ha.h)⟩
theorem fh(ha:Jd (PTd X a tA)):Jd (PWd X (.BoolOp .Or [a] pos) tA):=⟨D.acN (ha:=ha.h)⟩
theorem fM(ha:Jd (PTd X a tA))(hb:Jd (PWd X (.BoolOp .And (b::rest) pos) tB)):Jd (PWd X (.BoolOp .And (a::b::rest) pos) (yY tA tB)):=⟨D.acL (ha:=ha.h) (hb:=hb.h)⟩
theorem eh(ha:Jd (PTd X a tA))(hb:Jd (PWd X (.BoolOp .Or (b::rest) pos) tB)):Jd (PWd X (.BoolOp .Or (a::b::rest) pos) (dOr tA tB)):=⟨D.ag9 (ha:=ha.h) (hb:=hb.h)⟩
theorem e9(h:Jd (PWd X e tA)):Jd (PTd X e tA):=⟨D.aiC (h:=h.h)⟩
theorem cy(ha:Jd (PTd X a tA)):Jd (PTd X (.UnaryOp .Not a pos) (mN tA)):=⟨D.adC (ha:=ha.h)⟩
theorem jw{op}(h:Jd (PD X a ta)):Jd (PD X (.BoolOp op [a] pos) ta):=⟨D.aha (h:=h.h)⟩
theorem ft(ha:Jd (PD X a ta))(hb:Jd (PD X (.BoolOp .And (b::rest) pos) tb)):Jd (PD X (.BoolOp .And (a::b::rest) pos) (j0 ta tb)):=⟨D.aeO (ha:=ha.h) (hb:=hb.h)⟩
theorem vU(ha:Jd (PD X a ta)):Jd (PD X (.UnaryOp .Not a pos) (aa8 ta)):=⟨D.af1 (ha:=ha.h)⟩
theorem yF(hc:Jd (PTd X c tA))(ha:Jd (PD X a ta))(hb:Jd (PD X b tb)):Jd (PD X (.IfExp c a b pos) (aix tA ta tb)):=⟨D.zu (hc:=hc.h) (ha:=ha.h) (hb:=hb.h)⟩
variable {es:List Expr}{t:TAd}
theorem aa  : Jd (PAd X [] aB):=⟨D.xP ⟩
theorem ck(h:Jd (PAd X es t)):Jd (PD X (.List es pos) (gW t)):=⟨D.agH (h:=h.h)⟩
theorem dG(h:Jd (PAd X es t)):Jd (PD X (.List es pos) (gy t)):=⟨D.acR (h:=h.h)⟩
theorem aX{x1}(h:Jd (PAd X es t)):Jd (PD X (.Tuple es x1 pos) (dF t)):=⟨D.ae9 (h:=h.h)⟩
variable {x:Str}{p:Pos}{id T:String}{r:List V->Hp->VK->Prop}{rd:List W->MH->QD->Prop}
end
section
variable {X:Cx}{pos:Pos}{st:Stmt}{sts:List Stmt}{t u:TSd}{e:Expr}{te:TD}{K:FG}
theorem aH  : Jd (md X [] cf):=⟨afL acv λ D σ H ⟨τ,M,Dd,A,h,k1,_⟩=>k1 σ H τ M (Kp.refl H) A h⟩
theorem af(h1:Jd (PSd X st t))(h2:Jd (md X sts u)):Jd (md X (st::sts) (bp t u)):=⟨D.wI (h1:=h1.h) (h2:=h2.h)⟩
theorem ah(h1:Jd (PSd X st t)):Jd (md X [st] t):=⟨D.aap (h1:=h1.h)⟩
theorem cG(he:Jd (PD X e te))(hs:swapsWith e none pos.line X.env=pure false:=by rfl):Jd (PSd X (.Expr e pos) (iu te)):=⟨D.aaS (he:=he.h) (hs:=hs)⟩
theorem az(he:Jd (PD X e te)):Jd (PSd X (.Return (some e) pos) (de te)):=⟨D.ac7 (he:=he.h)⟩
theorem aY(hc:Jd (PTd X c tc))(ha:Jd (md X a t))(hb:Jd (md X b u)):Jd (PSd X (.If c a b pos) (dIf tc t u)):=⟨D.ag2 (hc:=hc.h) (ha:=ha.h) (hb:=hb.h)⟩
theorem ax(hN:X.N.Nodup)(hi:X.N[i]? =some x)(hx:Loc X.env.scope x)(hf:X.fn x=true\/X.env.scope.names.lookup x=some .local:=by first | exact .inl rfl | exact .inr rfl | assumption):Jd (PGd X (.Name x pos) (gN i)):=⟨
 aio (wL hN hi hx hf) λ v σ H Q ⟨w,τ,M,Qd,r,A,h,k⟩=>k _ H _ M (Kp.refl H) (A.set i r) h⟩
theorem gP(he:Jd (PD X e te))(hg:Jd (PGd X tg g))(hs:swapsWithSole [tg] e pos.line X.env=pure false:=by rfl)(hw:swappedStores [tg] e X.env=pure none:=by rfl)(h1:(assignEach [tg] X.env).map (·.2)=[assign tg X.env]:=by rfl):Jd (PSd X (.Assign [tg] e pos) (cB te g)):=⟨D.adN (he:=he.h) (hg:=hg.h) (hs:=hs) (hw:=hw) (h1:=h1)⟩
theorem ay(hN:X.N.Nodup)(hi:X.N[i]? =some x)(hx:Loc X.env.scope x)(he:Jd (PD X e te))(hs:swapsWith e (some (.Name x pos')) pos.line X.env=pure false:=by rfl)(hf:X.fn x=true\/X.env.scope.names.lookup x=some .local:=by first | exact .inl rfl | exact .inr rfl | assumption):Jd (PSd X (.Assign [.Name x pos'] e pos) (cB te (gN i))):=⟨D.ac1 (hN:=hN) (hi:=hi) (hx:=hx) (he:=he.h) (hs:=hs) (hf:=hf)⟩
end
theorem aR  : Jd (POd X none aK):=⟨aiQ acw λ σ H Q ⟨τ,M,Qd,A,q,k⟩=>k none H M (Kp.refl H) A.mem q⟩
theorem aS(h:Jd (PD X e te)):Jd (POd X (some e) (bE te)):=⟨D.z6 (h:=h.h)⟩
theorem aQ{te:TD}{lo hi:Option Expr}{tl th:TOd}{pos p2:Pos}(he:Jd (PD X e te))(hl:Jd (POd X lo tl))(hu:Jd (POd X hi th)):Jd (PD X (.Subscript e (.Slice lo hi none p2) pos) (dSl te tl th)):=⟨D.zI (he:=he.h) (hl:=hl.h) (hu:=hu.h)⟩
theorem iU(ho:Jd (PD X o to))(hi:Jd (PD X i ti))(ha:∀ v,assign (.Subscript o i pos) X.env v=(do
   let ov <- holding [v] (eval o X.env)
   let iv <- holding [v,ov] (eval i X.env)
   standAt pos
   holding [v,ov,iv] (setItem ov iv v)
   release [v,ov,iv] []):=by intro _;rfl):Jd (PGd X (.Subscript o i pos) (vC to ti)):=⟨D.ad3 (ho:=ho.h) (hi:=hi.h) (ha:=ha)⟩
theorem wZ(ho:Jd (PD X o to))(hi:Jd (PD X i ti))(he:Jd (PD X e te))(hp:PIp X op (ipI f))(ha:∀ ov iv new,augStore i ov iv new=(do holding [new,ov,iv] (setItem ov iv new);release [new,ov,iv] [];pure .next):=by intros;rfl):Jd (PSd X (.AugAssign (.Subscript o i tpos) op e pos) (aat to ti te f)):=⟨D.zF (ho:=ho.h) (hi:=hi.h) (he:=he.h) (hp:=hp) (ha:=ha)⟩
theorem bC(h:Jd (PD X l te)):Jd (PId X tg l (dJ te)):=⟨D.wB (h:=h.h)⟩
theorem dP(hg:Gl X "range")(hm:X.mg "range" = none)(ha:Jd (PAd X [a] ta))(hs:starEach [a] X.env=[(false,eval a X.env)]:=by rfl):Jd (PId X tg (.Call (.Name "range" p) [a] [] pos) (nE ta)):=⟨D.vh (hg:=hg) (hm:=hm) (ha:=ha.h) (hs:=hs)⟩
theorem cE(hp:PassesOwn (model X.prog X.w) X.A X.env X.xe)(hc:X.calm=true)(hi:Jd (PId X tg iter di))(hg:Jd (PGd X tg g))(hb:Jd (md X body tb))(hs:∀ x,foldedSetIterable iter X.env x=pure x:=by intro _;rfl):Jd (PSd X (.For tg iter body [] pos) (ou di g tb)):=⟨D.acZ (hp:=hp) (hc:=hc) (hi:=hi.h) (hg:=hg.h) (hb:=hb.h) (hs:=hs)⟩
theorem cI  : Jd (vK X [] rm):=⟨λ pins s σ H Q I ⟨τ,M,Qd,A,q,k⟩=>ac6 pins s σ H Q I (k true H M (Kp.refl H) A.mem q)⟩
theorem zh(h:Jd (PTd X c t)):Jd (vK X [c] t):=⟨D.zN (h:=h.h)⟩
theorem h9(hc:X.calm=true)(L:qj X sc own fr)(hi:Jd (PId X tg iter di))(hg:∀ cl C s H ex pl,Jd (PGd (blk X sc (lcN X own fr) cl C s H ex pl) tg g))(ht:∀ cl C s H ex pl,Jd (vK (blk X sc (lcN X own fr) cl C s H ex pl) ifs tt))(he:∀ cl C s H ex pl,Jd (PD (blk X sc (lcN X own fr) cl C s H ex pl) elt te))(hs:∀ x,foldedSetIterable iter X.env x=pure x:=by intro _;rfl):Jd (PD X (.ListComp elt [⟨tg,iter,ifs,0⟩] sc pos) (dLC di g tt te own.length fr)):=⟨D.ahu (hc:=hc) (L:=L) (hi:=hi.h) (hg:=λ cl C s H ex pl=>(hg cl C s H ex pl).h) (ht:=λ cl C s H ex pl=>(ht cl C s H ex pl).h) (he:=λ cl C s H ex pl=>(he cl C s H ex pl).h) (hs:=hs)⟩
theorem qi:Jd (PD X (.Dict [] [] pos) tN):=⟨iA (oS sX) λ σ H Q ⟨τ,M,Qd,A,q,k⟩=>λ p hp=>by refine⟨p,_,rfl,ar,trivial,λ o=>?_⟩;rw[yS];refine k _ _ (.d (.dict [])) M (Kp.new hp) ?_ (A.mem.new hp) q;simp only[aO,aG,lp];exact⟨p,o,[],rfl,ar,rfl⟩⟩
section
variable {X:Cx}{pos p:Pos}{e:Expr}{es:List Expr}{te:TD}{t:TAd}{x:Str}{id T:String}{r:List V->Hp->VK->Prop}{rd:List W->MH->QD->Prop}{k:Nat}{f:Addr}{fd:FuncData}{ps:List Str}{sp:SpD}
theorem aq(ha:Jd (PD X e te))(hr:Jd (PAd X es t))(h:gh e=false:=by rfl):Jd (PAd X (e::es) (ae te t)):=⟨D.pac (ha:=ha.h) (hr:=hr.h) (h:=h)⟩
theorem fQ(hc:eI X (.builtin id) r)(hd:fH X.K r rd)(hg:Gl X x)(hm:X.mg x=none)(hv:bootBuiltins x=some (.builtin id))(ha:Jd (PAd X (e::es) t))(hn:x ≠ "__name__":= by decide)(hdb:ND x:=by decide)(h1:gh e=false:=by rfl)(h2:(es.all λ e=>!gh e)=true:=by rfl):Jd (PD X (.Call (.Name x p) (e::es) [] pos) (dCB rd t)):=⟨D.pcB (hc:=hc) (hd:=hd) (hg:=hg) (hm:=hm) (hv:=hv) (ha:=ha.h) (hn:=hn) (hdb:=hdb) (h1:=h1) (h2:=h2)⟩
theorem dB(F:cj X.prog X.w X.K X.mg X.base CX0 k f fd ps (dX X.K sp))(hr:eM k X.A)(hg:Gl X x)(hm:X.mg x=some (.ref f))(hk:W.keepIn X.K (.ref f)=true)(hb:Binds X.K fd ps [])(ha:Jd (PAd X (e::es) t))(hdb:ND x:=by decide)(h1:gh e=false:=by rfl)(h2:(es.all λ e=>!gh e)=true:=by rfl):Jd (PD X (.Call (.Name x p) (e::es) [] pos) (bf sp t)):=⟨D.pcF (F:=F) (hr:=hr) (hg:=hg) (hm:=hm) (hk:=hk) (hb:=hb) (ha:=ha.h) (hdb:=hdb) (h1:=h1) (h2:=h2)⟩
end
section
variable {κ α:Type}[DecidableEq κ]
def fY(t:List (κ×α))(k:κ):Option α:=(t.find? λ p=>decide (p.1=k)).map (·.2)
def mD(t:List (κ×α))(k:κ)(v:α):List (κ×α):=if (t.any λ p=>decide (p.1=k))=true then t.map (λ p=>if p.1=k then (p.1,v) else p) else t++[(k,v)]
def OR(R:β->γ->Prop):Option β->Option γ->Prop
 | some a,some b=>R a b
 | none,none=>True
 | _,_=>False
theorem OR.some_of(h:OR R (some a) o):∃ b,o=some b/\R a b:=by
 cases o with
 | none=>exact h.elim
 | some b=>exact⟨b,rfl,h⟩
theorem OR.none_of(h:OR R none o):o=none:=by
 cases o with
 | none=>rfl
 | some b=>exact h.elim
theorem lE(k:κ):∀ {t:List (κ×α)} {l:List (κ×V)},Paired (λ p q=>p.1=q.1/\R p.2 q.2) t l->OR R (fY t k) (tq l k)
 | _,_,.nil=>True.intro
 | _,_,.cons (a:=p) (b:=q) (l₁:=t1) h t=>by
  obtain⟨h1,h2⟩:=h
  by_cases e:p.1=k
  ·rw[kj (h1.symm.trans e),show fY (p::t1) k=some p.2 by simp[fY,List.find?_cons,e]];exact h2
  ·rw[kh (λ z=>e (h1.trans z)),show fY (p::t1) k=fY t1 k by simp[fY,List.find?_cons,e]];exact lE k t
theorem abi{R:α->V->Prop}(k:κ):∀ {t:List (κ×α)} {l:List (κ×V)},Paired (λ p q=>p.1=q.1/\R p.2 q.2) t l->(t.any λ p=>decide (p.1=k))=(l.any λ p=>decide (p.1=k))
 | _,_,.nil=>rfl
 | _,_,.cons (a:=p) (b:=q) h t=>by simp only[List.any_cons];rw[abi k t,h.1]
theorem abh{R:α->V->Prop}(k:κ){v:V}(r:R a v):∀ {t:List (κ×α)} {l:List (κ×V)},Paired (λ p q=>p.1=q.1/\R p.2 q.2) t l ->
  Paired (λ p q=>p.1=q.1/\R p.2 q.2) (t.map λ p=>if p.1=k then (p.1,a) else p) (l.map λ p=>if p.1=k then (p.1,v) else p)
 | _,_,.nil=>.nil
 | _,_,.cons (a:=p) (b:=q) h t=>by
  simp only[List.map_cons];refine .cons ?_ (abh k r t)
  by_cases e:p.1=k
  ·rw[if_pos e,if_pos (h.1.symm.trans e)];exact⟨h.1,r⟩
  ·rw[if_neg e,if_neg (λ z=>e (h.1.trans z))];exact h
theorem xf(r:P p q):∀ {t:List (κ×α)} {l:List (κ×V)},Paired P t l->Paired P (t++[p]) (l++[q])
 | _,_,.nil=>.cons r .nil
 | _,_,.cons h t=>.cons h (xf r t)
theorem xE{R:α->V->Prop}(k:κ){v:V}(r:R a v){t:List (κ×α)}{l:List (κ×V)}(h:Paired (λ p q=>p.1=q.1/\R p.2 q.2) t l) :
  Paired (λ p q=>p.1=q.1/\R p.2 q.2) (mD t k a) (putK l k v):=by
 unfold mD putK;rw[abi k h]
 split
 ·exact abh k r h
 ·exact xf ⟨rfl,r⟩ h
theorem ux:∀ {t:List (κ×α)} {l:List (κ×V)},Paired P t l->t.length=l.length
 | _,_,.nil=>rfl
 | _,_,.cons _ t=>by simp[ux t]
theorem aaY:fY ([]:List (κ×α)) k=none:=rfl
theorem d6{t:List (κ×α)}{k:κ}:fY (p::t) k=if p.1=k then some p.2 else fY t k:=by
 by_cases e:p.1=k<;>simp[fY,List.find?_cons,e]
theorem oq(k:κ):∀ t:List (κ×α),(t.any λ p=>decide (p.1=k))=(fY t k).isSome
 | []=>rfl
 | p::t=>by
  rw[List.any_cons,oq k t,d6]
  by_cases e:p.1=k<;>simp[e]
theorem oR(k j:κ)(y:α):∀ t:List (κ×α),fY t k=none->fY (t++[(k,y)]) j=if j=k then some y else fY t j
 | [],_=>by
  rw[List.nil_append,d6,aaY]
  by_cases e:j=k
  ·subst e;simp
  ·simp[e,Ne.symm e]
 | p::t,h=>by
  rw[d6] at h
  by_cases e:p.1=k
  ·simp[e] at h
  ·rw[if_neg e] at h;rw[List.cons_append,d6,d6,oR k j y t h]
   by_cases f:p.1=j
   ·rw[if_pos f,if_pos f]
    by_cases g:j=k
    ·exact absurd (f.trans g) e
    ·rw[if_neg g]
   ·rw[if_neg f,if_neg f]
theorem tT(k j:κ)(y:α):∀ t:List (κ×α),fY (t.map λ p=>if p.1=k then (p.1,y) else p) j=(fY t j).map λ x=>if j=k then y else x
 | []=>rfl
 | p::t=>by
  rw[List.map_cons,d6,d6,tT k j y t]
  by_cases e:p.1=k
  ·rw[if_pos e]
   by_cases f:p.1=j
   ·have g:j=k:=f.symm.trans e;rw[if_pos f,if_pos f,Option.map_some,if_pos g]
   ·rw[if_neg f,if_neg f]
  ·rw[if_neg e]
   by_cases f:p.1=j
   ·have g:¬ j=k:=λ z=>e (f.trans z);simp[f,g]
   ·simp[f]
theorem zT(t:List (κ×α))(k j:κ)(y:α):fY (mD t k y) j=if j=k then some y else fY t j:=by
 unfold mD;have h:=oq k t;cases q:fY t k with
 | none =>
  rw[q] at h;rw[h,if_neg (by simp)];exact oR k j y t q
 | some z =>
  rw[q] at h;rw[h,if_pos (by rfl),tT]
  by_cases e:j=k
  ·subst e;rw[q];simp
  ·rw[if_neg e];cases fY t j<;>simp[e]
end
def kW(k:Key):W:=.d (rg k)
theorem jW{K:FG}{H:Hp}{k:Key}{v:V}(r:aO K H (kW k) v):v=kV k:=sk r
def tkW(ks:List Key):W:=.d (.tuple (ks.map rg))
theorem aeP{K:FG}{H:Hp}:∀ {ks:List Key} {vs:List V},bt K H (ks.map rg) vs->vs=ks.map kV
 | [],vs,h=>by simpa [bt] using h
 | k::ks,vs,h=>by simp only[List.map_cons,bt] at h;obtain⟨v,r,e,h1,h2⟩:=h;rw[e,sk h1,aeP h2];rfl
def Rd2(H:Hp)(a:Addr)(u:HO):Prop:=Rd H a u\/∃ o,H a=some (.frz o (.frz o u))
theorem abo(ok:HOk P w H h)(e:Rd2 H a (.dK kvs)):kvs.length<=sizeLine/\(a==sysModules)=false/\∃ vs,KV kvs vs/\h.DictOf (bu P w) a vs:=by
 rcases e with e | ⟨o,e⟩
 ·exact rE ok e
 ·exact(ok a _ e).2.2
def aco(K:FG)(H:Hp)(a:Addr)(y:V)(r:Option V):Prop:=
 (∃ kvs k,Rd2 H a (.dK kvs)/\y=kV k/\r=tq kvs k)\/∃ kvs k b,Rd H a (.dT kvs)/\y=.ref b/\SqT K H b (k.map kV)/\r=tq kvs k
theorem afp(I:Inv X pins σ H s)(h:SqT X.K H b (ks.map kV)):(tupleKind (bu X.prog X.w)).is s.heap ks b:=by obtain⟨its,r,⟨o,h1,h2,n,h3⟩,_⟩:=I.tuple h;exact⟨o,its.toArray,n,h1,h2,h3,by simpa using lB r⟩
theorem adS(hu:A.units+1<cLine)(I:Inv X pins σ H s)(g:aco X.K H a y o)(ry:RelV y u)(rd:RelV d r)(h:∀ w' s',Inv X pins σ H s'->RelV (o.getD d) w'->Q w' s') :
  wpAny (model X.prog X.w) A (call (.builtin "dict.get") [.ref a,u,r]) Q E s:=by
 rcases g with ⟨kvs,k,e,ey,l⟩ | ⟨kvs,k,b,e,ey,eb,l⟩
 ·subst ey;obtain⟨z,hd,vs,rel,dd⟩:=abo I.hok e;refine call_meetsIn PySem.F.slot_dict_get dd.typeIs PySem.F.entry_dict_get (PySem.F.args_dict_get_3 _ _ _) (meets_dict_get_default (bu X.prog X.w) a (vb ry) hd r) ⟨_,dd.mapOf,h _ _ (I.tok _) ?_⟩;rw[l];exact(rel.val k).getD rd
 ·subst ey;cases (show u=Value.ref b from ry);obtain⟨z,hd,xs,rel,dd⟩:=acr I.hok e;refine call_meetsIn PySem.F.slot_dict_get dd.typeIs PySem.F.entry_dict_get (PySem.F.args_dict_get_3 _ _ _) (meetsH_dict_get_default (tupleKind (bu X.prog X.w)) a b hd r) ⟨tupleKind_room_in1 hu,k,xs,afp I eb,dd,h _ _ (I.tok _) ?_⟩;rw[l];exact(rel.val k).getD rd
theorem mE(hu:A.units+1<cLine)(I:Inv X pins σ H s)(e:Rd2 H a (.dK kvs))(l:tq kvs k=some v)(ry:RelV (kV k) u)(h:∀ w' s',Inv X pins σ H s'->RelV v w'->Q w' s') :
  s.TypeIs (.ref a) "dict" /\ wpAny (model X.prog X.w) A (getItem (.ref a) u) Q E s:=by
 obtain⟨z,hd,vs,rel,dd⟩:=abo I.hok e;obtain⟨w',hw,rw'⟩:=uF.some_of (v:=v) (o:=valueAt vs k) (by rw[<- l];exact rel.val k);exact⟨dd.typeIs,wpAny_getItem_of (vb ry) dd.mapOf hw (h w' _ (I.tok _) rw')⟩
inductive pz(M:MH):W->W->Option W->Prop
 | k {a:Addr} {kvs:List (Key×W)} {k:Key} (h:M a=some (.dic kvs)):pz M (.m a) (kW k) (fY kvs k)
 | t {a:Addr} {kvs:List (List Key×W)} {ks:List Key} (h:M a=some (.dct kvs)):pz M (.m a) (tkW ks) (fY kvs ks)
 | f {a:Addr} {kvs:List (Key×W)} {k:Key} (h:M a=some (.fdic kvs)):pz M (.m a) (kW k) (fY kvs k)
 | d {kvs:List (Key×PyData)} {k:Key}:pz M (.d (.dict (kvs.map λ p=>(rg p.1,p.2)))) (kW k) ((fY kvs k).map W.d)
inductive DIs(M:MH):W->Prop
 | k {a:Addr} {kvs:List (Key×W)} (h:M a=some (.dic kvs)):DIs M (.m a)
 | t {a:Addr} {kvs:List (List Key×W)} (h:M a=some (.dct kvs)):DIs M (.m a)
 | d {kvs:List (PyData×PyData)}:DIs M (.d (.dict kvs))
theorem zB(h:rg a=rg b):a=b:=by
 cases a<;>cases b<;>simp[rg] at h<;>rw[h]
theorem kG{K:FG}{H:Hp}:∀ {kvs:List (Key×PyData)} {l:List (Key×V)},lp K H (kvs.map λ p=>(rg p.1,p.2)) l->Paired (λ(p:Key×PyData) (q:Key×V)=>p.1=q.1/\aG K H p.2 q.2) kvs l
 | [],l,h=>by simp only[List.map_nil,lp] at h;subst h;exact .nil
 | p::kvs,l,h=>by simp only[List.map_cons,lp] at h;obtain⟨key,v,r,e,ek,h1,h2⟩:=h;subst e;exact .cons ⟨zB ek,h1⟩ (kG h2)
theorem DIs.sound{K:FG}{H:Hp}{M:MH}{w:W}{x:V}(g:DIs M w)(r:aO K H w x)(m:cX K H M):∃ a,x=.ref a/\IsD H a:=by
 cases g with
 | k h =>
  obtain⟨l,e,_⟩:=m _ _ h;exact⟨_,r,.inl ⟨l,.inl e⟩⟩
 | t h =>
  obtain⟨l,e,_⟩:=m _ _ h;exact⟨_,r,.inr ⟨l,.inl e⟩⟩
 | d =>
  simp only[aO,aG] at r;obtain⟨a,o,l,e,h,_⟩:=r;exact⟨a,e,.inl ⟨l,.inr ⟨o,h⟩⟩⟩
theorem pz.sound{K:FG}{H:Hp}{M:MH}{w y:W}{o:Option W}{x v:V}(g:pz M w y o)(r:aO K H w x)(ry:aO K H y v)(m:cX K H M) :
  ∃ a p,x=.ref a/\aco K H a v p/\OR (aO K H) o p:=by
 cases g with
 | @k a kvs k h =>
  obtain⟨l,e,pr⟩:=m _ _ h;exact⟨_,_,r,.inl ⟨l,k,.inl (.inl e),jW ry,rfl⟩,lE k pr⟩
 | @f a kvs k h =>
  obtain⟨ob,l,e,pr⟩:=m _ _ h;exact⟨_,_,r,.inl ⟨l,k,.inr ⟨ob,e⟩,jW ry,rfl⟩,lE k pr⟩
 | @t a kvs ks h =>
  obtain⟨l,e,pr⟩:=m _ _ h;simp only[tkW,aO,aG] at ry;obtain⟨b,vs,eb,hs,ra⟩:=ry;rw[aeP ra] at hs;exact⟨_,_,r,.inr ⟨l,ks,b,.inl e,eb,hs,rfl⟩,lE ks pr⟩
 | @d kvs k =>
  simp only[aO,aG] at r;obtain⟨a,ob,l,e,h,rk⟩:=r;refine⟨a,_,e,.inl ⟨l,k,.inl (.inr ⟨ob,h⟩),jW ry,rfl⟩,?_⟩;have g:=lE (R:=λ d q=>aG K H d q) k (kG rk);cases q:fY kvs k with
  | none=>rw[q] at g;rw[OR.none_of g];exact True.intro
  | some z =>
   rw[q] at g;obtain⟨b,eb,rb⟩:=OR.some_of g;rw[eb];exact rb
def aec(K:FG)(td ty tx:TE):TE:=λ σ H Q=>td σ H λ x H1=>∃ a,x=.ref a/\IsD H1 a/\ty σ H1 λ y H2=>tx σ H2 λ z H3=>∃ o,aco K H3 a y o/\Q (o.getD z) H3
theorem wc(hu:X.A.units+1<cLine)(ho:PE X o td)(he:PE X e ty)(hf:PE X f tx)(m:M2 X o "get" apos e f cpos):PE X (.Call (.Attribute o "get" apos) [e,f] [] cpos) (aec X.K td ty tx):=by
 intro pins s σ H Q I h;refine wpAny_Call_method m.base m.few m.line PySem.F.plainAttrs_dict PySem.F.slot_dict_get PySem.F.type_dict_get (thn (ho pins s σ H _ I h) λ u s1 hq53=>?_);obtain⟨x,H1,I1,rx,a,ex,d,q1⟩:=hq53;subst ex;obtain rfl:u=Value.ref a:=rx;obtain⟨t1,t2,_⟩:=af8 I1 d;refine⟨t1,t2,?_⟩;rw[m.trees];refine Calls.callWith_builtin rfl (Calls.evalArgs_plain (Calls.spliced_cons (thn (he pins s1 σ H1 _ I1 q1) λ iv s2 ⟨y,H2,I2,ry,q2⟩ =>
  Calls.spliced_cons (thn (hf pins s2 σ H2 _ I2 q2) λ fv s3 ⟨z,H3,I3,rz,ov,g,q3⟩=>Calls.spliced_nil ?_))))
 exact adS hu I3 g ry rz λ w' s4 I4 rw'=>⟨_,H3,I4,rw',q3⟩
def ag8(td ty:TE):TE:=λ σ H Q=>td σ H λ x H1=>ty σ H1 λ y H2=>∃ a kvs k v,x=.ref a/\Rd2 H2 a (.dK kvs)/\y=kV k/\tq kvs k=some v/\Q v H2
theorem zW(hu:X.A.units+1<cLine)(ho:PE X o td)(hi:PE X i ty)(hs:ahl i):PE X (.Subscript o i pos) (ag8 td ty):=by intro pins s σ H Q I h;refine acS PySem.F.slot_dict_getitem.lookup hs (thn (ho pins s σ H _ I h) λ u s1 ⟨x,H1,I1,rx,q1⟩=>thn (hi pins s1 σ H1 _ I1 q1) λ iv s2 hq54=>?_);obtain⟨y,H2,I2,ry,a,kvs,k,v,ex,g,ey,l,q2⟩:=hq54;subst ex ey;obtain rfl:u=Value.ref a:=rx;exact mE hu I2 g l ry λ w' s3 I3 rw'=>⟨v,H2,I3,rw',q2⟩
section
variable {X:Cx}{o i e f value:Expr}{es:List Expr}{pos pos' apos cpos:Pos}{td ti tx tv:TD}{t:TAd}
def n4(_:DS)(M:MH)(Q:QD):Prop:=∀ p,M p=none->Q (.m p) (bY M p (.dic []))
inductive agr(M2:MH) (w y:W) (Q:QD):Prop
 | mk (a:Addr) (kvs:List (Key×W)) (k:Key) (v:W) (z0:w=.m a) (z1:M2 a=some (.dic kvs)\/M2 a=some (.fdic kvs)) (z2:y=kW k) (z3:fY kvs k=some v) (q:Q v M2):agr M2 w y Q
def yZ(td ti:TD)(τ:DS)(M:MH)(Q:QD):Prop:=td τ M λ w M1=>ti τ M1 λ y M2=>agr M2 w y Q
theorem aci(hu:X.A.units+1<cLine)(ho:PD X o td)(hi:PD X i ti)(hs:ahl i:=by exact λ _ _=>rfl):PD X (.Subscript o i pos) (yZ td ti):=iA (zW hu ho hi hs) λ σ H Q h=>by
 obtain⟨τ,M,Qd,A,h,k⟩:=h;refine⟨τ,M,_,A,h,λ x H1 w M1 kp1 r1 m1 q1=>⟨τ,M1,_,A.go kp1 m1,q1,λ y H2 wy M2 kp2 r2 m2 hq55=>?_⟩⟩;obtain⟨a,kvs,key,v,ew,hm,ey,hv,q2⟩:=hq55;subst ew ey;obtain⟨l,e,pr⟩:∃ l,Rd2 H2 a (.dK l)/\Paired (λ(p:Key×W) (q:Key×V)=>p.1=q.1/\aO X.K H2 p.2 q.2) kvs l:=by
  rcases hm with hm | hm
  ·obtain⟨l,e,pr⟩:=m2 _ _ hm;exact⟨l,.inl (.inl e),pr⟩
  ·obtain⟨ob,l,e,pr⟩:=m2 _ _ hm;exact⟨l,.inr ⟨ob,e⟩,pr⟩
 have g:=lE key pr;rw[hv] at g;obtain⟨b,eb,rb⟩:=OR.some_of g;refine⟨a,l,key,b,r1,e,jW r2,eb,?_⟩;exact k _ H2 v M2 (kp1.trans kp2) rb m2 q2
def aal(td ti tx:TD)(τ:DS)(M:MH)(Q:QD):Prop:=td τ M λ w M1=>DIs M1 w/\ti τ M1 λ y M2=>tx τ M2 λ z M3=>∃ o,pz M3 w y o/\Q (o.getD z) M3
theorem OR.getD{K:FG}{H:Hp}{o:Option W}{p:Option V}{z:W}{v:V}(h:OR (aO K H) o p)(r:aO K H z v):aO K H (o.getD z) (p.getD v):=by
 cases o with
 | none=>rw[OR.none_of h];exact r
 | some a=>obtain⟨b,e,q⟩:=OR.some_of h;rw[e];exact q
theorem aen(hu:X.A.units+1<cLine)(ho:PD X o td)(he:PD X e ti)(hf:PD X f tx)(m:M2 X o "get" apos e f cpos:=by exact⟨rfl,rfl,rfl,rfl⟩):PD X (.Call (.Attribute o "get" apos) [e,f] [] cpos) (aal td ti tx):=iA (wc hu ho he hf m) λ σ H Q h=>by obtain⟨τ,M,Qd,A,h,k⟩:=h;refine⟨τ,M,_,A,h,λ x H1 w M1 kp1 r1 m1 hq56=>?_⟩;obtain⟨di,q1⟩:=hq56;obtain⟨a,ea,isd⟩:=di.sound r1 m1;refine⟨a,ea,isd,τ,M1,_,A.go kp1 m1,q1,λ y H2 wy M2 kp2 r2 m2 q2=>⟨τ,M2,_,A.go (kp1.trans kp2) m2,q2,λ z H3 wz M3 kp3 r3 m3 hq57=>?_⟩⟩;obtain⟨o,g,q3⟩:=hq57;obtain⟨a',p,e',g',ro⟩:=g.sound (r1.keep (kp2.trans kp3)) (r2.keep kp3) m3;rw[ea] at e';cases e';exact⟨p,g',k _ H3 _ M3 ((kp1.trans kp2).trans kp3) (ro.getD r3) m3 q3⟩
def aaP(td ti tv:TD)(D:Ed)(τ:DS)(M:MH):Prop:=tv τ M λ v M1=>td τ M1 λ w M2=>ti τ M2 λ y M3=>∃ a kvs k,w=.m a/\M3 a=some (.dic kvs)/\y=kW k/\kvs.length<sizeLine/\D.nx τ (bY M3 a (.dic (mD kvs k v)))
theorem aar(hu:X.A.units+1<cLine)(ho:PD X o td)(hi:PD X i ti)(hv:PD X value tv)(hs:swapsWith value (some (.Subscript o i pos')) pos.line X.env=pure false:=by rfl) :
  PSd X (.Assign [.Subscript o i pos'] value pos) (aaP td ti tv):=u7 (acU hu ho hi hv hs) λ D σ H h=>by
 obtain⟨τ,M,Dd,A,h,k1,_⟩:=h;refine⟨τ,M,_,A,h,λ v H1 wv M1 kp1 r1 m1 q1=>⟨τ,M1,_,A.go kp1 m1,q1,λ x H2 w M2 kp2 r2 m2 q2=>⟨τ,M2,_,A.go (kp1.trans kp2) m2,q2,λ y H3 wy M3 kp3 r3 m3 hq58=>?_⟩⟩⟩;obtain⟨a,kvs,key,ew,hm,ey,hl,q3⟩:=hq58;subst ew ey;obtain⟨l,e,pr⟩:=m3 _ _ hm;have kp4:Kp H3 (upd H3 a (.dK (putK l key v))):=Kp.set e (λ _ z=>nomatch z) (λ _ _ z=>nomatch z);refine⟨a,_,r2,.inl ⟨l,key,e,jW r3,by rw[<- ux pr];exact hl,rfl⟩,?_⟩;have rv:aO X.K H3 wv v:=(r1.keep kp2).keep kp3;refine k1 _ _ _ _ (((kp1.trans kp2).trans kp3).trans kp4) (A.go (((kp1.trans kp2).trans kp3).trans kp4) (m3.put (mo:=.dic (mD kvs key wv)) kp4 ⟨_,ar,?_⟩)) q3;exact Paired.jL (xE key rv pr) λ p q z=>⟨z.1,z.2.keep kp4⟩
end
abbrev ajk(K:FG)(H:Hp):List (Str×W)->List (Str×V)->Prop:=Paired (λ(p:Str×W) (q:Str×V)=>p.1=q.1/\aO K H p.2 q.2)
theorem qz{K:FG}{H:Hp}(f:Str):∀ {fs:List (Str×W)} {l:List (Str×V)},ajk K H fs l->OR (aO K H) (fs.lookup f) (l.lookup f)
 | _,_,.nil=>True.intro
 | _,_,.cons (a:=p) (b:=q) (l₁:=t1) (l₂:=t2) h t=>by
  obtain⟨pk,pv⟩:=p;obtain⟨qk,qv⟩:=q;obtain⟨h1,h2⟩:=h;have h1':pk=qk:=h1;subst h1';rw[List.lookup_cons,List.lookup_cons];cases e:(f==pk) with
  | true=>exact h2
  | false=>exact qz f t
section
variable {X:Cx}{C f:Addr}{o e value:Expr}{es:List Expr}{fn m x:Str}{pos pos' apos p:Pos}{td tv te:TD}{t:TAd}{k:Nat}{fd:FuncData}{ps:List Str}{sp:SpD}
end
def l9(M:MH)(a:Addr):MH:=λ b=>if b=a then none else M b
theorem nX(h:b≠a):l9 M a b=M b:=if_neg h
theorem cX.del{K:FG}{H:Hp}{M:MH}{a:Addr}{o:HO}(m:cX K H M)(kp:Kp H (upd H a o)):cX K (upd H a o) (l9 M a):=λ b mo hm=>by
 by_cases e:b=a
 ·subst e;simp[l9] at hm
 ·rw[nX e] at hm;exact(m b mo hm).keep kp λ u z=>by rw[ao e];exact z
def ai2(R:W->MH->Prop)(ws:List W)(M:MH):Prop:=match ws with
 | [y]=>R y M
 | _=>False
theorem acf(h:ai2 R ws M):∃ y,ws=[y]/\R y M:=by
 match ws,h with
 | [y],h=>exact⟨y,rfl,h⟩
def lL(td:TD)(τ:DS)(M:MH)(Q:QD):Prop:=td τ M λ w M1=>∃ a ds,w=.m a/\M1 a=some (.lst (ds.map W.d))/\Q (.d (.list ds)) (l9 M1 a)
theorem adQ(h:PD X e td):PD X e (lL td):=iA (oS h) λ σ H Q h=>by obtain⟨τ,M,Qd,A,h,k⟩:=h;refine⟨τ,M,_,A,h,λ x H1 w M1 kp1 r1 m1 hq59=>?_⟩;obtain⟨a,ds,ew,hm,q⟩:=hq59;subst ew;obtain⟨vs,e,ra⟩:=m1 _ _ hm;refine⟨a,_,r1,e,trivial,λ ob=>?_⟩;have kp2:Kp H1 (upd H1 a (.frz ob (.lst vs))):=Kp.set e (λ _ z=>nomatch z) (λ _ _ z=>nomatch z);refine k _ _ (.d (.list ds)) (l9 M1 a) (kp1.trans kp2) ?_ (m1.del kp2) q;simp only[aO,aG];exact⟨a,vs,r1,.inl ⟨ob,ar⟩,ra.data.keep kp2⟩
def gv(td te:TD)(τ:DS)(M:MH)(Q:QD):Prop:=td τ M λ w M1=>∃ a ws,w=.m a/\M1 a=some (.lst ws)/\te τ M1 λ y M2=>∃ ws',M2 a=some (.lst ws')/\ws'.length<sizeLine/\Q (.d .none) (bY M2 a (.lst (ws'++[y])))
theorem wN(ho:PD X o td)(he:PD X e te)
  (hbase:attributeBase o "append" X.env (eval o X.env)=eval o X.env:=by rfl)
  (hfew:((backTo cpos (starEach [e] X.env)).all (λ x=>!x.1)&&(backToKw cpos (keywordEach [] X.env)).all (λ x=>x.1.isSome)
   && decide (([e]:List Expr).length+([]:List Keyword).length+(if ([]:List Keyword).isEmpty then 0 else 1)<30))=true:=by rfl)
  (hline:(apos.endLine==cpos.line)=true:=by rfl)(hs:gh e=false:=by rfl):PD X (.Call (.Attribute o "append" apos) [e] [] cpos) (gv td te):=
 iA (ain PySem.F.plainAttrs_list PySem.F.slot_list_append PySem.F.type_list_append xY ho (pac he xP hs) hbase hfew hline (cR e [] X.env hs) rfl) λ σ H Q h=>by obtain⟨τ,M,Qd,A,h,k⟩:=h;refine⟨τ,M,_,A,h,λ x H1 w M1 kp1 r1 m1 hq60=>?_⟩;obtain⟨a,ws,ew,hm,q1⟩:=hq60;subst ew;obtain⟨vs,ea,ra⟩:=m1 _ _ hm;have r1':x=.ref a:=r1;subst r1';refine⟨.inl ⟨rfl,vs,.inl (.inl ea)⟩,τ,M1,ai2 (λ y M2=>∃ ws',M2 a=some (.lst ws')/\ws'.length<sizeLine/\Qd (.d .none) (bY M2 a (.lst (ws'++[y])))),A.go kp1 m1,q1,λ ys H2 wys M2 kp2 r2 m2 q2=>?_⟩;obtain⟨y,ey,ws',hm2,hl,q4⟩:=acf q2;subst ey;obtain⟨v,ev,rv⟩:=eU r2;subst ev;obtain⟨vs2,ea2,ra2⟩:=m2 _ _ hm2;have kp4:Kp H2 (upd H2 a (.lst (vs2++[v]))):=Kp.set ea2 (λ _ z=>nomatch z) (λ _ _ z=>nomatch z);refine⟨a,vs2,v,rfl,rfl,ea2,by rw[<- ra2.length];exact hl,?_⟩;exact k _ _ (.d .none) _ ((kp1.trans kp2).trans kp4) (by simp[aO,aG]) (m2.put (mo:=.lst (ws'++[y])) kp4 ⟨_,ar,(bB.append ra2 (.cons rv .nil)).keep kp4⟩) q4
def lY(K:FG)(H:Hp)(d:PyData)(x:V):Prop:=aG K H d x\/∃ a vs ds,d=.list ds/\x=.ref a/\H a=some (.lst vs)/\bt K H ds vs
inductive vG(M:MH):W->PyData->Prop
 | d {x:PyData}:vG M (.d x) x
 | l {a:Addr} {ds:List PyData} (h:M a=some (.lst (ds.map W.d))):vG M (.m a) (.list ds)
theorem vG.sound{K:FG}{H:Hp}{M:MH}{w:W}{d:PyData}{x:V}(g:vG M w d)(r:aO K H w x)(m:cX K H M):lY K H d x:=by
 cases g with
 | d=>exact .inl r
 | l h =>
  obtain⟨vs,e,ra⟩:=m _ _ h;exact .inr ⟨_,vs,_,rfl,r,e,ra.data⟩
theorem ahy(I:Inv X pins σ H s)(h:lY X.K H d x):∃ H',Inv X pins σ H' s/\aG X.K H' d x:=by
 rcases h with h | ⟨a,vs,ds,rfl,rfl,e,ra⟩
 ·exact⟨H,I,h⟩
 ·obtain⟨o,I2⟩:=I.freeze e trivial;have kp:Kp H (upd H a (.frz o (.lst vs))):=Kp.set e (λ _ z=>nomatch z) (λ _ _ z=>nomatch z);refine⟨_,I2,?_⟩;simp only[aG];exact⟨a,vs,rfl,.inl ⟨o,ar⟩,ra.keep kp⟩
theorem fE(I:Inv X pins σ H s)(d:PyData)(h:lY X.K H d x)(r:RelV x u)(hd:d.hasDict=false):∃ as,Reads s.heap u d as:=by obtain⟨H',I',h'⟩:=ahy I h;exact eZ I' d h' r hd
theorem sC(I:Inv X pins σ H s)(h:lY X.K H d x)(r:RelV x u)(ok:k8 d=true):∃ as,Reads s.heap u d as/\(d.hasDict=true->sysModules ∉ as):=by obtain⟨H',I',h'⟩:=ahy I h;exact uG I' h' r ok
theorem uD(hr:iB k X.A):eI X (.builtin "repr") (λ xs H Q=>∃ x d,xs=[x]/\lY X.K H d x/\k8 d=true/\Q (.str d.shown) H):=by
 intro pins s σ H xs us Q I r h;obtain⟨x,d,rfl,rd,ok,q⟩:=h;obtain⟨u,rfl,rx⟩:=vals1 r;obtain⟨as,rr,hsm⟩:=sC I rd rx ok;have ok':=ok;simp only[k8,Bool.and_eq_true,decide_eq_true_eq] at ok';obtain⟨⟨⟨hs,hz⟩,hd⟩,_⟩:=ok';have hu:=hr.units;cases rr with
 | none=>exact PySem.P.repr_of_none ⟨.str _,H,I.tok _,⟨_,rfl⟩,by simpa [PyData.shown] using q⟩
 | bool b=>exact PySem.P.repr_of_bool ⟨.str _,H,I.tok _,⟨_,rfl⟩,by simpa [PyData.shown] using q⟩
 | int i t =>
  refine PySem.P.repr_of_int (by simpa [PyData.showable] using hs) ⟨.str _,H,I.tok _,⟨_,rfl⟩,?_⟩;rw[PyData.shown] at q;exact q
 | str i t =>
  refine PySem.P.repr_of_str ⟨.str _,H,I.tok _,⟨_,rfl⟩,?_⟩ (by simpa [PyData.shown] using hz);rw[PyData.shown] at q;exact q
 | list e1 e2 e3 e4=>exact repr_of_reads' (.list e1 e2 e3 e4) hs hsm hr.gd (by omega) (λ _ _ z=>z) (λ h' u tk hk=>⟨.str _,H,I.kept hk,⟨_,rfl⟩,q⟩) hz
 | tuple e1 e2 e3 e4=>exact repr_of_reads' (.tuple e1 e2 e3 e4) hs hsm hr.gd (by omega) (λ _ _ z=>z) (λ h' u tk hk=>⟨.str _,H,I.kept hk,⟨_,rfl⟩,q⟩) hz
 | dict e1 e2 e3 e4 e5=>exact repr_of_reads' (.dict e1 e2 e3 e4 e5) hs hsm hr.gd (by omega) (λ _ _ z=>z) (λ h' u tk hk=>⟨.str _,H,I.kept hk,⟨_,rfl⟩,q⟩) hz
theorem df(hr:iB k X.A):OpR X (compareOp .Eq) (λ x y H Q=>∃ d d',lY X.K H d x/\lY X.K H d' y/\gj d d'=true/\Q (.bl (PyData.eqv d d')) H):=by
 intro pins s σ H x y v u Q I rx ry h;obtain⟨d,d',h1,h2,o,q⟩:=h;rcases fK o with ⟨a,b,e1,e2⟩ | ⟨o1,o2⟩
 ·subst e1;subst e2;rcases h1 with h1 | ⟨_,_,_,z,_⟩
  ·rcases h2 with h2 | ⟨_,_,_,z,_⟩
   ·exact xN hr pins s σ H x y v u Q I rx ry ⟨_,_,h1,h2,o,q⟩
   ·cases z
  ·cases z
 simp only[vD,Bool.and_eq_true,Bool.not_eq_true'] at o1 o2;obtain⟨as,r1⟩:=fE I d h1 rx o1.2;obtain⟨bs,r2⟩:=fE I d' h2 ry o2.2;exact eq_dataH r1 r2 o1.1 o2.1 hr.units ⟨.bl _,H,I,rfl,q⟩
theorem uu(hr:iB k X.A):OpR X (compareOp .NotEq) (λ x y H Q=>∃ d d',lY X.K H d x/\lY X.K H d' y/\gj d d'=true/\Q (.bl (!PyData.eqv d d')) H):=by
 intro pins s σ H x y v u Q I rx ry h;obtain⟨d,d',h1,h2,o,q⟩:=h;rcases fK o with ⟨a,b,e1,e2⟩ | ⟨o1,o2⟩
 ·subst e1;subst e2;rcases h1 with h1 | ⟨_,_,_,z,_⟩
  ·rcases h2 with h2 | ⟨_,_,_,z,_⟩
   ·exact agB hr pins s σ H x y v u Q I rx ry ⟨_,_,h1,h2,o,q⟩
   ·cases z
  ·cases z
 simp only[vD,Bool.and_eq_true,Bool.not_eq_true'] at o1 o2;obtain⟨as,r1⟩:=fE I d h1 rx o1.2;obtain⟨bs,r2⟩:=fE I d' h2 ry o2.2;exact ne_dataH r1 r2 o1.1 o2.1 hr.units ⟨.bl _,H,I,rfl,q⟩
section
variable {X:Cx}{K:FG}
def ee(w w':W)(M:MH)(Q:QD):Prop:=∃ d d',vG M w d/\vG M w' d'/\gj d d'=true/\Q (.d (.bool (PyData.eqv d d'))) M
def xW(w w':W)(M:MH)(Q:QD):Prop:=∃ d d',vG M w d/\vG M w' d'/\gj d d'=true/\Q (.d (.bool (!PyData.eqv d d'))) M
theorem cx:OpD K (λ x y H Q=>∃ d d',lY K H d x/\lY K H d' y/\gj d d'=true/\Q (.bl (PyData.eqv d d')) H) ee:=by intro x y H w w' M Qd Q r1 r2 m ⟨d,d',g1,g2,o1,q⟩ k;exact⟨d,d',g1.sound r1 m,g2.sound r2 m,o1,k _ H (.d (.bool _)) M (Kp.refl H) (by simp[aO,aG]) m q⟩
theorem oE:OpD K (λ x y H Q=>∃ d d',lY K H d x/\lY K H d' y/\gj d d'=true/\Q (.bl (!PyData.eqv d d')) H) xW:=by intro x y H w w' M Qd Q r1 r2 m ⟨d,d',g1,g2,o1,q⟩ k;exact⟨d,d',g1.sound r1 m,g2.sound r2 m,o1,k _ H (.d (.bool _)) M (Kp.refl H) (by simp[aO,aG]) m q⟩
inductive abD(M:MH):W->List W->Prop
 | l {ds:List PyData}:abD M (.d (.list ds)) (ds.map W.d)
 | t {ds:List PyData}:abD M (.d (.tuple ds)) (ds.map W.d)
 | m {a:Addr} {ws:List W} (h:M a=some (.lst ws)):abD M (.m a) ws
theorem abD.sound(g:abD M w ws)(r:aO K H w x)(m:cX K H M):∃ p ys,x=.ref p/\(SqL K H p ys\/SqT K H p ys)/\bB K H ws ys:=by
 cases g with
 | l =>
  simp only[aO,aG] at r;obtain⟨a,vs,e,hs,ra⟩:=r;exact⟨a,vs,e,.inl hs.sq,ra.ws⟩
 | t =>
  simp only[aO,aG] at r;obtain⟨a,vs,e,hs,ra⟩:=r;exact⟨a,vs,e,.inr hs,ra.ws⟩
 | m h =>
  obtain⟨vs,e,ra⟩:=m _ _ h;exact⟨_,vs,r,.inl (.inl (.inl e)),ra⟩
def nK(ws:List W)(M:MH)(Q:QD):Prop:=∃ w xs,ws=[w]/\abD M w xs/\∀ p,M p=none->Q (.m p) (bY M p (.lst xs))
theorem pP:fH K (λ xs H Q=>∃ p ys,xs=[.ref p]/\(SqL K H p ys\/SqT K H p ys)/\∀ l,H l=none->Q (.ref l) (upd H l (.lst ys))) nK:=by intro vs H ws M Qd Q r m ⟨w,xs,e,g,q⟩ k;subst e;obtain⟨v,e1,r1⟩:=eU r;obtain⟨p,ys,ev,hs,rs⟩:=g.sound r1 m;subst ev;refine⟨p,ys,e1,hs,λ l hl=>?_⟩;have kp:Kp H (upd H l (.lst ys)):=Kp.new hl;exact k _ _ (.m l) _ kp rfl (m.put (mo:=.lst xs) kp ⟨ys,ar,rs.keep kp⟩) (q l (m.free hl))
def qN(ws:List W)(M:MH)(Q:QD):Prop:=∃ w ds,ws=[w]/\abD M w (ds.map W.d)/\Q (.d (.tuple ds)) M
theorem uA:fH K (λ xs H Q=>∃ p ys,xs=[.ref p]/\((SqL K H p ys/\∀ l,H l=none->Q (.ref l) (upd H l (.tup ys)))\/(SqT K H p ys/\Q (.ref p) H))) qN:=by
 intro vs H ws M Qd Q r m ⟨w,ds,e,g,q⟩ k;subst e;obtain⟨v,e1,r1⟩:=eU r;obtain⟨p,ys,ev,hs,rs⟩:=g.sound r1 m;subst ev;rcases hs with hs | hs
 ·refine⟨p,ys,e1,.inl ⟨hs,λ l hl=>?_⟩⟩;have kp:Kp H (upd H l (.tup ys)):=Kp.new hl;refine k _ _ (.d (.tuple ds)) M kp ?_ (m.new hl) q;simp only[aO,aG];exact⟨l,ys,rfl,.inl (.inl ar),rs.data.keep kp⟩
 ·refine⟨p,ys,e1,.inr ⟨hs,?_⟩⟩;refine k _ _ (.d (.tuple ds)) M (Kp.refl H) ?_ m q;simp only[aO,aG];exact⟨p,ys,rfl,hs,rs.data⟩
def gQ(zs:List Str):List W:=zs.map λ z=>.d (.str z)
theorem um:∀ {zs:List Str} {vs:List V},bB K H (gQ zs) vs->vs=zs.map V.str
 | [],_,h=>by cases h;rfl
 | z::zs,_,h=>by
  cases h with
  | cons r t =>
   simp only[aO,aG] at r;rw[r,um t];rfl
theorem vI(z:Str):∀ zs:List Str,inV (.str z) (zs.map V.str)=decide (z∈zs)
 | []=>rfl
 | y::zs=>by
  have h:inV (.str z) ((y::zs).map V.str)=((y==z) || inV (.str z) (zs.map V.str)):=rfl;rw[h,vI z zs]
  by_cases e:z=y
  ·subst e;simp
  ·have e':(y==z)=false:=by
    cases q:(y==z) with
    | false=>rfl
    | true=>exact absurd (eq_of_beq q).symm e
   rw[e'];simp[e]
theorem iW:∀ zs:List Str,(zs.map V.str).all mf=true
 | []=>rfl
 | _::zs=>by simp[mf]
def aav(neg:Bool)(w w':W)(M:MH)(Q:QD):Prop:=∃ z zs,w=.d (.str z)/\abD M w' (gQ zs)/\Q (.d (.bool (if neg then !decide (z∈zs) else decide (z∈zs)))) M
theorem t7(neg:Bool):OpD K (rIn K neg) (aav neg):=by intro x y H w w' M Qd Q r1 r2 m ⟨z,zs,ew,g,q⟩ k;subst ew;simp only[aO,aG] at r1;subst r1;obtain⟨p,ys,ey,hs,rs⟩:=g.sound r2 m;have e:=um rs;subst e;refine⟨p,_,ey,hs,rfl,iW zs,?_⟩;rw[vI];exact k _ H (.d (.bool _)) M (Kp.refl H) (by simp[aO,aG]) m q
def ad5(ws:List W)(M:MH)(Q:QD):Prop:=(∃ i,ws=[.d (.int i)]/\Q (.d (.int i)) M)\/∃ b,ws=[.d (.bool b)]/\Q (.d (.int (if b then 1 else 0))) M
theorem abp:fH K (λ xs H Q=>(∃ i,xs=[.int i]/\Q (.int i) H)\/∃ k,xs=[.bl k]/\Q (.int (if k then 1 else 0)) H) ad5:=by
 intro vs H ws M Qd Q r m h k;rcases h with ⟨i,e,q⟩ | ⟨b,e,q⟩
 ·subst e;obtain⟨v,e1,r1⟩:=eU r;simp only[aO,aG] at r1;subst r1;exact .inl ⟨i,e1,k _ H (.d (.int i)) M (Kp.refl H) (by simp[aO,aG]) m q⟩
 ·subst e;obtain⟨v,e1,r1⟩:=eU r;simp only[aO,aG] at r1;subst r1;exact .inr ⟨b,e1,k _ H (.d (.int _)) M (Kp.refl H) (by simp[aO,aG]) m q⟩
end
theorem uo:∀ {ns:List Int} {its:List Value},Vals (ns.map V.int) its->∃ xs:List (Int×Tok),its=xs.map (λ p=>Value.int p.1 p.2)/\xs.map (·.1)=ns
 | [],its,h=>by cases h;exact⟨[],rfl,rfl⟩
 | n::ns,its,h=>by
  cases h with
  | cons r t =>
   obtain⟨tk,e⟩:=(show ∃ t,_=Value.int n t from r);obtain⟨xs,e1,e2⟩:=uo t;exact⟨(n,tk)::xs,by rw[e,e1];rfl,by rw[List.map_cons,e2]⟩
section
variable {X:Cx}{K:FG}
def afP(K:FG):R2:=λ x y H Q=>∃ l b xs zs,x=.ref l/\y=.ref b/\SqL K H l xs/\SqL K H b zs/\xs.length+zs.length<=sizeLine/\∀ p,H p=none->Q (.ref p) (upd H p (.lst (xs++zs)))
theorem oh:OpR X (binaryOp .Add) (afP X.K):=by
 intro pins s σ H x y v u Q I rx ry h;obtain⟨l,b,xs,zs,rfl,rfl,h1,h2,hz,q⟩:=h;cases rx;cases ry;obtain⟨its,r1,p1,_⟩:=I.list h1;obtain⟨its2,r2,p2,_⟩:=I.list h2;have t1:=p1.isList.typeIs (s:=s);have t2:=p2.isList.typeIs (s:=s);obtain⟨⟨oc,od,odt,osl⟩,n,e1,c1,d1,g1⟩:=p1;obtain⟨⟨oc2,od2,odt2,osl2⟩,n2,e2,c2,d2,g2⟩:=p2;dsimp only at c1 d1 g1 c2 d2 g2;subst c1 d1 g1 c2 d2 g2;have hl1:=r1.length;have hl2:=r2.length;refine wpAny_binaryOp_concat (T:= "list") t1 t2 noFill_list_add seq_list_add ?_;refine call_meets PySem.F.slot_list_add t1 PySem.F.entry_list_add (PySem.F.args_list_add_2 _ _) (list_addW l b its.toArray its2.toArray n n2 none none osl osl2 (by simp only[List.size_toArray];omega)) ⟨e1,e2,?_⟩;have ea:its.toArray++its2.toArray=(its++its2).toArray:=by simp
 rw[ea];exact⟨.ref _,_,I.ajl (t':=s.toks) (r1.append r2) (by rw[List.length_append];omega),rfl,q _ I.fresh⟩
inductive zm(M:MH):W->List PyData->Prop
 | d {ds:List PyData}:zm M (.d (.list ds)) ds
 | m {a:Addr} {ds:List PyData} (h:M a=some (.lst (ds.map W.d))):zm M (.m a) ds
theorem zm.sound(g:zm M w ds)(r:aO K H w x)(m:cX K H M):∃ p ys,x=.ref p/\SqL K H p ys/\bt K H ds ys:=by
 cases g with
 | d =>
  simp only[aO,aG] at r;obtain⟨a,vs,e,hs,ra⟩:=r;exact⟨a,vs,e,hs.sq,ra⟩
 | m h =>
  obtain⟨vs,e,ra⟩:=m _ _ h;exact⟨_,vs,r,.inl (.inl e),ra.data⟩
def rj(ta tb:TD)(τ:DS)(M:MH)(Q:QD):Prop:=ta τ M λ w M1=>tb τ M1 λ w' M2=>∃ xs ys,zm M2 w xs/\zm M2 w' ys/\xs.length+ys.length<=sizeLine/\Q (.d (.list (xs++ys))) M2
theorem afe(ha:PD X a ta)(hb:PD X b tb):PD X (.BinOp a .Add b pos) (rj ta tb):=iA (oS (afB oh ha hb)) λ σ H Q h=>by obtain⟨τ,M,Qd,A,h,k⟩:=h;refine⟨τ,M,_,A,h,λ x H1 w M1 kp1 r1 m1 q1=>⟨τ,M1,_,A.go kp1 m1,q1,λ y H2 w' M2 kp2 r2 m2 hq61=>?_⟩⟩;obtain⟨xs,ys,g1,g2,hz,q⟩:=hq61;obtain⟨p,vs,e1,s1,ra1⟩:=g1.sound (r1.keep kp2) m2;obtain⟨p',vs',e2,s2,ra2⟩:=g2.sound r2 m2;refine⟨p,p',vs,vs',e1,e2,s1,s2,by rw[ra1.length,ra2.length];exact hz,λ c hc=>?_⟩;exact nV hc (ra1.append ra2) m2 q (kgo (kgo k kp1) kp2)
theorem k7:∀ {ns:List Int} {vs:List V},bt K H (ns.map PyData.int) vs->vs=ns.map V.int
 | [],vs,h=>by simpa [bt] using h
 | n::ns,vs,h=>by simp only[List.map_cons,bt] at h;obtain⟨v,r,e,h1,h2⟩:=h;simp only[aG] at h1;rw[e,h1,k7 h2];rfl
end
abbrev ahd:=List W->DS->MH->(DS->MH->Prop)->Prop
def ajC(K:FG)(g:ahd):TGs:=λ vs σ H Q=>∃ ws τ M Qd,bB K H ws vs/\Abs K H σ τ M/\g ws τ M Qd/\∀ σ' H' τ' M',Kp H H'->Abs K H' σ' τ' M'->Qd τ' M'->Q σ' H'
abbrev aea(X:Cx)(es:List Expr)(g:ahd):Prop:=PGs X es (ajC X.K g)
theorem agu(h:PGs X es g)(k:∀ v σ H Q,g' v σ H Q->g v σ H Q):PGs X es g':=λ pins s σ H v u Q I r q=>h pins s σ H v u Q I r (k v σ H Q q)
def jn(ws:List W)(τ:DS)(M:MH)(Q:DS->MH->Prop):Prop:=ws=[]/\Q τ M
def bQ(g:TGd)(gs:ahd)(ws:List W)(τ:DS)(M:MH)(Q:DS->MH->Prop):Prop:=∃ w r,ws=w::r/\g w τ M λ τ' M'=>gs r τ' M' Q
theorem vH(h1:PGd X e g)(h2:aea X es gs)(hs:(assignEach (e::es) X.env).map (·.2)=assign e X.env::(assignEach es X.env).map (·.2):=by rfl):aea X (e::es) (bQ g gs):=
 agu (zx h1 h2 hs) λ vs σ H Q hq63=>by
  obtain⟨ws,τ,M,Qd,r,A,⟨w,wr,ew,q⟩,k⟩:=hq63;subst ew;cases r with
  | cons r1 r2 =>
   refine⟨_,_,rfl,w,τ,M,_,r1,A,q,λ σ1 H1 τ1 M1 kp1 A1 q1=>?_⟩;exact⟨wr,τ1,M1,Qd,bB.keep kp1 r2,A1,q1,λ σ2 H2 τ2 M2 kp2 A2 q2=>k σ2 H2 τ2 M2 (kp1.trans kp2) A2 q2⟩
def gT(n:Nat)(gs:ahd)(w:W)(τ:DS)(M:MH)(Q:DS->MH->Prop):Prop:=∃ ds,w=.d (.tuple ds)/\ds.length=n/\gs (ds.map W.d) τ M Q
theorem adx(hc:X.calm=true)(h:aea X es gs)(hn:(assignEach es X.env).length=n:=by rfl)(hst:(assignEach es X.env).findIdx? (·.1)=none:=by rfl):PGd X (.Tuple es k pos) (gT n gs):=
 aio (afj hc h hn hst) λ v σ H Q hq64=>by obtain⟨w,τ,M,Qd,r,A,⟨ds,ew,hl,q⟩,kk⟩:=hq64;subst ew;simp only[aO,aG] at r;obtain⟨a,vs,ev,hs,ra⟩:=r;exact⟨a,vs,ev,hs,by rw[ra.length];exact hl,ds.map W.d,τ,M,Qd,ra.ws,A,q,kk⟩
def ahg(i j:Nat)(t:TAd)(D:Ed)(τ:DS)(M:MH):Prop:=t τ M λ ws M1=>∃ v w,ws=[v,w]/\D.nx ((τ.set i (some v)).set j (some w)) M1
theorem ady{kt k2 pt2}(hc:X.calm=true)(hN:X.N.Nodup)(hi:X.N[i]? =some x)(hj:X.N[j]? =some y)(hij:i≠j)
  (hx:X.env.scope.names.lookup x=some .local)(hy:X.env.scope.names.lookup y=some .local)(ha:PAd X [a,b] t)
  (hw:swappedStores [.Tuple [.Name x px,.Name y py] kt pt] (.Tuple [a,b] k2 pt2) X.env=pure (some [x,y]):=by rfl)
  (hs:swapsWithSole [.Tuple [.Name x px,.Name y py] kt pt] (.Tuple [a,b] k2 pt2) pos.line X.env=pure false:=by rfl) :
  PSd X (.Assign [.Tuple [.Name x px,.Name y py] kt pt] (.Tuple [a,b] k2 pt2) pos) (ahg i j t):=u7 (agk hc hN hi hj hij hx hy ha hw hs) λ D σ H h=>by
 obtain⟨τ,M,Dd,A,h,k1,_⟩:=h;refine⟨τ,M,_,A,h,λ vs H1 ws M1 kp1 r1 m1 hq65=>?_⟩;obtain⟨v,w,ew,q⟩:=hq65;subst ew;obtain⟨u1,u2,e1,r2,r3⟩:=tS r1;exact⟨u1,u2,e1,k1 _ H1 _ M1 kp1 (((A.go kp1 m1).set i r2).set j r3) q⟩
section
variable {K:FG}{C:Addr}
end
theorem pcT(hc:eI X (.type T) r)(hd:fH X.K r rd)(hg:Gl X x)(hm:X.mg x=none)(hv:bootBuiltins x=some (.type T))(ha:PAd X (e::es) t)(hn:x ≠ "__name__":= by decide)(hdb:ND x:=by decide)
  (h1:gh e=false:=by rfl)(h2:(es.all λ e=>!gh e)=true:=by rfl):PD X (.Call (.Name x p) (e::es) [] pos) (dCB rd t):=yk hc hd hg hm hv ha hn hdb (cR e es X.env h1) (dh pos X.env es h2)
theorem jF  : Jd (PD X (.Dict [] [] pos) n4):=⟨iA sX λ σ H Q ⟨τ,M,Qd,A,h,k⟩ p hp =>
 k (.ref p) _ (.m p) (bY M p (.dic [])) (Kp.new hp) rfl (A.mem.put (mo:=.dic []) (Kp.new hp) ⟨[],ar,.nil⟩) (h p (A.mem.free hp))⟩
theorem nO(hu:X.A.units+1<cLine)(ho:Jd (PD X o td))(hi:Jd (PD X i ti))(hs:ahl i:=by exact λ _ _=>rfl):Jd (PD X (.Subscript o i pos) (yZ td ti)):=⟨D.aci (hu:=hu) (ho:=ho.h) (hi:=hi.h) (hs:=hs)⟩
theorem uw(hu:X.A.units+1<cLine)(ho:Jd (PD X o td))(he:Jd (PD X e ti))(hf:Jd (PD X f tx))(m:M2 X o "get" apos e f cpos:=by exact⟨rfl,rfl,rfl,rfl⟩):Jd (PD X (.Call (.Attribute o "get" apos) [e,f] [] cpos) (aal td ti tx)):=⟨D.aen (hu:=hu) (ho:=ho.h) (he:=he.h) (hf:=hf.h) (m:=m)⟩
theorem pw(hu:X.A.units+1<cLine)(ho:Jd (PD X o td))(hi:Jd (PD X i ti))(hv:Jd (PD X value tv))(hs:swapsWith value (some (.Subscript o i pos')) pos.line X.env=pure false:=by rfl):Jd (PSd X (.Assign [.Subscript o i pos'] value pos) (aaP td ti tv)):=⟨D.aar (hu:=hu) (ho:=ho.h) (hi:=hi.h) (hv:=hv.h) (hs:=hs)⟩
theorem eK(h:Jd (PD X e td)):Jd (PD X e (lL td)):=⟨D.adQ (h:=h.h)⟩
theorem fz(ho:Jd (PD X o td))(he:Jd (PD X e te))(hbase:attributeBase o "append" X.env (eval o X.env)=eval o X.env:=by rfl)(hfew:((backTo cpos (starEach [e] X.env)).all (λ x=>!x.1)&&(backToKw cpos (keywordEach [] X.env)).all (λ x=>x.1.isSome)
   && decide (([e]:List Expr).length+([]:List Keyword).length+(if ([]:List Keyword).isEmpty then 0 else 1)<30))=true:=by rfl)(hline:(apos.endLine==cpos.line)=true:=by rfl)(hs:gh e=false:=by rfl):Jd (PD X (.Call (.Attribute o "append" apos) [e] [] cpos) (gv td te)):=⟨D.wN (ho:=ho.h) (he:=he.h) (hbase:=hbase) (hfew:=hfew) (hline:=hline) (hs:=hs)⟩
theorem gC(ha:Jd (PD X a ta))(hb:Jd (PD X b tb)):Jd (PD X (.BinOp a .Add b pos) (rj ta tb)):=⟨D.afe (ha:=ha.h) (hb:=hb.h)⟩
theorem cH  : Jd (aea X [] jn):=⟨agu acV λ vs σ H Q hq62=>by obtain⟨ws,τ,M,Qd,r,A,⟨e,q⟩,k⟩:=hq62;subst e;cases r;exact⟨rfl,k σ H τ M (Kp.refl H) A q⟩⟩
theorem aJ(h1:Jd (PGd X e g))(h2:Jd (aea X es gs))(hs:(assignEach (e::es) X.env).map (·.2)=assign e X.env::(assignEach es X.env).map (·.2):=by rfl):Jd (aea X (e::es) (bQ g gs)):=⟨D.vH (h1:=h1.h) (h2:=h2.h) (hs:=hs)⟩
theorem dm(hc:X.calm=true)(h:Jd (aea X es gs))(hn:(assignEach es X.env).length=n:=by rfl)(hst:(assignEach es X.env).findIdx? (·.1)=none:=by rfl):Jd (PGd X (.Tuple es k pos) (gT n gs)):=⟨D.adx (hc:=hc) (h:=h.h) (hn:=hn) (hst:=hst)⟩
theorem tV{kt k2 pt2}(hc:X.calm=true)(hN:X.N.Nodup)(hi:X.N[i]? =some x)(hj:X.N[j]? =some y)(hij:i≠j)(hx:X.env.scope.names.lookup x=some .local)(hy:X.env.scope.names.lookup y=some .local)(ha:Jd (PAd X [a,b] t))(hw:swappedStores [.Tuple [.Name x px,.Name y py] kt pt] (.Tuple [a,b] k2 pt2) X.env=pure (some [x,y]):=by rfl)(hs:swapsWithSole [.Tuple [.Name x px,.Name y py] kt pt] (.Tuple [a,b] k2 pt2) pos.line X.env=pure false:=by rfl):Jd (PSd X (.Assign [.Tuple [.Name x px,.Name y py] kt pt] (.Tuple [a,b] k2 pt2) pos) (ahg i j t)):=⟨D.ady (hc:=hc) (hN:=hN) (hi:=hi) (hj:=hj) (hij:=hij) (hx:=hx) (hy:=hy) (ha:=ha.h) (hw:=hw) (hs:=hs)⟩
theorem ad2(hc:eI X (.type T) r)(hd:fH X.K r rd)(hg:Gl X x)(hm:X.mg x=none)(hv:bootBuiltins x=some (.type T))(ha:Jd (PAd X (e::es) t))(hn:x ≠ "__name__":= by decide)(hdb:ND x:=by decide)(h1:gh e=false:=by rfl)(h2:(es.all λ e=>!gh e)=true:=by rfl):Jd (PD X (.Call (.Name x p) (e::es) [] pos) (dCB rd t)):=⟨D.pcT (hc:=hc) (hd:=hd) (hg:=hg) (hm:=hm) (hv:=hv) (ha:=ha.h) (hn:=hn) (hdb:=hdb) (h1:=h1) (h2:=h2)⟩
@[simp] theorem afT (i j:Int):gj (.int i) (.int j)=true:=rfl
@[simp] theorem agh (x y:Str):gj (.str x) (.str y)=true:=rfl
@[simp] theorem aer (x y:Bool):gj (.bool x) (.bool y)=true:=rfl
@[simp] theorem aij (i j:Int):PyData.eqv (.int i) (.int j)=(i==j):=by rw[PyData.eqv]
@[simp] theorem xU (i j:Str):PyData.eqv (.str i) (.str j)=(i==j):=by rw[PyData.eqv]
@[simp] theorem ai3 (a:Addr):vw (.m a)=true:=rfl
@[simp] theorem afx (ds:List PyData):vw (.d (.list ds))=true:=rfl
@[simp] theorem aeC (ds:List PyData):vw (.d (.tuple ds))=true:=rfl
@[simp] theorem ahh (n:Nat):ixN (n+1) 0=some 0:=by unfold ixN;simp
theorem yJ{α:Type}{xs:List α}{i:Int}(h0:0<=i)(h1:i<xs.length):atI xs i=some (xs[i.toNat]'(by omega)):=by
 unfold atI ixN;rw[if_pos h0,if_pos h1];simp
inductive Bag(M:MH) (p:Addr):Prop
 | mk (a b c:Int) (ns:List Int) (e:M p=some (.lst [.d (.int a),.d (.int b),.d (.int c),.d (.list (ns.map PyData.int))])) (z:0<=a/\0<=b/\b<2147483647/\0<=c/\(∀ n∈ns,0<=n)):Bag M p
def fc:SpD:=λ ws M Q=>∃ ns:List Int,ws=[.d (.list (ns.map PyData.int))]/\ns.length<=1000/\∀ p M',M p=none->(∀ q,q≠p->M' q=M q)->Bag M' p->Q (.m p) M'
inductive qo(ws:List W) (M:MH) (Q:QD):Prop
 | mk (p:Addr) (n:Int) (z0:ws=[.m p,.d (.int n)]) (z1:Bag M p) (z2:0<n) (z3:n<1073741824) (z4:∀ (r:Int) M',0<=r->r<n->Bag M' p->(∀ q,q≠p->M' q=M q)->Q (.d (.int r)) M'):qo ws M Q
def av:SpD:=qo
theorem wb:∀ ws M Q,fc ws M Q->ws.length=1:=by rintro ws M Q ⟨ns,rfl,_⟩;rfl
theorem uz:∀ ws M Q,av ws M Q->ws.length=2:=by rintro ws M Q ⟨p,n,rfl,_⟩;rfl
theorem yL{n:Nat}{i:Int}(h0:0<=i)(h1:i<n):ixN n i=some i.toNat:=by unfold ixN;rw[if_pos h0,if_pos h1]
theorem mF(hm:M p=some (.lst ws))(h:atI ws i=some x):ixW M (.m p) i=some x:=by simp only[ixW,hm];exact h
theorem d3{c:Bool}{A B:Prop}(h1:c=true->A)(h2:c=false->B):if c=true then A else B:=by
 cases c with
 | true=>rw[if_pos rfl];exact h1 rfl
 | false=>rw[if_neg Bool.false_ne_true];exact h2 rfl
abbrev yA:List Str:=["_law_script"]
def xT:TSd:=
  de (gy (ae (dC (.d (.int 0))) (ae (dC (.d (.int 1234567891))) (ae (dC (.d (.int 0))) (ae (dLC (dJ (dSl (ai 0) (aK) (bE (dC (.d (.int 63)))))) (gN 0) (rm) (dCB aeM (ae (ai 0) (aB))) 1 []) (aB))))))
abbrev kB:List Str:=["_law_bag_here", "_law_many", "_law_cell", "_law_value", "_law_first", "_law_second"]
def om:TSd:=
  bp (dIf (aZ (dOp aiU (dOp cY (ai 0) (dC (.d (.int 0)))) (dC (.d (.int 0)))))
   (bp (cB (dC (.d (.int 0))) (gN 2)) <|
   bp (dIf (aZ (dOp ahc (dOp cY (ai 0) (dC (.d (.int 2)))) (dCB fT (ae (dOp cY (ai 0) (dC (.d (.int 3)))) (aB)))))
    (cB (dOp cY (dOp cY (ai 0) (dC (.d (.int 3)))) (dOp cY (ai 0) (dC (.d (.int 2))))) (gN 2))
    (cf)) <|
   bp (aat (ai 0) (dC (.d (.int 2))) (dC (.d (.int 1))) (λ i j=>i+j)) <|
   bp (dIf (aZ (dOp agP (ai 2) (dC (.d (.int 1000000000000000000)))))
    (cB (ai 2) (vC (ai 0) (dC (.d (.int 0)))))
    (cf)) <|
   cB (dOp eV (dOp dq (dOp dq (dOp iz (dOp cY (ai 0) (dC (.d (.int 1)))) (dC (.d (.int 48271)))) (dOp eV (ai 2) (dC (.d (.int 2147483647))))) (dOp iz (dC (.d (.int 7919))) (dOp cY (ai 0) (dC (.d (.int 2)))))) (dC (.d (.int 2147483647)))) (vC (ai 0) (dC (.d (.int 1)))))
   (cf)) <|
  bp (dIf (aZ (dOp abV (dOp cY (ai 0) (dC (.d (.int 0)))) (dC (.d (.int 0)))))
   (bp (cB (dOp eV (dOp cY (ai 0) (dC (.d (.int 0)))) (ai 1)) (gN 3)) <|
   bp (cB (dOp xI (dOp cY (ai 0) (dC (.d (.int 0)))) (ai 1)) (vC (ai 0) (dC (.d (.int 0))))) <|
   de (ai 3))
   (cf)) <|
  bp (cB (dOp eV (dOp iz (dOp dq (dOp cY (ai 0) (dC (.d (.int 1)))) (dC (.d (.int 1)))) (dC (.d (.int 39373)))) (dC (.d (.int 1000000007)))) (gN 4)) <|
  bp (cB (dOp eV (dOp iz (dOp eV (dOp iz (ai 4) (ai 4)) (dC (.d (.int 998244353)))) (dC (.d (.int 30011)))) (dC (.d (.int 998244353)))) (gN 5)) <|
  bp (dIf (aZ (dOp abV (ai 1) (dC (.d (.int 1000000)))))
   (de (dOp eV (dOp dq (dOp iz (ai 5) (dC (.d (.int 1000000007)))) (ai 4)) (ai 1)))
   (cf)) <|
  de (dOp eV (dOp xI (ai 5) (dC (.d (.int 7)))) (ai 1))
abbrev zZ(a b c:Int)(ns:List Int):List W:=[.d (.int a),.d (.int b),.d (.int c),.d (.list (ns.map PyData.int))]
theorem jB(hm:M p=some (.lst (zZ a b c ns)))(ha:0<=a)(hb:0<=b)(hb2:b<2147483647)(hc:0<=c)(hns:∀ n∈ns,0<=n)(hn:0<n)(hn2:n<1073741824)
  (k:∀ (r:Int) M',0<=r->r<n->Bag M' p->(∀ q,q≠p->M' q=M q)->Q (.d (.int r)) M')(hD:D.rt=Q) :
  (bp (dIf (aZ (dOp abV (dOp cY (ai 0) (dC (.d (.int 0)))) (dC (.d (.int 0)))))
   (bp (cB (dOp eV (dOp cY (ai 0) (dC (.d (.int 0)))) (ai 1)) (gN 3)) <|
   bp (cB (dOp xI (dOp cY (ai 0) (dC (.d (.int 0)))) (ai 1)) (vC (ai 0) (dC (.d (.int 0))))) <|
   de (ai 3))
   (cf)) <|
  bp (cB (dOp eV (dOp iz (dOp dq (dOp cY (ai 0) (dC (.d (.int 1)))) (dC (.d (.int 1)))) (dC (.d (.int 39373)))) (dC (.d (.int 1000000007)))) (gN 4)) <|
  bp (cB (dOp eV (dOp iz (dOp eV (dOp iz (ai 4) (ai 4)) (dC (.d (.int 998244353)))) (dC (.d (.int 30011)))) (dC (.d (.int 998244353)))) (gN 5)) <|
  bp (dIf (aZ (dOp abV (ai 1) (dC (.d (.int 1000000)))))
   (de (dOp eV (dOp dq (dOp iz (ai 5) (dC (.d (.int 1000000007)))) (ai 4)) (ai 1)))
   (cf)) <|
  de (dOp eV (dOp xI (ai 5) (dC (.d (.int 7)))) (ai 1))) D [some (.m p),some (.d (.int n)),x,none,none,none] M:=by
 subst hD;have i0:ixW M (.m p) 0=some (.d (.int a)):=mF hm rfl;have i1:ixW M (.m p) 1=some (.d (.int b)):=mF hm rfl;have same:Bag M p:=⟨a,b,c,ns,hm,ha,hb,hb2,hc,hns⟩;refine⟨_,rfl,_,_,rfl,i0,rfl,_,_,rfl,rfl,_,rfl,?_⟩;refine d3 (λ h=>?_) (λ h=>?_)
 ·have h0:0<a:=of_decide_eq_true h;refine⟨_,rfl,_,_,rfl,i0,rfl,_,rfl,_,_,rfl,rfl,hn,?_⟩;refine⟨_,rfl,_,_,rfl,i0,rfl,_,rfl,_,_,rfl,rfl,⟨hn,hn2⟩,?_⟩;refine⟨_,rfl,_,_,_,_,rfl,rfl,hm,rfl,?_⟩;refine⟨_,rfl,?_⟩;refine k _ _ (Int.emod_nonneg _ (by omega)) (Int.emod_lt_of_pos _ hn) ⟨a / n,b,c,ns,ak,Int.ediv_nonneg ha (by omega),hb,hb2,hc,hns⟩ λ q hq=>aF hq
 ·refine⟨_,rfl,_,_,rfl,i1,rfl,.inl ?_⟩;refine⟨_,_,rfl,rfl,_,_,rfl,rfl,.inl ⟨by omega,by omega⟩,_,_,rfl,rfl,(by decide:(0:Int)<1000000007),?_⟩;have f0:0<=(b+1) * 39373 % 1000000007:=Int.emod_nonneg _ (by decide);have f1:(b+1) * 39373 % 1000000007<1000000007:=Int.emod_lt_of_pos _ (by decide);refine⟨_,rfl,_,rfl,_,_,rfl,rfl,.inl ⟨by omega,by omega⟩,_,_,rfl,rfl,(by decide:(0:Int)<998244353),?_⟩;have g0:0<=(b+1) * 39373 % 1000000007 * ((b+1) * 39373 % 1000000007) % 998244353:=Int.emod_nonneg _ (by decide);have g1:(b+1) * 39373 % 1000000007 * ((b+1) * 39373 % 1000000007) % 998244353<998244353:=Int.emod_lt_of_pos _ (by decide);refine⟨_,_,rfl,rfl,.inl ⟨by omega,by omega⟩,_,_,rfl,rfl,(by decide:(0:Int)<998244353),?_⟩;have e0:0<=(b+1) * 39373 % 1000000007 * ((b+1) * 39373 % 1000000007) % 998244353 * 30011 % 998244353:=Int.emod_nonneg _ (by decide);have e1:(b+1) * 39373 % 1000000007 * ((b+1) * 39373 % 1000000007) % 998244353 * 30011 % 998244353<998244353:=Int.emod_lt_of_pos _ (by decide);refine⟨_,rfl,_,_,rfl,rfl,_,rfl,?_⟩;refine d3 (λ h=>?_) (λ h=>?_)
  ·refine⟨_,rfl,_,_,rfl,rfl,.inl ⟨by omega,by omega⟩,_,rfl,.inl ⟨_,_,rfl,rfl,_,rfl,_,_,rfl,rfl,hn,?_⟩⟩;exact k _ _ (Int.emod_nonneg _ (by omega)) (Int.emod_lt_of_pos _ hn) same λ q _=>rfl
  ·refine⟨_,rfl,_,_,rfl,rfl,⟨by decide,by decide⟩,_,rfl,_,_,rfl,rfl,hn,?_⟩;exact k _ _ (Int.emod_nonneg _ (by omega)) (Int.emod_lt_of_pos _ hn) same λ q _=>rfl
theorem mq(hm:M p=some (.lst (zZ a b c ns)))(ha:0<=a)(hb:0<=b)(hb2:b<2147483647)(hc:0<=c)(hcell:0<=cell)
  (k:∀ a' b' c' M',0<=a'->0<=b'->b'<2147483647->0<=c'->M' p=some (.lst (zZ a' b' c' ns))->(∀ q,q≠p->M' q=M q)->D.nx [some (.m p),some (.d (.int n)),some (.d (.int cell)),none,none,none] M') :
  (bp (aat (ai 0) (dC (.d (.int 2))) (dC (.d (.int 1))) (λ i j=>i+j)) <|
   bp (dIf (aZ (dOp agP (ai 2) (dC (.d (.int 1000000000000000000)))))
    (cB (ai 2) (vC (ai 0) (dC (.d (.int 0)))))
    (cf)) <|
   cB (dOp eV (dOp dq (dOp dq (dOp iz (dOp cY (ai 0) (dC (.d (.int 1)))) (dC (.d (.int 48271)))) (dOp eV (ai 2) (dC (.d (.int 2147483647))))) (dOp iz (dC (.d (.int 7919))) (dOp cY (ai 0) (dC (.d (.int 2)))))) (dC (.d (.int 2147483647)))) (vC (ai 0) (dC (.d (.int 1)))))
   D [some (.m p),some (.d (.int n)),some (.d (.int cell)),none,none,none] M:=by
 refine⟨_,rfl,_,_,_,_,_,rfl,rfl,hm,rfl,rfl,_,rfl,rfl,?_⟩;have m1:bY M p (.lst (zZ a b (c+1) ns)) p=some (.lst (zZ a b (c+1) ns)):=ak;have f1:∀ q,q≠p->bY M p (.lst (zZ a b (c+1) ns)) q=M q:=λ q hq=>aF hq;show(bp _ _) D _ (bY M p (.lst (zZ a b (c+1) ns)));generalize bY M p (.lst (zZ a b (c+1) ns))=M1 at m1 f1;have fin:∀ (a':Int) (M2:MH),0<=a'->M2 p=some (.lst (zZ a' b (c+1) ns))->(∀ q,q≠p->M2 q=M q) ->
   cB (dOp eV (dOp dq (dOp dq (dOp iz (dOp cY (ai 0) (dC (.d (.int 1)))) (dC (.d (.int 48271)))) (dOp eV (ai 2) (dC (.d (.int 2147483647))))) (dOp iz (dC (.d (.int 7919))) (dOp cY (ai 0) (dC (.d (.int 2)))))) (dC (.d (.int 2147483647)))) (vC (ai 0) (dC (.d (.int 1)))) D [some (.m p),some (.d (.int n)),some (.d (.int cell)),none,none,none] M2:=by
  intro a' M2 ha' m2 f2;have i1:ixW M2 (.m p) 1=some (.d (.int b)):=mF m2 rfl;have i2:ixW M2 (.m p) 2=some (.d (.int (c+1))):=mF m2 rfl;refine⟨_,rfl,_,_,rfl,i1,rfl,_,_,rfl,rfl,.inl ⟨by omega,by omega⟩,_,rfl,_,_,rfl,rfl,(by decide:(0:Int)<2147483647),.inl ?_⟩;refine⟨_,_,rfl,rfl,_,rfl,_,_,rfl,i2,rfl,_,_,rfl,rfl,.inl ⟨by decide,by decide⟩,.inl ?_⟩;refine⟨_,_,rfl,rfl,_,_,rfl,rfl,(by decide:(0:Int)<2147483647),_,rfl,_,_,_,_,rfl,rfl,m2,rfl,?_⟩;exact k a' _ (c+1) _ ha' (Int.emod_nonneg _ (by decide)) (Int.emod_lt_of_pos _ (by decide)) (by omega) ak λ q hq=>(aF hq).trans (f2 q hq)
 refine⟨_,rfl,_,_,rfl,rfl,_,rfl,?_⟩;refine d3 (λ h=>?_) (λ h=>?_)
 ·refine⟨_,rfl,_,rfl,_,_,_,_,rfl,rfl,m1,rfl,?_⟩;exact fin cell _ hcell ak λ q hq=>(aF hq).trans (f1 q hq)
 ·exact fin a M1 ha m1 f1
theorem iq:∀ ws M Q,av ws M Q->om {nx:=λ _ M'=>Q (.d .none) M',rt:=Q} (dg kB ws) M:=by
 rintro ws M Q ⟨p,n,rfl,⟨a,b,c,ns,hm,ha,hb,hb2,hc,hns⟩,hn,hn2,k⟩;have i0:ixW M (.m p) 0=some (.d (.int a)):=mF hm rfl;have i2:ixW M (.m p) 2=some (.d (.int c)):=mF hm rfl;have i3:ixW M (.m p) 3=some (.d (.list (ns.map PyData.int))):=mF hm rfl;refine⟨_,rfl,_,_,rfl,i0,rfl,_,_,rfl,rfl,rfl,_,rfl,?_⟩;refine d3 (λ h=>?_) (λ h=>?_)
 ·refine⟨_,rfl,_,_,rfl,i2,rfl,_,rfl,_,_,rfl,i3,rfl,_,_,rfl,rfl,rfl,_,_,rfl,rfl,_,rfl,?_⟩;refine d3 (λ h=>?_) (λ h=>?_)
  ·have hlt:c<((ns.map PyData.int).length:Nat):=of_decide_eq_true h;have hlt':c.toNat<ns.length:=by rw[List.length_map] at hlt;omega
   have ic:ixW M (.d (.list (ns.map PyData.int))) c=some (.d (.int (ns[c.toNat]'hlt'))):=by simp only[ixW];rw[yJ hc hlt];simp
   refine⟨_,rfl,_,_,rfl,i3,rfl,_,rfl,_,_,rfl,i2,rfl,_,_,rfl,ic,rfl,?_⟩;refine mq (cell:=ns[c.toNat]'hlt') hm ha hb hb2 hc (hns _ (List.getElem_mem _)) λ a' b' c' M' h1 h2 h3 h4 h5 h6=>?_;exact jB (x:=some (.d (.int (ns[c.toNat]'hlt')))) h5 h1 h2 h3 h4 hns hn hn2 (λ r M'' r0 r1 bg fr=>k r M'' r0 r1 bg λ q hq=>(fr q hq).trans (h6 q hq)) rfl
  ·refine mq (cell:=0) hm ha hb hb2 hc (Int.le_refl 0) λ a' b' c' M' h1 h2 h3 h4 h5 h6=>?_;exact jB (x:=some (.d (.int 0))) h5 h1 h2 h3 h4 hns hn hn2 (λ r M'' r0 r1 bg fr=>k r M'' r0 r1 bg λ q hq=>(fr q hq).trans (h6 q hq)) rfl
 ·exact jB (x:=none) hm ha hb hb2 hc hns hn hn2 k rfl
theorem wq{ws:List W}{i:Nat}(h:ws[i]? =some w):(ws.take (i+1)).filterMap f=(ws.take i).filterMap f++(f w).toList:=by rw[List.take_add_one,h,List.filterMap_append];cases e:f w<;>simp[e]
theorem acQ{tt:TTd}{te:TD}{fr:List Nat}{τ:DS}{M:MH}{Q:List PyData->MH->Prop}{ws:List W}(f:W->Option PyData)(hl:ws.length<=sizeLine)
  (step:∀ w∈ws,∀ P':Option PyData->Prop,P' (f w)->tt (some w::fr.map λ j=>(τ[j]?).getD none) M λ b M3=>if b=true then te (some w::fr.map λ j=>(τ[j]?).getD none) M3 λ y M4=>∃ d,y=.d d/\M4=M/\P' (some d) else M3=M/\P' none)
  (q:Q (ws.filterMap f) M):∃ P:Nat->List PyData->DS->MH->Prop,P 0 [] (ac9 1 fr τ) M /\
   (∀ i w acc τ M,ws[i]? =some w->P i acc τ M->acc.length<sizeLine/\gN 0 w τ M λ τ2 M2=>tt τ2 M2 λ b M3=>if b=true then te τ2 M3 λ y M4=>∃ d,y=.d d/\P (i+1) (acc++[d]) τ2 M4 else P (i+1) acc τ2 M3) /\
   ∀ acc τ M,P ws.length acc τ M->Q acc M:=by
 let Pk:Nat->List PyData->DS->Prop:=λ i acc τ'=>i<=ws.length/\acc=(ws.take i).filterMap f/\∃ x,τ'=x::fr.map λ j=>(τ[j]?).getD none
 refine⟨λ i acc τ' M'=>M'=M/\Pk i acc τ',⟨rfl,Nat.zero_le _,rfl,none,rfl⟩,λ i w acc τ' M' hw hp=>?_,λ acc τ' M' hp=>?_⟩
 ·obtain⟨rfl,hi,rfl,x,rfl⟩:=hp;have hlt:i<ws.length:=(List.getElem?_eq_some_iff.mp hw).1;refine⟨?_,step w (List.mem_of_getElem? hw) (λ o=>match o with
   | some d=>Pk (i+1) ((ws.take i).filterMap f++[d]) (some w::fr.map λ j=>(τ[j]?).getD none)
   | none=>Pk (i+1) ((ws.take i).filterMap f) (some w::fr.map λ j=>(τ[j]?).getD none)) ?_⟩
  ·have h1:=List.length_filterMap_le f (ws.take i);rw[List.length_take] at h1;omega
  ·cases e:f w with
   | some d=>exact⟨hlt,by rw[wq hw,e];rfl,_,rfl⟩
   | none=>exact⟨hlt,by rw[wq hw,e];simp,_,rfl⟩
 ·obtain⟨rfl,hi,rfl,x,rfl⟩:=hp;rw[List.take_of_length_le (Nat.le_refl _)];exact q
theorem agA{α:Type}(g:α->W)(f:W->Option PyData)(h:α->PyData)(e:∀ a,f (g a)=some (h a))(l:List α):(l.map g).filterMap f=l.map h:=by
 induction l with
 | nil=>rfl
 | cons a l ih=>rw[List.map_cons,List.filterMap_cons,e,ih];rfl
theorem uI:∀ ws M Q,fc ws M Q->xT {nx:=λ _ M'=>Q (.d .none) M',rt:=Q} (dg yA ws) M:=by
 rintro ws M Q ⟨ns,rfl,hl,k⟩;refine⟨_,rfl,_,rfl,_,rfl,rfl,_,rfl,?_⟩;have ec:cutD (ns.map PyData.int) none (some 63)=(cutD ns none (some 63)).map PyData.int:=by simp only[cutD,List.length_map,List.map_take,List.map_drop]
 have hlen:(cutD ns none (some 63)).length<=ns.length:=by simp only[cutD,List.length_take,List.length_drop];omega
 have h1000:(1000:Nat)<=sizeLine:=by rw[sizeLine_eq];decide
 dsimp only;refine acQ (λ w=>match w with
  | .d (.int n)=>some (.int (if n<0 then -n else n))
  | _=>none) ?hl (λ w hw P' hp=>?_) ?_
 case hl=>rw[List.length_map,ec,List.length_map];omega
 ·rw[ec,List.map_map] at hw;obtain⟨n,_,rfl⟩:=List.mem_map.mp hw;exact⟨_,rfl,_,rfl,_,rfl,rfl,hp⟩
 ·have e2:(List.map W.d (cutD (ns.map PyData.int) none (some 63))).filterMap (λ w=>match w with
    | .d (.int n)=>some (PyData.int (if n<0 then -n else n))
    | _=>none)=((cutD ns none (some 63)).map λ n=>if n<0 then -n else n).map PyData.int:=by
   rw[ec,List.map_map,agA (W.d ∘ PyData.int) _ (λ n=>PyData.int (if n<0 then -n else n)) (λ n=>rfl),List.map_map];rfl
  rw[e2];refine⟨by simp[sizeLine_eq],λ p hp=>k p _ hp (λ q hq=>aF hq) ⟨0,1234567891,0,_,ak,Int.le_refl 0,by decide,by decide,Int.le_refl 0,λ n hn=>?_⟩⟩;obtain⟨m,_,rfl⟩:=List.mem_map.mp hn
  split<;>omega
def aby(z:Str):Bool:=z.cps.all (·<128)
mutual
def big:PyData->Nat
 | .none=>4
 | .bool _=>5
 | .int _=>2000
 | .str z=>10 * z.length+2
 | .list ds=>aas ds+2
 | .tuple ds=>aas ds+3
 | .dict kvs=>aeY kvs+2
def aas:List PyData->Nat
 | []=>0
 | d::ds=>big d+2+aas ds
def aeY:List (PyData×PyData)->Nat
 | []=>0
 | (k,d)::ds=>big k+2+big d+2+aeY ds
end
mutual
def eX:PyData->Bool
 | .none=>true
 | .bool _=>true
 | .int i=>decide (i.natAbs.log2<1920)
 | .str z=>aby z
 | .list ds=>mi ds
 | .tuple ds=>mi ds
 | .dict kvs=>uJ kvs
def mi:List PyData->Bool
 | []=>true
 | d::ds=>eX d&&mi ds
def uJ:List (PyData×PyData)->Bool
 | []=>true
 | (k,d)::ds=>eX k&&eX d&&uJ ds
end
theorem rF:∀ ts:List Str,(listText ts).length<=piled ts+2
 | []=>by decide +kernel
 | t::r=>by
  have h:=textFrom_length_pos r 1 (("[" : Str)++(if (0:Nat) > 0 then ", " else "" : String)++t) (Nat.succ_pos 0);have e:((("[" : Str)++(if (0:Nat) > 0 then ", " else "" : String)++t)).length=1+t.length:=by rw[strLen_append,strLen_append];rfl
  have hX:(listText (t::r)).length=(textFrom 0 "[" (t::r)).length+1:=by show(textFrom 0 "[" (t::r) ++ "]").length=_;rw[strLen_append];rfl
  have h2:(textFrom 0 "[" (t::r)).length=(1+t.length)+piled r:=by rw[<- e];exact h
  have h3:piled (t::r)=t.length+2+piled r:=by simp[piled]
  omega
theorem join_le(ts:List Str):(Str.join ", " ts).length<=piled ts:=by
 cases ts with
 | nil=>decide +kernel
 | cons t r=>have:=join_length_add (t::r) (by simp);omega
theorem ph(ts:List Str):(tupleText ts).length<=piled ts+3:=by
 unfold tupleText;rw[strLen_append,strLen_append];have e1:((("(" : String):Str)).length=1:=rfl;have e3:(((if ts.length==1 then ",)" else ")" : String):Str)).length<=2:=by split<;>decide
 have:=join_le ts;omega
theorem sr(ts:List Str):(dictText ts).length<=piled ts+2:=by
 unfold dictText;rw[strLen_append,strLen_append];have e1:((("{" : String):Str)).length=1:=rfl;have e2:((("}" : String):Str)).length=1:=rfl;have:=join_le ts;omega
theorem acF{i:Int}(h:i.natAbs.log2<1920):(Str.ofString (toString i)).length<=2000:=by have e:=int_text_length_le (k:=1920) (by decide) h;rw[PySem.ofString_length];omega
theorem repr_len(h:aby z=true):(reprText z).length<=10 * z.length+2:=StrLaws.reprText_len z λ c hc=>by
 have:=Array.all_eq_true_iff_forall_mem.mp h c (by simpa using hc);have h2:c<128:=by simpa using this
 omega
mutual
theorem shown_le:∀ d:PyData,eX d=true->d.shown.length<=big d
 | .none,_=>by rw[PyData.shown];decide +kernel
 | .bool b,_=>by rw[PyData.shown];cases b<;>decide +kernel
 | .int i,h=>by rw[PyData.shown];exact acF (by simpa [eX] using h)
 | .str z,h=>by rw[PyData.shown,big];exact repr_len (by simpa [eX] using h)
 | .list ds,h=>by have h1:=lF ds (by simpa [eX] using h);have h2:=rF (PyData.shownAll ds);rw[PyData.shown,big];omega
 | .tuple ds,h=>by have h1:=lF ds (by simpa [eX] using h);have h2:=ph (PyData.shownAll ds);rw[PyData.shown,big];omega
 | .dict ds,h=>by have h1:=qU ds (by simpa [eX] using h);have h2:=sr (PyData.shownKv ds);rw[PyData.shown,big];omega
theorem lF:∀ ds:List PyData,mi ds=true->piled (PyData.shownAll ds)<=aas ds
 | [],_=>by simp[PyData.shownAll,piled,aas]
 | d::ds,h=>by simp only[mi,Bool.and_eq_true] at h;have h1:=shown_le d h.1;have h2:=lF ds h.2;simp only[PyData.shownAll,piled_cons,aas];omega
theorem qU:∀ ds:List (PyData×PyData),uJ ds=true->piled (PyData.shownKv ds)<=aeY ds
 | [],_=>by simp[PyData.shownKv,piled,aeY]
 | (k,d)::ds,h=>by simp only[uJ,Bool.and_eq_true] at h;have h1:=shown_le k h.1.1;have h3:=shown_le d h.1.2;have h2:=qU ds h.2;have e:((((": " : String):Str))).length=2:=rfl;simp only[PyData.shownKv,piled_cons,aeY,strLen_append,e];omega
end
mutual
theorem iQ:∀ d:PyData,eX d=true->d.showable=true
 | .none,_=>by simp[PyData.showable]
 | .bool b,_=>by simp[PyData.showable]
 | .int i,h=>by simpa [PyData.showable,eX] using h
 | .str z,h=>by simp[PyData.showable]
 | .list ds,h=>by simpa [PyData.showable] using jm ds (by simpa [eX] using h)
 | .tuple ds,h=>by simpa [PyData.showable] using jm ds (by simpa [eX] using h)
 | .dict ds,h=>by simpa [PyData.showable] using mG ds (by simpa [eX] using h)
theorem jm:∀ ds:List PyData,mi ds=true->PyData.showableAll ds=true
 | [],_=>by simp[PyData.showableAll]
 | d::ds,h=>by simp only[mi,Bool.and_eq_true] at h;simp[PyData.showableAll,iQ d h.1,jm ds h.2]
theorem mG:∀ ds:List (PyData×PyData),uJ ds=true->PyData.showableKv ds=true
 | [],_=>by simp[PyData.showableKv]
 | (k,d)::ds,h=>by simp only[uJ,Bool.and_eq_true] at h;simp[PyData.showableKv,iQ k h.1.1,iQ d h.1.2,mG ds h.2]
end
theorem s16:(1000000:Nat)<=sizeLine:=by rw[sizeLine_eq];decide
end D
namespace D
open L2
def Asc(z:Str):Prop:=∀ c∈z.cps.toList,c<128
theorem str_len(z:Str):z.cps.toList.length=z.length:=by simp[Str.length]
theorem acj(h:z.cps.all (·<128)=true):Asc z:=by
 intro c hc;have:=Array.all_eq_true_iff_forall_mem.mp h c (by simpa using hc)
 simpa using this
theorem few(h:n<=1000):n<=sizeLine:=by have:=s16;omega
theorem Inv.swap(I:Inv X pins σ H s)(h:H a=some u)(n1:∀ xs,u ≠ .tup xs)(n2:∀ x,u ≠ .own x)(b1:∀ xs,X.H₀ a≠some (.tup xs))(b2:∀ o v,X.H₀ a≠some (.frz o v))(b3:∀ ps,X.H₀ a≠some (.tbl ps))
  (new:cV X.prog X.w (upd H a u') s.heap a u'):Inv X pins σ (upd H a u') s:=by
 have nn:∀ b,H b=none->b≠a:=λ b e z=>by rw[z,h] at e;cases e
 refine⟨I.ok,I.os,I.bare,⟨I.base.keep,I.base.slot,λ b ob q n x=>?_,I.base.there,λ b xs q=>?_,λ b ob v q=>?_,λ b ps q=>?_⟩,I.loc,I.cell,?_,λ x c q=>?_,λ p hp=>?_,λ b v q=>?_,I.len⟩
 ·have:=I.base.free b ob q n x;rw[ao (nn b this)];exact this
 ·rw[ao (λ z:b=a=>b1 xs (by rw[<- z];exact q))];exact I.base.mS b xs q
 ·rw[ao (λ z:b=a=>b2 ob v (by rw[<- z];exact q))];exact I.base.frzs b ob v q
 ·rw[ao (λ z:b=a=>b3 ps (by rw[<- z];exact q))];exact I.base.tbls b ps q
 ·rw[ao (nn _ I.free)];exact I.free
 ·have:=I.freeC x c q;rw[ao (nn c this)];exact this
 ·obtain⟨p1,p2,p3⟩:=I.pin p hp;exact⟨p1,by rw[ao (nn _ p2)];exact p2,p3⟩
 ·by_cases hb:b=a
  ·subst hb;rw[ar] at q;cases q;exact new
  ·rw[ao hb] at q;refine(I.hok b v q).oO (λ _ _ _ q=>q) (λ c r=>?_) λ c xs r=>?_
   ·rw[ao (λ z=>by rw[z,h] at r;exact n2 _ (Option.some.inj r))];exact r
   ·rw[ao (λ z=>by rw[z,h] at r;exact n1 _ (Option.some.inj r))];exact r
theorem jD(I:Inv X pins σ H s)(h:H a=some (.dK l)):(∀ xs,X.H₀ a≠some (.tup xs))/\(∀ o v,X.H₀ a≠some (.frz o v))/\∀ ps,X.H₀ a≠some (.tbl ps):=by
 refine⟨λ xs e=>?_,λ o v e=>?_,λ ps e=>?_⟩
 ·have:=I.base.mS a xs e;rw[h] at this;cases this
 ·have:=I.base.frzs a o v e;rw[h] at this;cases this
 ·obtain⟨m,this⟩:=I.base.tbls a ps e;rw[h] at this;cases this
theorem Inv.ag5(I:Inv X pins σ H s)(h:H a=some (.dK l)):∃ o,Inv X pins σ (upd H a (.frz o (.frz o (.dK l)))) s:=by have f:Fz (.dK l):=trivial;obtain⟨o,ho⟩:=(I.hok a _ h).obj f;obtain⟨b1,b2,b3⟩:=jD I h;exact⟨o,Inv.swap I h (λ _ z=>nomatch z) (λ _ z=>nomatch z) b1 b2 b3 ⟨ho,ho,(I.hok a _ h).ah0 f⟩⟩
theorem Inv.again(I0:Inv X pins σ0 H0 s0)(h0:H0 a=some (.dK l))(I:Inv X pins σ H s)(h:H a=some (.frz o (.frz o (.dK l)))):Inv X pins σ (upd H a (.dK l)) s:=by have f:Fz (.dK l):=trivial;obtain⟨b1,b2,b3⟩:=jD I0 h0;exact Inv.swap I h (λ _ z=>nomatch z) (λ _ z=>nomatch z) b1 b2 b3 ((I.hok a _ h).2.2.ah0 f)
def aeU(t:TE):TE:=λ σ H Q=>∃ a l,H a=some (.dK l)/\∀ o,t σ (upd H a (.frz o (.frz o (.dK l)))) λ v H'=>H' a=some (.frz o (.frz o (.dK l)))/\Q v (upd H' a (.dK l))
theorem zR(h:PE X e t):PE X e (aeU t):=by intro pins s σ H Q I ⟨a,l,ha,q⟩;obtain⟨o,I1⟩:=Inv.ag5 I ha;exact thn (h pins s σ _ _ I1 (q o)) λ v s1 ⟨x,H',I2,r,e,q2⟩=>⟨x,_,Inv.again I ha I2 e,r,q2⟩
section
variable {K:FG}{H:Hp}{a:Addr}{o:Obj}{l:List (Key×V)}
theorem Kp.back(h:H a=some (.frz o (.frz o (.dK l)))):(∀ b xs,H b=some (.tup xs)->upd H a (.dK l) b=some (.tup xs))/\(∀ b ob ys,H b=some (.frz ob (.lst ys))->upd H a (.dK l) b=some (.frz ob (.lst ys)))/\∀ b ob ys,H b=some (.frz ob (.dK ys))->upd H a (.dK l) b=some (.frz ob (.dK ys)):=by
 refine⟨λ b xs e=>?_,λ b ob ys e=>?_,λ b ob ys e=>?_⟩<;>
 ·rw[ao (λ z=>by rw[z,h] at e;cases e)];exact e
theorem SqT.back(h:H a=some (.frz o (.frz o (.dK l))))(r:SqT K H b vs):SqT K (upd H a (.dK l)) b vs:=by
 rcases r with (r | ⟨ob,r⟩) | r
 ·exact .inl (.inl ((Kp.back h).1 _ _ r))
 ·refine .inl (.inr ⟨ob,?_⟩);rw[ao (λ z=>by rw[z,h] at r;cases r)];exact r
 ·exact .inr r
theorem SqF.back(h:H a=some (.frz o (.frz o (.dK l))))(r:SqF K H b vs):SqF K (upd H a (.dK l)) b vs:=by
 rcases r with ⟨ob,r⟩ | r
 ·exact .inl ⟨ob,(Kp.back h).2.1 _ _ _ r⟩
 ·exact .inr r
mutual
theorem aG.back(h:H a=some (.frz o (.frz o (.dK l)))):∀ {d:PyData} {v:V},aG K H d v->aG K (upd H a (.dK l)) d v
 | .none,v,r=>by simp only[aG] at r ⊢;exact r
 | .bool b,v,r=>by simp only[aG] at r ⊢;exact r
 | .int i,v,r=>by simp only[aG] at r ⊢;exact r
 | .str x,v,r=>by simp only[aG] at r ⊢;exact r
 | .list ds,v,r=>by simp only[aG] at r ⊢;obtain⟨b,vs,e,q,r⟩:=r;exact⟨b,vs,e,SqF.back h q,bt.back h r⟩
 | .tuple ds,v,r=>by simp only[aG] at r ⊢;obtain⟨b,vs,e,q,r⟩:=r;exact⟨b,vs,e,SqT.back h q,bt.back h r⟩
 | .dict kvs,v,r=>by simp only[aG] at r ⊢;obtain⟨b,ob,m,e,q,r⟩:=r;exact⟨b,ob,m,e,(Kp.back h).2.2 _ _ _ q,lp.back h r⟩
theorem bt.back(h:H a=some (.frz o (.frz o (.dK l)))):∀ {ds:List PyData} {vs:List V},bt K H ds vs->bt K (upd H a (.dK l)) ds vs
 | [],vs,r=>by simp only[bt] at r ⊢;exact r
 | d::ds,vs,r=>by simp only[bt] at r ⊢;obtain⟨v,q,e,h1,h2⟩:=r;exact⟨v,q,e,aG.back h h1,bt.back h h2⟩
theorem lp.back(h:H a=some (.frz o (.frz o (.dK l)))):∀ {ds:List (PyData×PyData)} {m:List (Key×V)},lp K H ds m->lp K (upd H a (.dK l)) ds m
 | [],m,r=>by simp only[lp] at r ⊢;exact r
 | (key,d)::ds,m,r=>by simp only[lp] at r ⊢;obtain⟨k',v,q,e,ek,h1,h2⟩:=r;exact⟨k',v,q,e,ek,aG.back h h1,lp.back h h2⟩
end
theorem aO.back(h:H a=some (.frz o (.frz o (.dK l)))):∀ {w:W} {v:V},aO K H w v->aO K (upd H a (.dK l)) w v
 | .d _,_,r=>aG.back h r
 | .m _,_,r=>r
 | .t _,_,r=>r
theorem cX.back(h:H a=some (.frz o (.frz o (.dK l))))(m:cX K H M)(e:M a=some (.fdic kvs)):cX K (upd H a (.dK l)) (bY M a (.dic kvs)):=λ b mo q=>by
 by_cases hb:b=a
 ·subst hb;rw[ak] at q;cases q;obtain⟨o',l',e',pr⟩:=m _ _ e;rw[h] at e';cases e';exact⟨l,ar,Paired.jL pr λ p q z=>⟨z.1,aO.back h z.2⟩⟩
 ·rw[aF hb] at q;have r:=m b mo q;cases mo with
  | lst ws=>obtain⟨vs,e,r⟩:=r;exact⟨vs,by rw[ao hb];exact e,Paired.jL r λ _ _ z=>aO.back h z⟩
  | dic kvs=>obtain⟨l,e,r⟩:=r;exact⟨l,by rw[ao hb];exact e,Paired.jL r λ p q z=>⟨z.1,aO.back h z.2⟩⟩
  | dct kvs=>obtain⟨l,e,r⟩:=r;exact⟨l,by rw[ao hb];exact e,Paired.jL r λ p q z=>⟨z.1,aO.back h z.2⟩⟩
  | fdic kvs=>obtain⟨o,l,e,r⟩:=r;exact⟨o,l,by rw[ao hb];exact e,Paired.jL r λ p q z=>⟨z.1,aO.back h z.2⟩⟩
  | ins C fs=>obtain⟨dx,l,e,r⟩:=r;exact⟨dx,l,by rw[ao hb];exact e,Paired.jL r λ p q z=>⟨z.1,aO.back h z.2⟩⟩
  | tup ws=>obtain⟨vs,e,r⟩:=r;exact⟨vs,by rw[ao hb];exact e,Paired.jL r λ _ _ z=>aO.back h z⟩
  | flst ws=>obtain⟨o,vs,e,r⟩:=r;exact⟨o,vs,by rw[ao hb];exact e,Paired.jL r λ _ _ z=>aO.back h z⟩
  | exc C fs =>
   obtain⟨φ,dct,e,p,r⟩:=r;refine⟨φ,dct,by rw[ao hb];exact e,p,?_⟩;rcases r with r | ⟨dx,o',l',e1,e2,r⟩
   ·exact .inl r
   ·exact .inr ⟨dx,o',l',e1,by rw[ao (λ z=>by rw[z,h] at e2;cases e2)];exact e2,Paired.jL r λ p q z=>⟨z.1,aO.back h z.2⟩⟩
  | code q pos =>
   obtain⟨ps,e,ht,hc⟩:=r;refine⟨ps,by rw[ao hb];exact e,ht,?_⟩;rcases hc with hc | ⟨c,o',vs,t,e1,e2,e3⟩
   ·exact .inl hc
   ·exact .inr ⟨c,o',vs,t,e1,by rw[ao (λ z=>by rw[z,h] at e2;cases e2)];exact e2,e3⟩
end
def xJ(t:TD)(τ:DS)(M:MH)(Q:QD):Prop:=∃ a kvs,M a=some (.dic kvs)/\t τ (bY M a (.fdic kvs)) λ v M'=>M' a=some (.fdic kvs)/\Q v (bY M' a (.dic kvs))
theorem zU(h:PD X e t):PD X e (xJ t):=iA (zR h) λ σ H Q hq66=>by
 obtain⟨τ,M,Qd,A,⟨a,kvs,hm,q⟩,k⟩:=hq66;obtain⟨l,e,pr⟩:=A.mem _ _ hm;refine⟨a,l,e,λ o=>?_⟩;have kp:Kp H (upd H a (.frz o (.frz o (.dK l)))):=Kp.set e (λ _ z=>nomatch z) (λ _ _ z=>nomatch z);have m1:cX X.K (upd H a (.frz o (.frz o (.dK l)))) (bY M a (.fdic kvs)):=A.mem.put (mo:=.fdic kvs) kp ⟨o,l,ar,Paired.jL pr λ p q z=>⟨z.1,z.2.keep kp⟩⟩;refine⟨τ,_,_,A.go kp m1,q,λ v H' w M' kp' r' m' hq67=>?_⟩;obtain⟨h1,q1⟩:=hq67;have e':=kp'.frz a o _ ar;refine⟨e',k _ _ w _ ⟨λ b xs z=>?_,λ b ob u z=>?_⟩ (aO.back e' r') (cX.back e' m' h1) q1⟩
 ·have hb:b≠a:=λ y=>by rw[y,e] at z;cases z
  rw[ao hb];exact kp'.tup b xs (by rw[ao hb];exact z)
 ·have hb:b≠a:=λ y=>by rw[y,e] at z;cases z
  rw[ao hb];exact kp'.frz b ob u (by rw[ao hb];exact z)
end D
namespace D
open L2
theorem Inv.xg{D:Addr}{ys:List V}{us:List Value}{n:Nat}(I:Inv X pins σ H s)(e:s.heap.get? D=some {cls:=.type "tuple",data:=.seq us.toArray n})(hn:H D=none)(hv:Vals ys us)(hz:ys.length<=sizeLine)
  (h0:D∈X.ex\/X.s₀.heap.objs.size<=D)(hL:D≠X.env.locals)(hc:∀ x c,X.env.cells.lookup x=some c->c≠D)(hp:∀ p∈X.pn++pins,p.1≠D):Inv X pins σ (upd H D (.tup ys)) s:=by
 have ne:∀ b u,H b=some u->b≠D:=λ b u q=>aV q hn;refine I.step (h':=s.heap) (g':=s.gens) (d':=s.drawn) (t':=s.toks) (ch:=[D]) (λ b hb=>?_) (λ b o _ _ _ q _=>q) (λ b o _ _ _ q _=>⟨o.slots,q⟩) (λ b o hb q n=>?_) (λ b o _ q=>⟨o,q⟩)
  (λ b xs q=>by rw[ao (ne b _ q)];exact q) (λ b o u q=>by rw[ao (ne b _ q)];exact q) (λ b ps q=>⟨#[],by rw[ao (ne b _ q),q];simp⟩) (λ m hm=>hm) (λ b u q=>?_) I.bare
 ·have e:b=D:=by simpa using hb
  subst e;exact⟨h0,hL,hc,hp⟩
 ·rw[ao (λ z=>hb (by simp[z]))];exact n
 ·by_cases hb:b=D
  ·subst hb;rw[ar] at q;cases q;exact⟨hz,us,hv,⟨_,e,rfl,rfl,n,rfl⟩⟩
  ·rw[ao hb] at q;exact(I.hok b u q).oO (λ _ _ _ q=>q) (λ c r=>by rw[ao (ne c _ r)];exact r) λ c xs r=>by rw[ao (ne c _ r)];exact r
abbrev kQ(o:Obj)(l:List (Key×V)):HO:=.frz o (.frz o (.dK l))
theorem fO{P:Program}{w:World}{H:Hp}{h:Heap}{a:Addr}{o:Obj}{l:List (Key×V)}(ok:HOk P w H h)(e:H a=some (kQ o l)):(a==sysModules)=false/\∃ vs es ep,KV l vs/\o.data=.dict es ep/\h.DictAt (bu P w) a vs ep:=by obtain⟨ho,_,z,hd,vs,rel,o',es,ep,h1,h2,h3,h4⟩:=ok a _ e;rw[ho] at h1;cases h1;exact⟨hd,vs,es,ep,rel,h3,o,es,ho,h2,h3,h4⟩
def Itd(a:Addr)(o:Obj)(l:List (Key×V)):It:=
 ⟨λ i H=>H a=some (kQ o l)/\i<l.length,λ i H x H'=>∃ T kv,l[i]? =some kv/\H T=none/\x=.ref T/\H'=upd H T (.tup [kV kv.1,kv.2]),λ i H=>H a=some (kQ o l)/\l.length<=i⟩
def Itk(a:Addr)(o:Obj)(l:List (Key×V)):It:=
 ⟨λ i H=>H a=some (kQ o l)/\i<l.length,λ i H x H'=>H'=H/\∃ kv,l[i]? =some kv/\x=kV kv.1,λ i H=>H a=some (kQ o l)/\l.length<=i⟩
theorem afd{κ:Type}[DecidableEq κ]{l:List (κ×V)}{vs:List (κ×Value)}(r:KV l vs){i:Nat}(h:i<l.length):∃ kv k v,l[i]? =some kv/\vs[i]? =some (k,v)/\kv.1=k/\RelV kv.2 v:=by
 unfold KV at r
 induction r generalizing i with
 | nil=>simp at h
 | @cons p q ps qs hp t ih =>
  cases i with
  | zero=>exact⟨p,q.1,q.2,rfl,rfl,hp.1,hp.2⟩
  | succ i =>
   obtain⟨kv,k,v,e1,e2,e3,e4⟩:=ih (i:=i) (by simpa using h);exact⟨kv,k,v,by simpa using e1,by simpa using e2,e3,e4⟩
theorem abn{P:Program}{w:World}{k:Key}{u:Value}(h:(bu P w).is k u=true):RelV (kV k) u:=by
 cases k with
 | inl i =>
  have h':Value.isInt i u=true:=h;unfold Value.isInt at h'
  split at h'
  ·rename_i j t
   have:j=i:=by simpa using h'
   subst this;exact⟨t,rfl⟩
  ·cases h'
 | inr x =>
  have h':Value.isStrOf x u=true:=h;unfold Value.isStrOf at h'
  split at h'
  ·rename_i j t
   have:j=x:=by simpa using h'
   subst this;exact⟨t,rfl⟩
  ·cases h'
theorem sT{P:Program}{w:World}{K:FG}{elts:List Expr}{x1:Nat}{tpos:Pos}(a it:Addr)(o:Obj)(l:List (Key×V))(es:Array DictEntry)(ep:Nat)(ho:o.data=.dict es ep) :
  Turn P w K (.Tuple elts x1 tpos) (Itd a o l) [it] it (λ i h=>∃ ok ov,IsItemIter h it a i l.length ep ok ov) where
 mem:=by simp
 obj:=λ i h st b hb=>by
  have e:b=it:=by simpa using hb
  subst e;obtain⟨ok,ov,st⟩:=st;exact⟨_,st,λ v z=>by cases z⟩
 keep:=λ i h h' ⟨ok,ov,st⟩ k=>⟨ok,ov,k it (by simp) _ st⟩
 item:=by
  intro X hP hw hK hc i pins s σ H E I hf ⟨ok,ov,st⟩ ⟨hg,hi⟩;subst hP hw hK;obtain⟨f0,f1,f2,f3,f4,f5⟩:=hf it (by simp);obtain⟨hd,vs,es',ep',rel,ho',da⟩:=fO I.hok hg;rw[ho] at ho';cases ho';obtain⟨kv,k,v,e1,e2,e3,e4⟩:=afd rel hi;have hl:l.length=vs.length:=rel.length;rw[hl] at st;refine wpAny_pyNext_items_item st da e2 λ key h' hk st' ht hsz kp=>?_;refine⟨_,rfl,wpAny_letOwnedTupleGo_items st' λ h'' st'' sb=>?_⟩;have T:=I.oz (Nat.le_refl _) (I.hok.fresh (Nat.le_refl _));obtain⟨t0,t1,t2,t3,t4,t5⟩:=T;have hit:it<s.heap.objs.size:=Heap.lt_size st;have nT:s.heap.objs.size≠it:=Nat.ne_of_gt hit;have I1:Inv X pins σ H {s with heap:=h''}:=I.turned (t':=s.toks) (λ b ob hb e=>(sb.2 b hb).trans (kp b ob hb e)) f0 f1 f3 f4 f5;have eT:h''.get? s.heap.objs.size=some {cls:=.type "tuple",data:=.seq #[key,v]}:=(sb.2 _ nT).trans ht;have I2:=Inv.xg (us:=[key,v]) (ys:=[kV kv.1,kv.2]) I1 eT t0 (.cons (by rw[e3];exact abn hk) (.cons e4 .nil)) (by simp;have:=s16;omega) t3 t1 t4 t5;refine⟨.ref s.heap.objs.size,_,I2,rfl,⟨_,kv,e1,t0,rfl,rfl⟩,⟨_,_,by rw[hl];exact st''⟩,λ b hb=>?_⟩;have e:b=it:=by simpa using hb
  subst e;rw[ao nT.symm];exact f0
 done:=by intro X hP hw hK hc i pins s σ H E I hf ⟨ok,ov,st⟩ ⟨hg,hi⟩;subst hP hw hK;obtain⟨f0,f1,f2,f3,f4,f5⟩:=hf it (by simp);obtain⟨hd,vs,es',ep',rel,ho',da⟩:=fO I.hok hg;rw[ho] at ho';cases ho';have hl:l.length=vs.length:=rel.length;rw[hl] at st hi;exact wpAny_pyNext_items_end (I.ok.hd hc) st da (List.getElem?_eq_none hi) λ h' eb=>⟨rfl,I.turned (t':=s.toks) (λ b o hb e=>eb b o hb e) f0 f1 f3 f4 f5⟩
 self:=λ _ _ _ _ _ ⟨ok,ov,st⟩ h=>W.kcp_self st h
theorem uW{P:Program}{w:World}{K:FG}{tg:Expr}(a it:Addr)(o:Obj)(l:List (Key×V))(es:Array DictEntry)(ep:Nat)(ho:o.data=.dict es ep) :
  Turn P w K tg (Itk a o l) [it] it (λ i h=>h.IsKeyIter it a i l.length ep) where
 mem:=by simp
 obj:=λ i h st b hb=>by
  have e:b=it:=by simpa using hb
  subst e;obtain⟨o,e,c,d⟩:=st;exact⟨o,e,λ v z=>by rw[d] at z;cases z⟩
 keep:=λ i h h' ⟨o,e,c,d⟩ k=>⟨o,k it (by simp) _ e,c,d⟩
 item:=by intro X hP hw hK hc i pins s σ H E I hf st ⟨hg,hi⟩;subst hP hw hK;obtain⟨f0,f1,f2,f3,f4,f5⟩:=hf it (by simp);obtain⟨hd,vs,es',ep',rel,ho',da⟩:=fO I.hok hg;rw[ho] at ho';cases ho';obtain⟨kv,k,v,e1,e2,e3,e4⟩:=afd rel hi;have hl:l.length=vs.length:=rel.length;rw[hl] at st;refine wpAny_pyNext_dict_item st da e2 λ key h' hk st' sb=>?_;have I1:Inv X pins σ H {s with heap:=h'}:=I.turned (t':=s.toks) (λ b o hb e=>(sb.2 b hb).trans e) f0 f1 f3 f4 f5;obtain⟨ob,e,c,d⟩:=id st';exact⟨_,rfl,uM (s:={s with heap:=h'}) e c d (by decide) ⟨kV kv.1,H,I1,by rw[e3];exact abn hk,⟨rfl,kv,e1,rfl⟩,by rw[hl];exact st',λ b hb=>(hf b hb).1⟩⟩
 done:=by intro X hP hw hK hc i pins s σ H E I hf st ⟨hg,hi⟩;subst hP hw hK;obtain⟨f0,f1,f2,f3,f4,f5⟩:=hf it (by simp);obtain⟨hd,vs,es',ep',rel,ho',da⟩:=fO I.hok hg;rw[ho] at ho';cases ho';have hl:l.length=vs.length:=rel.length;rw[hl] at st hi;exact wpAny_pyNext_dict_end (I.ok.hd hc) st da (List.getElem?_eq_none hi) λ h' eb=>⟨rfl,I.turned (t':=s.toks) (λ b o hb e=>eb b o hb e) f0 f1 f3 f4 f5⟩
 self:=λ _ _ _ _ _ st h=>wpAny_pyIter_keyiter st h
def acp(td:TE):TI:=λ σ H R=>td σ H λ x H1=>∃ a o l,x=.ref a/\H1 a=some (kQ o l)/\R (Itd a o l) H1
theorem we{elts:List Expr}{x1:Nat}{tpos:Pos}(ho:PE X o td)(hbase:attributeBase o "items" X.env (eval o X.env)=eval o X.env:=by rfl)(hline:(apos.endLine==cpos.line)=true:=by rfl) :
  PI X (.Tuple elts x1 tpos) (.Call (.Attribute o "items" apos) [] [] cpos) (acp td):=by
 intro pins s σ H R I h;refine wpAny_Call_method0_late hbase hline (thn (ho pins s σ H _ I h) λ v s1 hq68=>?_);obtain⟨x,H1,I1,r1,a,ob,l,ex,hg,q⟩:=hq68;subst ex;cases r1;obtain⟨hd,vs,es,ep,rel,hdat,da⟩:=fO I1.hok hg;have dd:s1.heap.DictOf (bu X.prog X.w) a vs:=let ⟨o,es,h⟩:=da; ⟨o,es,ep,h⟩;have hnd:∀ b,Value.ref a=.ref b->∃ ob,s1.heap.get? b=some ob/\ob.dict=none:=λ b e=>by
  cases e;obtain⟨oo,es',h1,h2,_⟩:=da;exact⟨oo,h1,h2.2.1⟩
 refine⟨"dict", "dict.items",PySem.F.plainAttrs_dict,PySem.F.slot_dict_items,PySem.F.type_dict_items,dd.typeIs,hnd,Calls.callWith_builtin rfl (PySem.evalArgs_none ?_)⟩;refine call_meetsIn PySem.F.slot_dict_items dd.typeIs PySem.F.entry_dict_items (PySem.F.args_dict_items_1 _) (meets_dict_items (bu X.prog X.w) a hd) ⟨⟨vs,dd⟩,?_⟩;have I2:Inv X pins σ H1 {s1 with heap:=s1.heap.push {cls:=.type "dict_items",data:=.fields #[.ref a]}}:=I1.kept (t':=s1.toks) λ b o e=>Heap.get?_push_of_some _ e;obtain⟨_,vs2,es2,ep2,rel2,hdat2,da2⟩:=fO I2.hok hg;rw[hdat] at hdat2;cases hdat2;refine wpAny_pyIter_items ⟨_,Heap.get?_push_size _ rfl,rfl,rfl⟩ da2 ?_;refine⟨_,[_],_,_,H1,rfl,I2.kept (t':=s1.toks) λ b o e=>Heap.get?_push_of_some _ e,sT a _ ob l es ep hdat,⟨.none,.none,?_⟩,λ b hb=>?_,q⟩
 ·have:=Heap.get?_push_size (s1.heap.push {cls:=.type "dict_items",data:=.fields #[.ref a]}) (o:={cls:=.type "dict_itemiterator",data:=.fields #[.none,.bool false,.ref a,.int 0 0,.int (vs2.length:Nat) 0,.int (ep:Nat) 0,.none,.none]}) rfl;rw[rel2.length];exact this
 ·rw[List.mem_singleton] at hb;rw[hb];exact I2.oz (Nat.le_refl _) (I2.hok.fresh (Nat.le_refl _))
def agb(td:TE):TI:=λ σ H R=>td σ H λ x H1=>∃ a o l,x=.ref a/\H1 a=some (kQ o l)/\R (Itk a o l) H1
theorem zr(ho:PE X o td):PI X tg o (agb td):=by
 intro pins s σ H R I h;refine thn (ho pins s σ H _ I h) λ v s1 hq69=>?_;obtain⟨x,H1,I1,r1,a,ob,l,ex,hg,q⟩:=hq69;subst ex;cases r1;obtain⟨hd,vs,es,ep,rel,hdat,da⟩:=fO I1.hok hg;refine wpAny_pyIter_dict hd da ?_;refine⟨_,[_],_,_,H1,rfl,I1.kept (t':=s1.toks) λ b o e=>Heap.get?_push_of_some _ e,uW a _ ob l es ep hdat,⟨_,Heap.get?_push_size _ rfl,rfl,?_⟩,λ b hb=>?_,q⟩
 ·rw[rel.length];rfl
 ·rw[List.mem_singleton] at hb;rw[hb];exact I1.oz (Nat.le_refl _) (I1.hok.fresh (Nat.le_refl _))
section
variable {X:Cx}{K:FG}{tg o:Expr}{apos cpos:Pos}{td:TD}
def qf(kds:List (Key×PyData)):List W:=kds.map λ p=>.d (.tuple [rg p.1,p.2])
def gn(kds:List (Key×PyData)):List W:=kds.map λ p=>kW p.1
def bA(kds:List (Key×PyData)):List (Key×W):=kds.map λ p=>(p.1,.d p.2)
theorem wK{H:Hp}:∀ {kds:List (Key×PyData)} {l:List (Key×V)},Paired (λ(p:Key×W) (q:Key×V)=>p.1=q.1/\aO K H p.2 q.2) (bA kds) l->l.length=kds.length/\∀ (i:Nat) kv,l[i]? =some kv->∃ p,kds[i]? =some p/\p.1=kv.1/\aG K H p.2 kv.2
 | [],l,h=>by
  cases h;exact⟨rfl,λ i kv e=>by simp at e⟩
 | p::kds,l,h=>by
  cases h with
  | cons r t =>
   obtain⟨h1,h2⟩:=wK t;refine⟨by simp[h1],λ i kv e=>?_⟩;cases i with
   | zero =>
    simp at e;subst e;exact⟨p,rfl,r.1,r.2⟩
   | succ i =>
    obtain⟨p',e1,e2⟩:=h2 i kv (by simpa using e);exact⟨p',by simpa using e1,e2⟩
def rJ(td:TD)(τ:DS)(M:MH)(R:List W->MH->Prop):Prop:=td τ M λ w M1=>∃ a kds,w=.m a/\M1 a=some (.fdic (bA kds))/\R (qf kds) M1
theorem uB{elts:List Expr}{x1:Nat}{tpos:Pos}(ho:PD X o td)(hbase:attributeBase o "items" X.env (eval o X.env)=eval o X.env:=by rfl)(hline:(apos.endLine==cpos.line)=true:=by rfl) :
  PId X (.Tuple elts x1 tpos) (.Call (.Attribute o "items" apos) [] [] cpos) (rJ td):=acX (we ho hbase hline) λ σ H R hq70=>by
 obtain⟨τ,M,Rd,A,h,k⟩:=hq70;refine⟨τ,M,_,A,h,λ v H1 w M1 kp r m hq71=>?_⟩;obtain⟨a,kds,ew,hm,q⟩:=hq71;subst ew;obtain⟨ob,l,e,pr⟩:=m _ _ hm;obtain⟨hlen,hget⟩:=wK pr;refine⟨a,ob,l,r,e,k _ H1 _ M1 kp m (λ H2 kp2 i=>?_) q⟩;have hlw:(qf kds).length=l.length:=by rw[hlen];simp[qf]
 have e2:=kp2.frz a ob _ e;refine⟨λ hi=>⟨e2,by omega⟩,λ hi=>⟨e2,by omega⟩,λ x H' hi hq72=>?_⟩;obtain⟨T,kv,hkv,hT,ex,eH⟩:=hq72;subst ex eH;obtain⟨p,e3,e4,e5⟩:=hget i kv hkv;have kpn:Kp H2 (upd H2 T (.tup [kV kv.1,kv.2])):=Kp.new hT;refine⟨kpn,λ M m=>m.new hT,.d (.tuple [rg p.1,p.2]),by simp[qf,e3],?_⟩;simp only[aO,aG,bt];refine⟨T,_,rfl,.inl (.inl ar),_,_,rfl,?_,_,_,rfl,(e5.keep kp2).keep kpn,rfl⟩;rw[e4];cases kv.1<;>simp[rg,kV,aG]
def yj(td:TD)(τ:DS)(M:MH)(R:List W->MH->Prop):Prop:=td τ M λ w M1=>∃ a kds,w=.m a/\M1 a=some (.fdic (bA kds))/\R (gn kds) M1
theorem ye(ho:PD X o td):PId X tg o (yj td):=acX (zr ho) λ σ H R hq73=>by
 obtain⟨τ,M,Rd,A,h,k⟩:=hq73;refine⟨τ,M,_,A,h,λ v H1 w M1 kp r m hq74=>?_⟩;obtain⟨a,kds,ew,hm,q⟩:=hq74;subst ew;obtain⟨ob,l,e,pr⟩:=m _ _ hm;obtain⟨hlen,hget⟩:=wK pr;refine⟨a,ob,l,r,e,k _ H1 _ M1 kp m (λ H2 kp2 i=>?_) q⟩;have hlw:(gn kds).length=l.length:=by rw[hlen];simp[gn]
 have e2:=kp2.frz a ob _ e;refine⟨λ hi=>⟨e2,by omega⟩,λ hi=>⟨e2,by omega⟩,λ x H' hi hq75=>?_⟩;obtain⟨eH,kv,hkv,ex⟩:=hq75;subst ex eH;obtain⟨p,e3,e4,e5⟩:=hget i kv hkv;refine⟨Kp.refl _,λ M m=>m,kW p.1,by simp[gn,e3],?_⟩;rw[e4];cases kv.1<;>simp[kW,rg,kV,aO,aG]
end
theorem qw:∀ {zs:List Str} {its:List Value},Vals (zs.map V.str) its->StrsAre its zs
 | [],its,h=>by cases h;exact .nil
 | z::zs,its,h=>by
  cases h with
  | cons r t =>
   obtain⟨tk,e⟩:=(show ∃ t,_=Value.str z t from r);subst e;exact .cons z tk (qw t)
theorem k6:∀ {zs:List Str} {its:List Value},StrsAre its zs->Vals (zs.map V.str) its
 | _,_,.nil=>.nil
 | _,_,.cons y t h=>.cons ⟨t,rfl⟩ (k6 h)
theorem iN:bootBuiltins "sorted" = some (.builtin "sorted"):=by decide +kernel
section
variable {X:Cx}{K:FG}
theorem pX:eI X (.builtin "sorted") (λ xs H Q=>∃ p zs,xs=[.ref p]/\SqL X.K H p (zs.map V.str)/\zs.length<64/\∀ zs',zs'.Perm zs->sortedS zs'=true->∀ l,H l=none->Q (.ref l) (upd H l (.lst (zs'.map V.str)))):=by
 intro pins s σ H xs us Q I r h;obtain⟨p,zs,rfl,hq,hz,q⟩:=h;obtain⟨u,rfl,rx⟩:=vals1 r;cases rx;obtain⟨its,rv,pl,_⟩:=I.list hq;have hl:=rv.length;rw[List.length_map] at hl;refine sorted_strs pl.isList (qw rv) (by omega) λ out zs' hs hp hso=>?_;obtain⟨n,e⟩:=sortedAll_at s.heap its out;have hfr:H (s.heap.objs.size+1)=none:=I.hok.fresh (Nat.le_succ _);refine⟨.ref _,_,I.laid (a:=s.heap.objs.size+1) (o:=.lst (zs'.map V.str)) (t':=s.toks) (λ b o z=>sortedAll_old z) (Nat.le_succ _) ⟨?_,out.toList,n,k6 hs,?_⟩,rfl,q zs' hp hso _ hfr⟩
 ·rw[List.length_map,hp.length_eq];have:=s16;omega
 ·simpa using e
def xC(ws:List W)(M:MH)(Q:QD):Prop:=∃ w zs,ws=[w]/\zm M w (zs.map PyData.str)/\zs.length<64/\∀ zs',zs'.Perm zs->sortedS zs'=true->∀ p,M p=none->Q (.m p) (bY M p (.lst (gQ zs')))
theorem qb{H:Hp}:∀ {zs:List Str} {vs:List V},bt K H (zs.map PyData.str) vs->vs=zs.map V.str
 | [],vs,h=>by simpa [bt] using h
 | z::zs,vs,h=>by simp only[List.map_cons,bt] at h;obtain⟨v,r,e,h1,h2⟩:=h;simp only[aG] at h1;rw[e,h1,qb h2];rfl
theorem kX{H:Hp}:∀ (zs:List Str),bB K H (gQ zs) (zs.map V.str)
 | []=>.nil
 | z::zs=>.cons (by simp[aO,aG]) (kX zs)
theorem aaw:fH K (λ xs H Q=>∃ p zs,xs=[.ref p]/\SqL K H p (zs.map V.str)/\zs.length<64/\∀ zs',zs'.Perm zs->sortedS zs'=true->∀ l,H l=none->Q (.ref l) (upd H l (.lst (zs'.map V.str)))) xC:=by intro vs H ws M Qd Q r m ⟨w,zs,e,g,hz,q⟩ k;subst e;obtain⟨v,e1,r1⟩:=eU r;obtain⟨p,ys,ev,hs,ra⟩:=g.sound r1 m;have ey:=qb ra;subst ev ey;refine⟨p,zs,e1,hs,hz,λ zs' h1 h2 l hl=>?_⟩;have kp:Kp H (upd H l (.lst (zs'.map V.str))):=Kp.new hl;exact k _ _ (.m l) _ kp rfl (m.put (mo:=.lst (gQ zs')) kp ⟨_,ar,kX zs'⟩) (q zs' h1 h2 l (m.free hl))
end
section
variable {X:Cx}{K:FG}
theorem bW:eI X (.builtin "isinstance") (λ xs H Q=>∃ x d T,xs=[x,.ty T]/\lY X.K H d x/\Ty6 T/\Q (.bl (lX d T)) H):=by
 intro pins s σ H xs us Q I r h;obtain⟨x,d,T,rfl,rd,h6,q⟩:=h;rcases rd with rd | ⟨a,vs,ds,rfl,rfl,ha,ra⟩
 ·exact yz pins s σ H _ us Q I r ⟨x,d,T,rfl,rd,h6,q⟩
 obtain⟨u,w',rfl,rx,ry⟩:=vals2 r;cases (show w'=Value.type T from ry);have e:=yi (K:=X.K) (.list ds) h6;have fin:∀ tk,EP X pins σ Q (.bool (lX (.list ds) T)) {s with toks:=tk}:=λ tk=>⟨.bl _,H,I.tok _,rfl,q⟩;generalize lX (.list ds) T=b at e fin;cases (show u=Value.ref a from rx);obtain⟨its,rv,⟨o,n,e1,e2,e3,e4⟩,hz⟩:=I.list (.inl (.inl ha));exact W.kia_one W.kitx_list I.kIn ⟨_,e1,e2⟩ e (λ z=>nomatch z) fin
def d4(ws:List W)(M:MH)(Q:QD):Prop:=∃ w d T,ws=[w,.t T]/\vG M w d/\Ty6 T/\Q (.d (.bool (lX d T))) M
theorem dn:fH K (λ xs H Q=>∃ x d T,xs=[x,.ty T]/\lY K H d x/\Ty6 T/\Q (.bl (lX d T)) H) d4:=by intro vs H ws M Qd Q r m ⟨w,d,T,e,g,h6,q⟩ k;subst e;obtain⟨v,v',e1,r1,r2⟩:=tS r;simp only[aO] at r2;subst r2;exact⟨v,d,T,e1,g.sound r1 m,h6,k _ H (.d (.bool _)) M (Kp.refl H) (by simp[aO,aG]) m q⟩
end
theorem vX(h:Jd (PD X e t)):Jd (PD X e (xJ t)):=⟨D.zU (h:=h.h)⟩
theorem rV(ho:Jd (PD X o td))(hbase:attributeBase o "items" X.env (eval o X.env)=eval o X.env:=by rfl)(hline:(apos.endLine==cpos.line)=true:=by rfl):Jd (PId X (.Tuple elts x1 tpos) (.Call (.Attribute o "items" apos) [] [] cpos) (rJ td)):=⟨D.uB (ho:=ho.h) (hbase:=hbase) (hline:=hline)⟩
theorem va(ho:Jd (PD X o td)):Jd (PId X tg o (yj td)):=⟨D.ye (ho:=ho.h)⟩
end D
namespace S
open PySem PySem.W PyProof.Rows
def go{α:Type}(lt:Nat->Nat->Bool):KasT α->α
 | .ret a=>a
 | .ask i j k=>go lt (k (lt i j))
abbrev g(p:Array Nat)(i:Nat):Nat:=p.getD i 0
theorem ai9(p:Array Nat)(i:Nat):g p i=(p[i]?).getD 0:=by simp[g]
def kg(N:Nat)(R:α->Prop):KasT α->Prop
 | .ret a=>R a
 | .ask i j k=>i<N/\j<N/\∀ b,kg N R (k b)
theorem kg.bind{α β:Type}{N:Nat}{R:α->Prop}{R':β->Prop}{f:α->KasT β}(hf:∀ a,R a->kg N R' (f a)):∀ {t:KasT α},kg N R t->kg N R' (t.bind f)
 | .ret a,h=>hf a h
 | .ask i j k,h=>⟨h.1,h.2.1,λ b=>kg.bind hf (h.2.2 b)⟩
theorem abQ(hc:∀ i j,i<N->j<N->∀ (C:Bool->Shared->Prop),C (lt i j) s->cmp i j C s) :
  ∀ t:KasT α,kg N R t->Q (go lt t) s->t.kasWp cmp Q s
 | .ret _,_,h=>h
 | .ask i j k,a,h=>hc i j a.1 a.2.1 _ (abQ hc (k (lt i j)) (a.2.2 _) h)
def Low(N:Nat)(p:Array Nat):Prop:=∀ i,g p i<N
theorem Low.of(hN:1<=N)(h:∀ x∈p.toList,x<N):Low N p:=λ i=>by
 rw[ai9];cases e:p[i]? with
 | none=>simp;omega
 | some x=>exact h x (by rw[Array.mem_toList_iff];exact Array.mem_of_getElem? e)
theorem Low.mem(h:Low N p):∀ x∈p.toList,x<N:=λ x hx=>by rw[Array.mem_toList_iff] at hx;obtain⟨i,hi,e⟩:=Array.mem_iff_getElem.mp hx;have:=h i;rw[ai9] at this;simp[hi] at this;omega
theorem Low.perm(hN:1<=N)(h:Low N p)(e:q.Perm p):Low N q:=.of hN λ x hx=>h.mem x ((Array.perm_iff_toList_perm.mp e).mem_iff.mp hx)
theorem Low.rev(hN:1<=N)(h:Low N p):Low N (kas_rev p i j):=h.perm hN (mirror_perm _ _ _ _)
theorem i7(h:Low N p):∀ f n,kg N (λ _=>True) (kas_asc p f n)
 | 0,_=>trivial
 | f+1,n=>⟨h _,h _,λ b=>by
  cases b with
  | true=>exact trivial
  | false=>exact i7 h f (n+1)⟩
theorem iM(hN:1<=N):∀ (f:Nat) {p:Array Nat} (n q:Nat),Low N p->kg N (λ r=>Low N r.1) (kas_desc f p n q)
 | 0,p,n,q,h=>h
 | f+1,p,n,q,h=>⟨h _,h _,λ b=>by
  cases b with
  | true =>
   simp only[if_true]
   split
   ·exact iM hN f (n+1) 0 (h.rev hN)
   ·exact iM hN f (n+1) 0 h
  | false =>
   simp only[Bool.false_eq_true,if_false];refine⟨h _,h _,λ b=>?_⟩;cases b with
   | true=>exact h
   | false=>exact iM hN f (n+1) (q+1) h⟩
theorem mI(hN:1<=N){p:Array Nat}{n m:Nat}(h:Low N p):kg N (λ(r:Nat×Array Nat)=>Low N r.2) (kas_tail3 n m p):=by
 unfold kas_tail3;refine kg.bind (λ k _=>?_) (i7 (h.rev hN) _ _);exact(h.rev hN:Low N (kas_rev p 0 n))
theorem iX(hN:1<=N){p:Array Nat}{n m:Nat}(h:Low N p):kg N (λ r=>Low N r.2) (kas_descPart n m p):=(iM hN _ _ _ h).bind λ r hr=>by
 split
 ·exact mI hN (hr.rev hN)
 ·exact mI hN hr
theorem uP(hN:1<=N){p:Array Nat}{m:Nat}(h:Low N p):kg N (λ r=>Low N r.2) (kas_count m p):=(i7 h _ _).bind λ n _=>by
 split
 ·exact h
 ·split
  ·refine⟨h _,h _,λ b=>?_⟩;cases b with
   | true=>exact h
   | false=>exact iX hN (h.rev hN)
  ·exact iX hN h
theorem gJ{p:Array Nat}{k:Nat}(h:Low N p):∀ f l r,kg N (λ _=>True) (kas_place p k f l r)
 | 0,_,_=>trivial
 | f+1,l,r=>by
  simp only[kas_place]
  split
  ·exact trivial
  ·refine⟨h _,h _,λ b=>?_⟩;cases b with
   | true=>exact gJ h f _ _
   | false=>exact gJ h f _ _
theorem tF(hN:1<=N):∀ (f:Nat) {p:Array Nat} (k:Nat),Low N p->kg N (λ _=>True) (kas_bin f p k)
 | 0,_,_,_=>trivial
 | f+1,p,k,h=>(gJ h _ _ _).bind λ l _=>tF hN f (k+1) (h.perm hN (bubble_perm _ _ _))
theorem zf(hN:1<=N):kg N (λ _=>True) (kas_sort N):=(uP hN (.of hN λ x hx=>by simpa using hx)).bind λ r hr=>by
 split
 ·exact tF hN _ _ hr
 ·exact trivial
def iO(lt:Nat->Nat->Bool)(n:Nat):List Nat:=if n<2 then List.range n else (go lt (kas_sort n)).toList
def Shape:List Bool->List PyData->Prop
 | [],[]=>True
 | true::bs,d::ds=>(∃ x,d=.str x)/\Shape bs ds
 | false::bs,d::ds=>(∃ i,d=.int i)/\Shape bs ds
 | _,_=>False
def sEq:PyData->PyData->Bool
 | .int x,.int y=>x==y
 | .str x,.str y=>x==y
 | _,_=>false
def sLt:PyData->PyData->Bool
 | .int x,.int y=>decide (x<y)
 | .str x,.str y=>decide (x.cps.toList<y.cps.toList)
 | _,_=>false
def yx:List PyData->List PyData->Bool
 | a::as,b::bs=>if sEq a b=true then yx as bs else sLt a b
 | [],_::_=>true
 | _,_=>false
def rowAt(rows:List (List PyData))(i:Nat):List PyData:=rows.getD i (rows.headD [])
def zj:List PyData->List Value->Prop:=Paired λ d u=>(∃ i t,d=.int i/\u=.int i t)\/∃ x t,d=.str x/\u=.str x t
theorem vZ:∀ {sh:List Bool} {xs ys:List PyData} {us vs:List Value} (i:Nat) (s:Shared),Shape sh xs->Shape sh ys->zj xs us->zj ys vs->Q (yx xs ys) s->KatLex prog w A true false Q (us.zip vs) i s
 | [],[],[],us,vs,i,s,_,_,h1,h2,q=>by
  cases h1;exact q
 | t::sh,a::as,b::bs,us,vs,i,s,ha,hb,h1,h2,q=>by
  cases h1 with
  | cons r1 t1 =>
   cases h2 with
   | cons r2 t2 =>
    cases t with
    | true =>
     obtain⟨⟨x,rfl⟩,sa⟩:=ha;obtain⟨⟨y,rfl⟩,sb⟩:=hb;rcases r1 with ⟨_,_,e,_⟩ | ⟨x',tx,e,e'⟩
     ·cases e
     ·cases e;subst e';rcases r2 with ⟨_,_,e,_⟩ | ⟨y',ty,e,e'⟩
      ·cases e
      ·cases e;subst e';refine kat_cons (eqBool_str ?_)
       by_cases e:x=y
       ·subst e;have:(x==x)=true:=by simp
        rw[this];refine kat_yes (vZ (i+1) s sa sb t1 t2 ?_)
        simpa [yx,sEq] using q
       ·have e1:(x==y)=false:=by simp[e]
        rw[e1];refine kat_no ?_;have q':Q (decide (x.cps.toList<y.cps.toList)) s:=by simpa [yx,sEq,e,sLt] using q
        cases hb:(true&&i==0) with
        | true=>exact oneLt_str q'
        | false=>exact kat_one _ _ (lt_str q')
    | false =>
     obtain⟨⟨x,rfl⟩,sa⟩:=ha;obtain⟨⟨y,rfl⟩,sb⟩:=hb;rcases r1 with ⟨x',tx,e,e'⟩ | ⟨_,_,e,_⟩
     ·cases e;subst e';rcases r2 with ⟨y',ty,e,e'⟩ | ⟨_,_,e,_⟩
      ·cases e;subst e';refine kat_cons (wpAny_eqBool_int ?_)
       by_cases e:x=y
       ·subst e;have:(x==x)=true:=by simp
        rw[this];refine kat_yes (vZ (i+1) s sa sb t1 t2 ?_)
        simpa [yx,sEq] using q
       ·have e1:(x==y)=false:=by simp[e]
        rw[e1];refine kat_no ?_;have q':Q (decide (x<y)) s:=by simpa [yx,sEq,e,sLt] using q
        cases hb:(true&&i==0) with
        | true=>exact oneLt_int q'
        | false=>exact kat_one _ _ (lt_int q')
      ·cases e
     ·cases e
 | [],a::as,_,_,_,_,_,h,_,_,_,_=>by cases h
 | [],[],b::bs,_,_,_,_,_,h,_,_,_=>by cases h
 | t::sh,[],_,_,_,_,_,h,_,_,_,_=>by cases t<;>cases h
 | t::sh,a::as,[],_,_,_,_,_,h,_,_,_=>by cases t<;>cases h
end S
namespace D
open L2 S
section
variable {K:FG}
theorem ni:∀ {sh:List Bool} {ds:List PyData} {vs:List V} {us:List Value},Shape sh ds->bt K H ds vs->Vals vs us->zj ds us
 | [],[],vs,us,_,h,r=>by simp only[bt] at h;subst h;cases r;exact .nil
 | t::sh,d::ds,vs,us,hs,h,r=>by
  simp only[bt] at h;obtain⟨v,rs,e,h1,h2⟩:=h;subst e;cases r with
  | cons r1 r2 =>
   cases t with
   | true =>
    obtain⟨⟨x,rfl⟩,hs⟩:=hs;simp only[aG] at h1;subst h1;obtain⟨tk,e⟩:=(show ∃ t,_=Value.str x t from r1);exact .cons (.inr ⟨x,tk,rfl,e⟩) (ni hs h2 r2)
   | false =>
    obtain⟨⟨x,rfl⟩,hs⟩:=hs;simp only[aG] at h1;subst h1;obtain⟨tk,e⟩:=(show ∃ t,_=Value.int x t from r1);exact .cons (.inl ⟨x,tk,rfl,e⟩) (ni hs h2 r2)
 | [],d::ds,_,_,h,_,_=>by cases h
 | t::sh,[],_,_,h,_,_=>by cases t<;>cases h
theorem zj.len:∀ {ds:List PyData} {us:List Value},zj ds us->us.length=ds.length:=λ h=>(Paired.length h).symm
theorem jc:∀ {sh:List Bool} {ds:List PyData},Shape sh ds->ds.length=sh.length
 | [],[],_=>rfl
 | true::sh,d::ds,h=>by simp[jc h.2]
 | false::sh,d::ds,h=>by simp[jc h.2]
 | [],_::_,h=>by cases h
 | t::sh,[],h=>by cases t<;>cases h
def jN(h:Heap)(sh:List Bool)(rows:List (List PyData))(its:List Value):Prop:=Paired (λ row u=>Shape sh row/\∃ a o us n,u=Value.ref a/\h.get? a=some o/\o.cls=.type "tuple" /\ o.data=.seq us n/\zj row us.toList) rows its
theorem jN.get:∀ {rows:List (List PyData)} {its:List Value} (i:Nat),i<rows.length->jN h sh rows its->∃ a o us n,its.getD i Value.none=.ref a/\h.get? a=some o/\o.cls=.type "tuple" /\ o.data=.seq us n/\Shape sh (rowAt rows i)/\zj (rowAt rows i) us.toList:=by
 have main:∀ {rows:List (List PyData)} {its:List Value} (i:Nat) (dflt:List PyData),i<rows.length->jN h sh rows its->∃ a o us n,its.getD i Value.none=.ref a/\h.get? a=some o/\o.cls=.type "tuple" /\ o.data=.seq us n/\Shape sh (rows.getD i dflt)/\zj (rows.getD i dflt) us.toList:=by
  intro rows
  induction rows with
  | nil=>intro its i d hi _;simp at hi
  | cons row rows ih =>
   intro its i d hi r;cases r with
   | cons r1 r2 =>
    cases i with
    | zero =>
     obtain⟨s,a,o,us,n,e,g,c,dd,q⟩:=r1;exact⟨a,o,us,n,e,g,c,dd,s,q⟩
    | succ i =>
     obtain⟨a,o,us,n,e,z⟩:=ih i d (by simpa using hi) r2;exact⟨a,o,us,n,by simpa using e,by simpa using z⟩
 exact λ {rows its} i hi r=>main i _ hi r
theorem jN.mS:∀ {rows:List (List PyData)} {its:List Value},jN h (t::sh) rows its->∃ fs,W.KatTups h its fs/\fs.length=its.length/\∀ v∈fs,(t=true/\∃ x k,v=Value.str x k)\/(t=false/\∃ i k,v=Value.int i k)
 | [],its,r=>by
  cases r;exact⟨[],.nil,rfl,λ v hv=>by simp at hv⟩
 | row::rows,its,r=>by
  cases r with
  | cons r1 r2 =>
   obtain⟨fs,h1,h2,h3⟩:=jN.mS r2;obtain⟨s,a,o,us,n,e,g,c,dd,q⟩:=r1;subst e
   match row,s with
   | d::ds,s =>
    obtain⟨f,us2,eu,hf⟩:∃ f us2,us.toList=f::us2/\((t=true/\∃ x k,f=Value.str x k)\/(t=false/\∃ i k,f=Value.int i k)):=by
     generalize us.toList=ul at q;cases q with
     | @cons _ u _ ul2 q1 q2 =>
      refine⟨u,ul2,rfl,?_⟩;cases t with
      | true =>
       obtain⟨⟨x,rfl⟩,_⟩:=s;rcases q1 with ⟨_,_,e,_⟩ | ⟨_,k,e,e'⟩
       ·cases e
       ·exact .inl ⟨rfl,_,_,e'⟩
      | false =>
       obtain⟨⟨x,rfl⟩,_⟩:=s;rcases q1 with ⟨_,k,e,e'⟩ | ⟨_,_,e,_⟩
       ·exact .inr ⟨rfl,_,_,e'⟩
       ·cases e
    have e0:us[0]? =some f:=by
     have:us.toList[0]? =some f:=by rw[eu];rfl
     simpa using this
    refine⟨f::fs,.cons g c dd e0 h1,by simp[h2],λ v hv=>?_⟩;rcases List.mem_cons.mp hv with rfl | hv
    ·exact hf
    ·exact h3 v hv
   | [],s=>cases t<;>cases s
end
section
variable {X:Cx}{K:FG}
theorem wD(I:Inv X pins σ H s):∀ {rows:List (List PyData)} {vs:List V} {its:List Value},(∀ r∈rows,Shape sh r)->bt X.K H (rows.map PyData.tuple) vs->Vals vs its->jN s.heap sh rows its
 | [],vs,its,_,h,r=>by simp only[List.map_nil,bt] at h;subst h;cases r;exact .nil
 | row::rows,vs,its,hs,h,r=>by
  simp only[List.map_cons,bt] at h;obtain⟨v,rs,e,h1,h2⟩:=h;subst e;cases r with
  | cons r1 r2 =>
   simp only[aG] at h1;obtain⟨a,us,ev,hq,ra⟩:=h1;subst ev;cases r1;obtain⟨uts,ru,⟨o,ho,hc,n,hd⟩,_⟩:=I.tuple hq;have s1:=hs row (by simp);exact .cons ⟨s1,a,o,uts.toArray,n,rfl,ho,hc,hd,by simpa using ni s1 ra ru⟩ (wD I (λ r hr=>hs r (by simp[hr])) h2 r2)
end
theorem afv(x:cV P w H h a o):∃ ob,h.get? a=some ob:=by
 induction o with
 | lst xs=>obtain⟨_,_,_,_,e⟩:=x;exact⟨_,e⟩
 | tup xs=>obtain⟨_,_,_,ob,e,_⟩:=x;exact⟨_,e⟩
 | dK kvs=>obtain⟨_,_,_,_,o,_,_,e,_⟩:=x;exact⟨_,e⟩
 | dT kvs=>obtain⟨_,_,_,_,o,_,_,e,_⟩:=x;exact⟨_,e⟩
 | set S n=>obtain⟨o,_,_,_,e,_⟩:=x;exact⟨_,e⟩
 | ins C dx fs=>obtain⟨_,_,_,e,_⟩:=x;exact⟨_,e⟩
 | own y=>obtain⟨_,e⟩:=x;exact⟨_,e⟩
 | xd fs=>obtain⟨_,⟨_,_,_,e,_⟩,_⟩:=x;exact⟨_,e⟩
 | rng lo hi=>obtain⟨_,_,_,e⟩:=x;exact⟨_,e⟩
 | frz ob u ih=>obtain⟨e,_⟩:=x;exact⟨_,e⟩
 | tbl ps=>exact⟨_,show h.get? a=some _ from x⟩
 | met f y=>exact⟨_,show h.get? a=some _ from x⟩
 | ext φ=>obtain⟨_,⟨_,e⟩,_⟩:=x;exact⟨_,e⟩
theorem rQ(x:HOk P w H h)(e:h.get? a=none):H a=none:=by
 cases q:H a with
 | none=>rfl
 | some u =>
  obtain⟨ob,z⟩:=afv (x a u q);rw[e] at z;cases z
theorem Inv.ae5(I:Inv X pins σ H s)(k:∀ b u,s.heap.get? b=some u->h'.get? b=some u)(hp:s.heap.get? a=none)(new:cV X.prog X.w (upd H a o) h' a o) :
  Inv X pins σ (upd H a o) {s with heap:=h',toks:=t'}:=by
 have hn:=rQ I.hok hp;have ne:∀ b u,s.heap.get? b=some u->b≠a:=λ b u e z=>by rw[z,hp] at e;cases e
 refine I.un ⟨λ b ob e _ _ _=>k b ob e,λ b ob e _ _ _=>⟨ob.slots,k b ob e⟩,λ b ob e n _=>by rw[ao (ne b ob e)];exact n,λ b ob e _=>⟨ob,k b ob e⟩,λ b xs e=>by rw[ao (aV e hn)];exact e,λ b ob u e=>by rw[ao (aV e hn)];exact e,λ b ps e=>⟨#[],by rw[ao (aV e hn),e];simp⟩⟩ λ b u e=>?_
 by_cases hb:b=a
 ·subst hb;rw[ar] at e;cases e;exact new
 ·rw[ao hb] at e;exact(I.hok b u e).oO (λ c v _ q=>k c v q) (λ c q=>by rw[ao (aV q hn)];exact q) λ c xs q=>by rw[ao (aV q hn)];exact q
section
variable {X:Cx}{K:FG}
theorem qx:∀ {zs:List Str} {vs:List (Key×Value)} {us:List Value},vs.map (·.1)=zs.map Sum.inr->us.length=vs.length->(∀ (j:Nat) v,us[j]? =some v->∃ k x,vs[j]? =some (k,x)/\(bu P w).is k v=true)->StrsAre us zs
 | [],vs,us,h,hl,hp=>by
  have e:vs=[]:=by simpa using h
  subst e;have e:us=[]:=by simpa using hl
  subst e;exact .nil
 | z::zs,vs,us,h,hl,hp=>by
  match vs,us,h,hl,hp with
  | (k,x)::vs,u::us,h,hl,hp =>
   simp only[List.map_cons,List.cons.injEq] at h;obtain⟨k',x',e,hk⟩:=hp 0 u rfl;simp at e;obtain⟨e1,e2⟩:=e;subst e1 e2;rw[h.1,uQ] at hk;obtain⟨t,e⟩:∃ t,u=.str z t:=by
    rcases bV hk with ⟨i,t,e,_⟩ | ⟨y,t,e,e'⟩
    ·cases e
    ·cases e;exact⟨t,e'⟩
   subst e;exact .cons z t (qx h.2 (by simpa using hl) λ j v hj=>by simpa using hp (j+1) v (by simpa using hj))
  | [],_,h,_,_=>simp at h
  | _::_,[],_,hl,_=>simp at hl
def bP(w:W)(w':W)(M:MH)(Q:QD):Prop:=∃ xs ys,w=.d (.tuple xs)/\w'=.d (.tuple ys)/\xs≠[]/\xs.length+ys.length<=sizeLine/\Q (.d (.tuple (xs++ys))) M
theorem bZ:OpD K (aft K) bP:=by
 intro x y H w w' M Qd Q r1 r2 m ⟨xs,ys,e1,e2,hne,hz,q⟩ k;subst e1 e2;simp only[aO,aG] at r1 r2;obtain⟨a,vs,ea,ha,ra⟩:=r1;obtain⟨b,us,eb,hb,rb⟩:=r2;have l1:=ra.length;have l2:=rb.length;refine⟨a,b,vs,us,ea,eb,ha,hb,λ z=>hne (by rw[z] at l1;simpa using l1.symm),by omega,λ z=>?_,λ z p hp=>?_⟩
 ·have e:ys=[]:=by rw[z] at l2;simpa using l2.symm
  subst e;rw[List.append_nil] at q;refine k _ _ (.d (.tuple xs)) M (Kp.refl _) ?_ m q;simp only[aO,aG];exact⟨a,vs,rfl,ha,ra⟩
 ·refine k _ _ (.d (.tuple (xs++ys))) M (Kp.new hp) ?_ (m.new hp) q;simp only[aO,aG];exact⟨p,_,rfl,.inl (.inl ar),(ra.append rb).keep (Kp.new hp)⟩
def isNone:W->Bool
 | .d .none=>true
 | _=>false
theorem mY(r:aO K H w v):decide (v=.non)=isNone w:=by
 cases w with
 | m a=>cases (show v=.ref a from r);rfl
 | t n=>cases (show v=.ty n from r);rfl
 | d x =>
  cases x<;>simp only[aO,aG] at r
  ·subst r;rfl
  ·subst r;rfl
  ·subst r;rfl
  ·subst r;rfl
  all_goals first
   | (obtain⟨a,vs,e,_⟩:=r;subst e;rfl)
   | (obtain⟨a,o,l,e,_⟩:=r;subst e;rfl)
def pI(neg:Bool)(w:W)(w':W)(M:MH)(Q:QD):Prop:=w'=.d .none/\Q (.d (.bool (xor neg (isNone w)))) M
theorem aca:OpD K (λ x y H Q=>y=.non/\Q (.bl (decide (x=.non))) H) (pI false):=by intro x y H w w' M Qd Q r1 r2 m ⟨e,q⟩ k;subst e;simp only[aO,aG] at r2;refine⟨r2,k _ _ (.d (.bool (isNone w))) M (Kp.refl _) ?_ m (by simpa using q)⟩;rw[mY r1];simp[aO,aG]
theorem iV:OpD K (λ x y H Q=>y=.non/\Q (.bl (!decide (x=.non))) H) (pI true):=by intro x y H w w' M Qd Q r1 r2 m ⟨e,q⟩ k;subst e;simp only[aO,aG] at r2;refine⟨r2,k _ _ (.d (.bool (!isNone w))) M (Kp.refl _) ?_ m (by simpa using q)⟩;rw[mY r1];simp[aO,aG]
end
theorem Inv.aeh(I:Inv X pins σ H s)(k:∀ b o,b≠it->b≠e->s.heap.get? b=some o->h'.get? b=some o)(f:jg X pins H it)(g:jg X pins H e):Inv X pins σ H {s with heap:=h',toks:=t'}:=by
 obtain⟨f0,f1,f2,f3,f4,f5⟩:=f;obtain⟨g0,g1,g2,g3,g4,g5⟩:=g;have nit:∀ b u,H b=some u->b≠it:=λ b u q z=>by rw[z,f0] at q;cases q
 have ne:∀ b u,H b=some u->b≠e:=λ b u q z=>by rw[z,g0] at q;cases q
 refine I.step (g':=s.gens) (d':=s.drawn) (ch:=[it,e]) (λ b hb=>?_) (λ b o _ _ hc q _=>k b o (λ z=>hc (by simp[z])) (λ z=>hc (by simp[z])) q) (λ b o _ _ hc q _=>⟨o.slots,k b o (λ z=>hc (by simp[z])) (λ z=>hc (by simp[z])) q⟩) (λ _ _ _ _ n=>n)
  (λ b o hc q=>⟨o,k b o (λ z=>hc (by simp[z])) (λ z=>hc (by simp[z])) q⟩) (λ _ _ q=>q) (λ _ _ _ q=>q) (λ b ps q=>⟨#[],by rw[q];simp⟩) (λ m hm=>?_) (λ b u q=>?_) I.bare
 ·have z:b=it\/b=e:=by simpa using hb
  rcases z with rfl | rfl
  ·exact⟨f3,f1,f4,f5⟩
  ·exact⟨g3,g1,g4,g5⟩
 ·obtain⟨o,es,ep,ho,r⟩:=hm;exact⟨o,es,ep,k _ o (Ne.symm f1) (Ne.symm g1) ho,r⟩
 ·refine(I.hok b u q).oO (λ c v hc z=>k c v ?_ ?_ z) (λ _ z=>z) λ _ _ z=>z
  ·rcases hc with z | z
   ·rw[z];exact nit b u q
   ·exact nit c _ z
  ·rcases hc with z | z
   ·rw[z];exact ne b u q
   ·exact ne c _ z
def Ite(K:FG)(a:Addr):It:=
 ⟨λ i H=>∃ xs x,SqL K H a xs/\xs[i]? =some x,λ i H x H'=>∃ T v,H T=none/\x=.ref T/\H'=upd H T (.tup [.int i,v])/\∀ xs,SqL K H a xs->xs[i]? =some v,λ i H=>∃ xs,SqL K H a xs/\xs.length<=i⟩
theorem yv{P:Program}{w:World}{K:FG}{elts:List Expr}{x1:Nat}{tpos:Pos}(a e it:Addr)(hne:e≠it) :
  Turn P w K (.Tuple elts x1 tpos) (Ite K a) [e,it] e (λ i h=>(∃ old,IsEnum h e it (i:Nat) old)/\h.IsListIter it a i) where
 mem:=by simp
 obj:=λ i h ⟨⟨old,st⟩,⟨oi,ei,ci,di⟩⟩ b hb=>by
  have z:b=e\/b=it:=by simpa using hb
  rcases z with rfl | rfl
  ·exact⟨_,st,λ v z=>by cases z⟩
  ·exact⟨oi,ei,λ v z=>by rw[di] at z;cases z⟩
 keep:=λ i h h' ⟨⟨old,st⟩,li⟩ k=>⟨⟨old,k e (by simp) _ st⟩,li.at λ o q=>k it (by simp) o q⟩
 item:=by
  intro X hP hw hK hc i pins s σ H E I hf ⟨⟨old,st⟩,li⟩ ⟨xs,x,hq,hx⟩;subst hP hw hK;have fe:=hf e (by simp);have fi:=hf it (by simp);obtain⟨its,rv,p,hz⟩:=I.list hq;obtain⟨u,hu,ru⟩:=rv.get hx;refine wpAny_pyNext_enum_item st li p.isList (x:=u) (by simpa using hu) hne λ h' st' li' ht hsz kp=>?_;refine⟨_,rfl,wpAny_letOwnedTupleGo_enum st' λ h'' st'' sb=>?_⟩;obtain⟨t0,t1,t2,t3,t4,t5⟩:=I.oz (Nat.le_refl _) (I.hok.fresh (Nat.le_refl _));have nT:s.heap.objs.size≠e:=Nat.ne_of_gt (Heap.lt_size st);have I1:Inv X pins σ H {s with heap:=h'',toks:=s.toks+1}:=Inv.aeh I (λ b ob h1 h2 q=>(sb.2 b h2).trans (kp b ob h2 h1 q)) fi fe;have eT:h''.get? s.heap.objs.size=some {cls:=.type "tuple",data:=.seq #[.int (i:Nat) s.toks,u]}:=(sb.2 _ nT).trans ht;have I2:=Inv.xg (us:=[.int (i:Nat) s.toks,u]) (ys:=[.int i,x]) I1 eT t0 (.cons ⟨_,rfl⟩ (.cons ru .nil)) (by simp;have:=s16;omega) t3 t1 t4 t5;have li'':h''.IsListIter it a (i+1):=li'.at λ o q=>(sb.2 it hne.symm).trans q;have hit:it<s.heap.objs.size:=by obtain⟨oi,ei,_⟩:=li;exact Heap.lt_size ei
  refine⟨.ref s.heap.objs.size,_,I2,rfl,⟨_,x,t0,rfl,rfl,λ ys hy=>by rw[I.ki hy hq];exact hx⟩,⟨⟨_,st''⟩,li''⟩,λ b hb=>?_⟩;have z:b=e\/b=it:=by simpa using hb
  rcases z with rfl | rfl
  ·rw[ao nT.symm];exact fe.1
  ·rw[ao (Nat.ne_of_lt hit)];exact fi.1
 done:=by intro X hP hw hK hc i pins s σ H E I hf ⟨⟨old,st⟩,li⟩ ⟨xs,hq,hx⟩;subst hP hw hK;obtain⟨f0,f1,f2,f3,f4,f5⟩:=hf it (by simp);obtain⟨its,rv,p,hz⟩:=I.list hq;have hl:=rv.length;exact wpAny_pyNext_enum_end (I.ok.hd hc) st li p.isList (by simp;omega) λ h' eb=>⟨rfl,I.turned (t':=s.toks) (λ b o hb q=>eb b o hb q) f0 f1 f3 f4 f5⟩
 self:=λ _ _ _ _ _ ⟨⟨old,st⟩,li⟩ h=>wpAny_pyIter_enum st h
theorem pL:bootBuiltins "enumerate" = some (.type "enumerate"):=by decide +kernel
def ahH(K:FG)(ta:TA):TI:=λ σ H R=>ta σ H λ vs H1=>∃ b xs,vs=[.ref b]/\SqL K H1 b xs/\R (Ite K b) H1
theorem adU{elts:List Expr}{x1:Nat}{tpos:Pos}(hg:Gl X "enumerate")(hm:X.mg "enumerate" = none)(ha:PA X [a] ta)(hs:starEach [a] X.env=[(false,eval a X.env)]:=by rfl) :
  PI X (.Tuple elts x1 tpos) (.Call (.Name "enumerate" p) [a] [] pos) (ahH X.K ta):=by
 intro pins s σ H R I h;refine Call_ (g6 I hg hm pL (PyProof.Rows.callWith_type1 (thn (ha pos pins s σ H _ I h) λ us s1 ⟨vs,H1,I1,r1,q1⟩=>?_) hs rfl));obtain⟨b,xs,e,hq,q⟩:=q1;subst e;cases r1 with
 | cons r rr =>
  cases rr;cases (show _=Value.ref b from r);obtain⟨its,rv,pl,hz⟩:=I1.list hq;refine call_enumerate_list pl.isList λ h' st li hsz kp=>?_;have I2:Inv X pins σ H1 {s1 with heap:=h'}:=I1.kept (t':=s1.toks) kp;refine wpAny_pyIter_enum st ?_;refine⟨_,[_,_],_,_,H1,rfl,I2,yv b _ _ (Nat.succ_ne_self _),⟨⟨_,st⟩,li⟩,λ c hc=>?_,q⟩;have z:c=s1.heap.objs.size+1\/c=s1.heap.objs.size:=by simpa using hc
  rcases z with rfl | rfl
  ·exact I1.oz (Nat.le_succ _) (I1.hok.fresh (Nat.le_succ _))
  ·exact I1.oz (Nat.le_refl _) (I1.hok.fresh (Nat.le_refl _))
def iD(ds:List PyData):List W:=(List.range ds.length).map λ i=>.d (.tuple [.int (i:Nat),ds.getD i .none])
def aaA(t:TAd)(τ:DS)(M:MH)(R:List W->MH->Prop):Prop:=t τ M λ ws M1=>∃ ds,ws=[.d (.list ds)]/\R (iD ds) M1
theorem aga:bootBuiltins "sum" = some (.builtin "sum"):=by decide +kernel
theorem ag6:bootBuiltins "min" = some (.builtin "min"):=by decide +kernel
theorem sA(f:Nat->Int)(k:Nat):preSum f (k+1)=preSum f k+f k:=rfl
theorem ir(ps:List (Int×Tok)):∀ k,k<=ps.length->preSum (numAt ps.toArray) k=((ps.map (·.1)).take k).sum
 | 0,_=>by simp[preSum]
 | k+1,h=>by
  rw[sA,ir ps k (by omega),List.take_succ,List.sum_append];have hk:k<ps.length:=by omega
  simp[numAt,List.getElem?_eq_getElem hk]
theorem sum_bound:∀ (ns:List Int),(∀ n∈ns,0<=n/\n<=1000000)->0<=ns.sum/\ns.sum<=1000000 * ns.length
 | [],_=>by simp
 | n::ns,h=>by have h1:=h n (by simp);have h2:=sum_bound ns λ x hx=>h x (by simp[hx]);simp only[List.sum_cons,List.length_cons];omega
section
variable {X:Cx}{K:FG}
theorem xo(hc:X.calm=true):eI X (.builtin "sum") (λ xs H Q=>∃ p,∃ ns:List Int,xs=[.ref p]/\SqL X.K H p (ns.map V.int)/\ns.length<=1000/\(∀ n∈ns,0<=n/\n<=1000000)/\Q (.int ns.sum) H):=by
 intro pins s σ H xs us Q I r h;obtain⟨p,ns,rfl,hq,hlen,hb,q⟩:=h;obtain⟨u,rfl,rx⟩:=vals1 r;cases rx;obtain⟨its,rv,pl,hz⟩:=I.list hq;obtain⟨ps,e1,e2⟩:=uo rv;subst e1;have hl:s.heap.IsList p (intItems ps.toArray):=by
  have e:(ps.map λ p=>Value.int p.1 p.2).toArray=intItems ps.toArray:=by simp[intItems]
  rw[<- e];exact pl.isList
 have hpl:ps.length=ns.length:=by rw[<- e2,List.length_map]
 refine sum_intList (I.ok.hd hc) hl (λ j hj=>?_) λ h' tk t' kk=>?_
 ·have hj':j<ps.length:=by simpa using hj
  have hn:numAt ps.toArray j=(ps[j]).1:=by simp[numAt,List.getElem?_eq_getElem hj']
  have hm:(ps[j]).1∈ns:=by rw[<- e2];exact List.mem_map.mpr ⟨_,List.getElem_mem hj',rfl⟩
  have b1:=hb _ hm;have b2:=sum_bound (ns.take (j+1)) λ n hn=>hb n (List.mem_of_mem_take hn);rw[List.length_take] at b2;refine⟨by rw[hn];exact⟨by omega,by omega⟩,?_⟩;rw[ir ps (j+1) (by omega),e2];exact⟨by omega,by omega⟩
 ·refine⟨.int _,H,I.kept kk,⟨_,rfl⟩,?_⟩;have:preSum (numAt ps.toArray) ps.toArray.size=ns.sum:=by rw[List.size_toArray,ir ps ps.length (Nat.le_refl _),e2,hpl,List.take_length]
  rw[this];exact q
def ag7(ws:List W)(M:MH)(Q:QD):Prop:=∃ w,∃ ns:List Int,ws=[w]/\zm M w (ns.map PyData.int)/\ns.length<=1000/\(∀ n∈ns,0<=n/\n<=1000000)/\Q (.d (.int ns.sum)) M
theorem aeT:fH K (λ xs H Q=>∃ p,∃ ns:List Int,xs=[.ref p]/\SqL K H p (ns.map V.int)/\ns.length<=1000/\(∀ n∈ns,0<=n/\n<=1000000)/\Q (.int ns.sum) H) ag7:=by intro vs H ws M Qd Q r m ⟨w,ns,e,g,hl,hb,q⟩ k;subst e;obtain⟨v,e1,r1⟩:=eU r;obtain⟨p,ys,ev,hs,ra⟩:=g.sound r1 m;have ey:=k7 ra;subst ev ey;exact⟨p,ns,e1,hs,hl,hb,k _ H (.d (.int _)) M (Kp.refl H) (by simp[aO,aG]) m q⟩
def abJ(ws:List W)(M:MH)(Q:QD):Prop:=∃ i j,ws=[.d (.int i),.d (.int j)]/\Q (.d (.int (if j<i then j else i))) M
theorem adt:fH K (λ xs H Q=>∃ i j,xs=[V.int i,V.int j]/\Q (V.int (if j<i then j else i)) H) abJ:=by intro vs H ws M Qd Q r m ⟨i,j,e,q⟩ k;subst e;obtain⟨v,v',e1,r1,r2⟩:=tS r;simp only[aO,aG] at r1 r2;subst r1 r2;exact⟨i,j,e1,k _ H (.d (.int _)) M (Kp.refl H) (by simp[aO,aG]) m q⟩
theorem sP:eI X (.type "dict") (λ xs H Q=>∃ a kvs,xs=[.ref a]/\Rd H a (.dK kvs)/\∀ p,H p=none->Q (.ref p) (upd H p (.dK kvs))):=by intro pins s σ H xs us Q I r h;obtain⟨a,kvs,rfl,hr,q⟩:=h;obtain⟨u,rfl,rx⟩:=vals1 r;cases rx;exact aaE I hr λ p s' hp I'=>⟨.ref p,_,I',rfl,q p hp⟩
def ug(ws:List W)(M:MH)(Q:QD):Prop:=∃ a kvs,ws=[.m a]/\M a=some (.dic kvs)/\∀ p,M p=none->Q (.m p) (bY M p (.dic kvs))
theorem xG:fH K (λ xs H Q=>∃ a kvs,xs=[.ref a]/\Rd H a (.dK kvs)/\∀ p,H p=none->Q (.ref p) (upd H p (.dK kvs))) ug:=by intro vs H ws M Qd Q r m ⟨a,kvs,e,hm,q⟩ k;subst e;obtain⟨v,e1,r1⟩:=eU r;have e2:v=.ref a:=r1;subst e2;obtain⟨l,e,pr⟩:=m _ _ hm;refine⟨a,l,e1,.inl e,λ p hp=>?_⟩;have kp:Kp H (upd H p (.dK l)):=Kp.new hp;exact k _ _ (.m p) _ kp rfl (m.put (mo:=.dic kvs) kp ⟨l,ar,Paired.jL pr λ p q z=>⟨z.1,z.2.keep kp⟩⟩) (q p (m.free hp))
end
end D
namespace Rc
open L2 D
section
variable {α:Type}(nm:α->Str)
def rk(g:α->PyData)(L:List α):List (Key×PyData):=L.map λ a=>(.inr (nm a),g a)
def fd(L:List α)(n:Str):Option α:=L.find? λ a=>decide (nm a=n)
def pt(L:List α)(z:α):List α:=match fd nm L (nm z) with
 | none=>L++[z]
 | some _=>L.map λ y=>if nm y=nm z then z else y
variable {nm}
theorem sM(b:α)(L:List α)(n:Str):fd nm (b::L) n=if nm b=n then some b else fd nm L n:=by
 by_cases e:nm b=n<;>simp[fd,List.find?_cons,e]
theorem aa9(h:fd nm L n=some x):x∈L/\nm x=n:=by
 unfold fd at h;have h1:=List.find?_some h;exact⟨List.mem_of_find?_eq_some h,by simpa using h1⟩
theorem fd_none(h:fd nm L n=none):∀ b∈L,nm b≠n:=by
 unfold fd at h;intro b hb e;have:=List.find?_eq_none.mp h b hb;simp[e] at this
theorem aah(g:α->PyData)(L:List α):bA (rk nm g L)=L.map λ b=>((.inr (nm b):Key),W.d (g b)):=by simp[bA,rk]
theorem nW(g:α->PyData):∀ (L:List α) (n:Str),fY (bA (rk nm g L)) (.inr n)=(fd nm L n).map λ b=>.d (g b):=by
 intro L n;rw[aah]
 induction L with
 | nil=>rfl
 | cons b L ih =>
  rw[List.map_cons,d6,sM,ih]
  by_cases e:nm b=n
  ·simp[e]
  ·have e':¬ (Sum.inr (nm b):Key)=.inr n:=λ z=>e (Sum.inr.inj z);simp[e,e']
theorem acE(g:α->PyData)(L:List α)(z:α)(hn:nm z=n):mD (bA (rk nm g L)) (.inr n) (.d (g z))=bA (rk nm g (pt nm L z)):=by
 subst hn;unfold mD;rw[oq,nW,aah,aah];unfold pt;cases e:fd nm L (nm z) with
 | none=>rw[if_neg (by simp)];simp
 | some x =>
  rw[if_pos (by rfl),List.map_map,List.map_map];refine List.map_congr_left λ b _=>?_
  by_cases e:nm b=nm z
  ·simp[e]
  ·have e':¬ (Sum.inr (nm b):Key)=.inr (nm z):=λ z=>e (Sum.inr.inj z);simp[e,e']
theorem afJ(L:List α)(z:α):(pt nm L z).length<=L.length+1:=by
 unfold pt;cases fd nm L (nm z) with
 | none=>simp
 | some x=>simp
theorem ag4(h:y∈pt nm L z):y=z\/y∈L:=by
 unfold pt at h;cases e:fd nm L (nm z) with
 | none =>
  rw[e] at h;rcases List.mem_append.mp h with h | h
  ·exact .inr h
  ·exact .inl (by simpa using h)
 | some x =>
  rw[e] at h;obtain⟨b,hb,eb⟩:=List.mem_map.mp h
  by_cases e:nm b=nm z
  ·rw[if_pos e] at eb;exact .inl eb.symm
  ·rw[if_neg e] at eb;exact .inr (eb ▸ hb)
theorem af7(L:List α)(z:α)(n:Str):fd nm (pt nm L z) n=if nm z=n then some z else fd nm L n:=by
 unfold pt;cases e:fd nm L (nm z) with
 | none =>
  by_cases q:nm z=n
  ·rw[if_pos q,<- q];have:fd nm (L++[z]) (nm z)=some z:=by
    unfold fd at e ⊢;rw[List.find?_append,e];simp
   exact this
  ·rw[if_neg q];unfold fd;rw[List.find?_append];have:[z].find? (λ a=>decide (nm a=n))=none:=by simp[q]
   rw[this];simp
 | some x =>
  dsimp only;have main:∀ (L:List α),(∃ y∈L,nm y=nm z)\/nm z≠n->fd nm (L.map λ y=>if nm y=nm z then z else y) n=if nm z=n then some z else fd nm L n:=by
   intro L
   induction L with
   | nil =>
    intro h;rcases h with ⟨y,hy,_⟩ | h
    ·cases hy
    ·rw[if_neg h];rfl
   | cons y L ih =>
    intro h;rw[List.map_cons,sM,sM]
    by_cases q:nm y=nm z
    ·rw[if_pos q]
     by_cases r:nm z=n
     ·rw[if_pos r,if_pos r]
     ·rw[if_neg r,if_neg r,if_neg (λ e=>r (q ▸ e)),ih (.inr r),if_neg r]
    ·rw[if_neg q]
     by_cases r:nm z=n
     ·have ne:nm y≠n:=λ e=>q (e.trans r.symm);rw[if_neg ne,if_pos r,ih,if_pos r];rcases h with ⟨w,hw,e⟩ | h
      ·rcases List.mem_cons.mp hw with rfl | hw
       ·exact absurd e q
       ·exact .inl ⟨w,hw,e⟩
      ·exact .inr h
     ·by_cases t:nm y=n
      ·rw[if_pos t,if_neg r,if_pos t]
      ·rw[if_neg t,if_neg r,if_neg t,ih (.inr r),if_neg r]
  exact main L (.inl ⟨x,aa9 e⟩)
end
theorem ur(h:aby z=true):Asc z:=acj h
theorem xn(h:Asc z):PyData.strOk z=true:=by
 unfold PyData.strOk;rw[Array.all_eq_true_iff_forall_mem];intro c hc;exact decide_eq_true (by have:=h c (by simpa using hc);omega)
theorem acu(h:aby z=true):PyData.strOk z=true:=xn (ur h)
theorem sg:∀ {ds:List PyData},(∀ d∈ds,big d<=c)->aas ds<=ds.length * (c+2)
 | [],_=>by simp[aas]
 | d::ds,h=>by have h1:=h d (by simp);have h2:=sg (ds:=ds) λ x hx=>h x (by simp[hx]);simp only[aas,List.length_cons];rw[Nat.add_mul];omega
theorem bL(x y:Int):PyData.eqv (.int x) (.int y)=decide (x=y):=by
 rw[PyData.eqv]
 by_cases e:x=y
 ·subst e;simp
 ·simp[e]
theorem xQ{M:MH}{a b:Addr}{o:MO}(ha:M a=some o)(hb:M b=none):a≠b:=λ e=>by rw[e,hb] at ha;cases ha
theorem nQ{M:MH}{a b:Addr}{o u:MO}(h:M a=some o)(hb:M b=none):bY M b u a=some o:=by rw[aF (xQ h hb)];exact h
end Rc
namespace Stc
open L2 D Rc
theorem ade(h0:0<=r)(h1:r<ds.length):∃ d,ixW M (.d (.list ds)) r=some (.d d)/\d∈ds:=by
 have hn:r.toNat<ds.length:=by omega
 refine⟨ds[r.toNat],?_,List.getElem_mem hn⟩;simp only[ixW,atI,yL h0 h1,Option.bind_some,List.getElem?_eq_getElem hn,Option.map_some]
theorem xS{zs:List Str}{r:Int}(h0:0<=r)(h1:r<zs.length):∃ z,ixW M (.d (.list (zs.map PyData.str))) r=some (.d (.str z))/\z∈zs:=by obtain⟨d,e,hd⟩:=ade (M:=M) (ds:=zs.map PyData.str) h0 (by simpa using h1);obtain⟨i,hi,rfl⟩:=List.mem_map.mp hd;exact⟨i,e,hi⟩
theorem o9(h:Bag M p):∃ o,M p=some o:=by obtain⟨a,b,c,ns,e,_⟩:=h;exact⟨_,e⟩
theorem dY(h:Bag M p)(e:M' p=M p):Bag M' p:=by obtain⟨a,b,c,ns,h1,h2⟩:=h;exact⟨a,b,c,ns,e.trans h1,h2⟩
end Stc
namespace D
open L2
def agg(i:Nat)(te:TD)(f:Int->Int->Int)(D:Ed)(τ:DS)(M:MH):Prop:=∃ a,τ[i]? =some (some (.d (.int a)))/\te τ M λ w M1=>∃ b,w=.d (.int b)/\D.nx (τ.set i (some (.d (.int (f a b))))) M1
def aiY(lo:Int)(n:Nat):It:=⟨λ i _=>i<n,λ i H x H'=>H'=H/\x=.int (lo+i * (-1)),λ i _=>n<=i⟩
theorem sf{P:Program}{w:World}{K:FG}{tg:Expr}(it:Addr)(lo:Int)(n:Nat):Turn P w K tg (aiY lo n) [it] it (λ i h=>IsRangeIter h it (lo+(i:Nat) * (-1)) ((n:Int)-(i:Nat)) (-1)) where
 mem:=by simp
 obj:=λ i h st b hb=>by
  have e:b=it:=by simpa using hb
  subst e;exact⟨_,st,λ v z=>by have z':Data.fields _=Data.cell v:=z;cases z'⟩
 keep:=λ i h h' st k=>k it (by simp) _ st
 item:=by intro X hP hw hK hc i pins s σ H E I hf st hg;subst hP hw hK;obtain⟨f0,f1,f2,f3,f4,f5⟩:=hf it (by simp);have W:=Walks.range (prog:=X.prog) (w:=X.w) (I.ok.hd hc) it lo (-1) n;refine W.item i s _ _ hg st λ v h' tk hv st' kk=>?_;obtain⟨t,rfl⟩:=hv;have I1:Inv X pins σ H {s with heap:=h',toks:=tk}:=I.turned (λ b o hb e=>kk b o (by simpa using hb) e) f0 f1 f3 f4 f5;exact⟨_,rfl,uM (s:={s with heap:=h',toks:=tk}) (n:= "range_iterator") st' rfl rfl (by decide) ⟨.int (lo+i * (-1)),H,I1,⟨t,rfl⟩,⟨rfl,rfl⟩,st',λ b hb=>(hf b hb).1⟩⟩
 done:=by intro X hP hw hK hc i pins s σ H E I hf st hg;subst hP hw hK;obtain⟨f0,f1,f2,f3,f4,f5⟩:=hf it (by simp);exact wpAny_pyNext_range_end (I.ok.hd hc) st (by have:n<=i:=hg;omega) λ h' eb=>⟨rfl,I.turned (t':=s.toks) (λ b o hb e=>eb b o hb e) f0 f1 f3 f4 f5⟩
 self:=λ _ _ _ _ _ st h=>wpAny_pyIter_rangeiter st h
theorem qQ(h0:0<=n):Builtin.Range.rangeSize n 0 (-1)=n:=by
 unfold Builtin.Range.rangeSize;rw[if_neg (by decide)]
 split
 ·simp
 ·omega
theorem uT(h0:0<=n)(h1:n<=1000):Builtin.Range.small n 0 (-1)=true:=by
 have hm:(1000:Int)<2 ^ 62:=by decide
 unfold Builtin.Range.small;rw[qQ h0];simp only[Builtin.Range.rangeFitsLong,Bool.and_eq_true,Bool.or_eq_true,decide_eq_true_eq,beq_iff_eq];exact⟨⟨⟨⟨⟨by omega,by omega⟩,by decide,by decide⟩,by decide,by decide⟩,by omega,by omega⟩,.inr (by decide)⟩
def ahr(ta:TA):TI:=λ σ H R=>ta σ H λ vs H1=>∃ n:Int,vs=[.int n,.int 0,.int (-1)]/\0<=n/\n<=1000/\R (aiY n n.toNat) H1
theorem wF(hg:Gl X "range")(hm:X.mg "range" = none)(ha:PA X [a,b,c] ta)(hs:starEach [a,b,c] X.env=(false,eval a X.env)::starEach [b,c] X.env:=by rfl)(hpl:(backTo pos (starEach [b,c] X.env)).any (·.1)=false:=by rfl) :
  PI X tg (.Call (.Name "range" p) [a,b,c] [] pos) (ahr ta):=by
 intro pins s σ H R I h;refine Call_ (g6 I hg hm boot_range (PyProof.Rows.callWith_type1 (thn (ha pos pins s σ H _ I h) λ us s1 ⟨vs,H1,I1,r1,q1⟩=>?_) hs hpl));obtain⟨n,e,q1,q2,q⟩:=q1;subst e;cases r1 with
 | cons r rr =>
  cases rr with
  | cons r' rr =>
   cases rr with
   | cons r'' rr =>
    cases rr;obtain⟨t,rfl⟩:=r;obtain⟨t',rfl⟩:=r';obtain⟨t'',rfl⟩:=r'';refine call_range_3 (by decide) ?_ (Or.inl (PyProof.noPylong_small (by decide)));refine wpAny_pyIter_range (IsRange.new ..) (uT q1 q2) ?_;have I2:Inv X pins σ H1 {s1 with heap:=s1.heap.push {cls:=.type "range",data:=.fields #[.int n t,.int 0 t',.int (-1) t'']}}:=I1.kept (t':=s1.toks) λ b o e=>Heap.get?_push_of_some _ e;refine⟨_,[_],_,_,H1,rfl,I2.kept (t':=s1.toks) λ b o e=>Heap.get?_push_of_some _ e,sf _ n n.toNat,?_,λ b hb=>?_,q⟩
    ·have e1:n+((0:Nat):Int) * (-1)=n:=by simp
     have e2:((n.toNat:Nat):Int)-((0:Nat):Int)=Builtin.Range.rangeSize n 0 (-1):=by rw[qQ q1];omega
     show IsRangeIter _ _ (n+((0:Nat):Int) * (-1)) (((n.toNat:Nat):Int)-((0:Nat):Int)) (-1);rw[e1,e2];exact Heap.get?_push_size _ rfl
    ·rw[List.mem_singleton] at hb;rw[hb];exact I2.oz (Nat.le_refl _) (I2.hok.fresh (Nat.le_refl _))
def qV(n:Int):List W:=(List.range n.toNat).map λ i=>.d (.int (n-(i:Nat)))
def agL(t:TAd)(τ:DS)(M:MH)(R:List W->MH->Prop):Prop:=t τ M λ ws M1=>∃ n:Int,ws=[.d (.int n),.d (.int 0),.d (.int (-1))]/\0<=n/\n<=1000/\R (qV n) M1
section
variable {K:FG}
def ahq(di:TId)(g:TGd)(tt:TTd)(te:TD)(k:Nat)(fr:List Nat)(τ:DS)(M:MH)(Q:QD):Prop:=di τ M λ ws M1=>∃ P:Nat->List PyData->DS->MH->Prop,P 0 [] (ac9 k fr τ) M1 /\
 (∀ i w acc τ M,ws[i]? =some w->P i acc τ M->acc.length<sizeLine/\g w τ M λ τ2 M2=>tt τ2 M2 λ b M3=>if b=true then te τ2 M3 λ y M4=>∃ d,y=.d d/\P (i+1) (acc++[d]) τ2 M4 else P (i+1) acc τ2 M3) /\
 ∀ acc τ M,P ws.length acc τ M->∀ p,M p=none->Q (.m p) (bY M p (.lst (acc.map W.d)))
theorem adG(h:up K (ahq di g tt te k fr) σ H Q) :
  tLC (upI K di) (upG K g) (upT K tt) (up K te) k fr σ H Q:=by
 obtain⟨τ,M,Qd,A,h,kk⟩:=h;refine⟨τ,M,_,A,h,λ J H1 ws M1 kp m1 it hq83=>?_⟩;obtain⟨P,p0,pt,pe⟩:=hq83;refine⟨λ i n ys σ' H'=>n=ws.length-i/\i<=ws.length/\Kp H1 H'/\∃ acc τ M,bt K H' acc ys/\Abs K H' σ' τ M/\P i acc τ M,⟨ws.length,by simp,Nat.zero_le _,Kp.refl _,[],_,M1,by simp[bt],tK (A.go kp m1) k fr,p0⟩,?_⟩;rintro i n ys σ2 H2 ⟨rfl,hi,kp2,acc,τ2,M2,ra,A2,p2⟩;obtain⟨go,stop,yld⟩:=it H2 kp2 i
 by_cases hlt:i<ws.length
 ·have hlen:=ra.length;refine .inr ⟨go hlt,?_,λ x H3 y=>?_⟩
  ·obtain⟨w,hw⟩:∃ w,ws[i]? =some w:=⟨ws[i],by simp[hlt]⟩;have:=(pt i w acc τ2 M2 hw p2).1;omega
  obtain⟨kp3,mk,w,ew,rw⟩:=yld x H3 hlt y;refine⟨w,τ2,M2,_,rw,A2.go kp3 (mk _ A2.mem),(pt i w acc τ2 M2 ew p2).2,λ σ4 H4 τ4 M4 kp4 A4 q4=>⟨τ4,M4,_,A4,q4,λ b H5 M5 kp5 m5 q5=>?_⟩⟩;have kq:=(kp3.trans kp4).trans kp5;cases b with
  | false =>
   rw[if_neg Bool.false_ne_true] at q5;show(if false=true then _ else _);rw[if_neg Bool.false_ne_true];exact⟨ws.length-(i+1),by omega,rfl,hlt,kp2.trans kq,acc,τ4,M5,ra.keep kq,A4.go kp5 m5,q5⟩
  | true =>
   rw[if_pos rfl] at q5;show(if true=true then _ else _);rw[if_pos rfl];refine⟨τ4,M5,_,A4.go kp5 m5,q5,λ v H6 wv M6 kp6 r6 m6 hq84=>?_⟩;obtain⟨d,e6,q6⟩:=hq84;subst e6;refine⟨ws.length-(i+1),by omega,rfl,hlt,kp2.trans (kq.trans kp6),acc++[d],τ4,M6,bt.append (ra.keep (kq.trans kp6)) ?_,A4.go (kp5.trans kp6) m6,q6⟩;simp only[bt];exact⟨v,[],rfl,r6,rfl⟩
 ·have hl:i=ws.length:=by omega
  subst hl;refine .inl ⟨stop (Nat.le_refl _),λ p hp=>?_⟩;have kp9:Kp H2 (upd H2 p (.lst ys)):=Kp.new hp;exact kgo kk (kp.trans kp2) _ _ (.m p) _ kp9 rfl (A2.mem.put (mo:=.lst (acc.map W.d)) kp9 ⟨_,ar,(ra.keep kp9).ws⟩) (pe acc τ2 M2 p2 p (A2.mem.free hp))
variable {X:Cx}{sc:Scope}{own:List Str}{fr:List Nat}{di:TId}{g:TGd}{tt:TTd}{te:TD}{tg iter elt:Expr}{ifs:List Expr}{pos:Pos}
theorem ado(hc:X.calm=true)(L:qj X sc own fr)(hi:PId X tg iter di)
  (hg:∀ cl C s H ex pl,PGd (blk X sc (lcN X own fr) cl C s H ex pl) tg g)(ht:∀ cl C s H ex pl,vK (blk X sc (lcN X own fr) cl C s H ex pl) ifs tt)(he:∀ cl C s H ex pl,PD (blk X sc (lcN X own fr) cl C s H ex pl) elt te)
  (hs:∀ x,foldedSetIterable iter X.env x=pure x:=by intro _;rfl):PD X (.ListComp elt [⟨tg,iter,ifs,0⟩] sc pos) (ahq di g tt te own.length fr):=
 iA (aeW hc L hi hg ht he hs) λ σ H Q h=>adG h
end
section
variable {X:Cx}{K:FG}
def agy:R2:=λ x y H Q=>∃ z n,x=.str z/\y=.int n/\z.length=1/\1<=n/\n<=1000/\Q (.str (Txt.mul z n)) H
theorem ab7:OpR X (binaryOp .Mult) agy:=by
 intro pins s σ H x y v u Q I rx ry h;obtain⟨z,n,rfl,rfl,hz,h1,h2,q⟩:=h;obtain⟨t,rfl⟩:=rx;obtain⟨t',rfl⟩:=ry;have hm:(1000:Int)<2 ^ 62:=by decide
 refine SB.mul ⟨?_,λ _ _=>?_,λ _ _=>?_⟩ λ t' k=>⟨.str (Txt.mul z n),H,I.tok _,⟨_,rfl⟩,q⟩
 ·simp;omega
 ·rw[hz];have:1<=(2 ^ 63-1:Int) / n:=by rw[Int.le_ediv_iff_mul_le (by omega)];omega
  omega
 ·rw[hz];have s16':=s16;unfold PySem.Builtin.Str.tooLong;exact decide_eq_false (by omega)
def abe(w:W)(w':W)(M:MH)(Q:QD):Prop:=∃ z n,w=.d (.str z)/\w'=.d (.int n)/\z.length=1/\1<=n/\n<=1000/\Q (.d (.str (Txt.mul z n))) M
theorem aa0:OpD K agy abe:=by intro x y H w w' M Qd Q r1 r2 m ⟨z,n,e1,e2,hz,h1,h2,q⟩ k;subst e1 e2;simp only[aO,aG] at r1 r2;exact⟨z,n,r1,r2,hz,h1,h2,k _ _ (.d (.str _)) M (Kp.refl _) (by simp[aO,aG]) m q⟩
end
def adK(to:TE):TE:=λ σ H Q=>to σ H λ x H1=>∃ a kvs,x=.ref a/\Rd H1 a (.dK kvs)/\∀ v,H1 v=none->Q (.ref v) (upd H1 v (.ext λ h=>h.IsValuesView v a))
theorem adA(ho:PE X o to)(hbase:attributeBase o "values" X.env (eval o X.env)=eval o X.env:=by rfl)(hline:(apos.endLine==cpos.line)=true:=by rfl):PE X (.Call (.Attribute o "values" apos) [] [] cpos) (adK to):=by
 intro pins s σ H Q I h;refine wpAny_Call_method0_late hbase hline (thn (ho pins s σ H _ I h) λ v s1 hq85=>?_);obtain⟨x,H1,I1,r1,a,kvs,ex,hr,q⟩:=hq85;subst ex;cases r1;obtain⟨hsz,hsys,vs,rel,oo,es,ep,hd⟩:=hr.ok I1.hok;have dd:s1.heap.DictOf (bu X.prog X.w) a vs:=⟨oo,es,ep,hd⟩;have hnd:∀ b,Value.ref a=.ref b->∃ ob,s1.heap.get? b=some ob/\ob.dict=none:=λ b e=>by
  cases e;exact⟨oo,hd.1,hd.2.1.2.1⟩
 refine⟨"dict", "dict.values",PySem.F.plainAttrs_dict,PySem.F.slot_dict_values,PySem.F.type_dict_values,dd.typeIs,hnd,Calls.callWith_builtin rfl (PySem.evalArgs_none ?_)⟩;refine call_meetsIn PySem.F.slot_dict_values dd.typeIs PySem.F.entry_dict_values (PySem.F.args_dict_values_1 _) (meets_dict_values (bu X.prog X.w) a hsys) ⟨⟨vs,dd⟩,?_⟩;have hv:(s1.heap.push {cls:=.type "dict_values",data:=.fields #[.ref a]}).get? s1.heap.objs.size=some {cls:=.type "dict_values",data:=.fields #[.ref a]}:=Heap.get?_push_size _ rfl;refine⟨.ref _,_,I1.laid (a:=s1.heap.objs.size) (o:=.ext λ h=>h.IsValuesView s1.heap.objs.size a) (t':=s1.toks) (λ b ob e=>Heap.get?_push_of_some _ e) (Nat.le_refl _) ⟨⟨_,hv,rfl,rfl⟩,⟨_,hv⟩,λ h1 h2 ⟨ob,e1,e2⟩ k=>⟨ob,k ob e1,e2⟩⟩,rfl,q _ (I1.hok.fresh (Nat.le_refl _))⟩
theorem gz:∀ {ns:List Int} {kvs:List (Key×V)} {vs:List (Key×Value)} {us:List Value},KV kvs vs->kvs.map (·.2)=ns.map V.int->us.length=vs.length->(∀ (i:Nat) v,us[i]? =some v->∃ k,vs[i]? =some (k,v))->IntsAre us ns
 | [],kvs,vs,us,r,h,hl,hp=>by
  have e:kvs=[]:=by simpa using h
  subst e;cases r;have e:us=[]:=by simpa using hl
  subst e;exact .nil
 | n::ns,kvs,vs,us,r,h,hl,hp=>by
  match kvs,us,r,h,hl,hp with
  | (k,x)::kvs,u::us,.cons (b:=b) r1 r2,h,hl,hp =>
   simp only[List.map_cons,List.cons.injEq] at h;obtain⟨k',e⟩:=hp 0 u rfl;simp at e;have hx:=r1.2;rw[h.1,e] at hx;obtain⟨t,et⟩:=(show ∃ t,u=Value.int n t from hx);subst et;exact .cons n t (gz r2 h.2 (by simpa using hl) λ i v hi=>by simpa using hp (i+1) v (by simpa using hi))
  | [],_,r,h,_,_=>simp at h
  | _::_,[],.cons _ _,_,hl,_=>simp at hl
theorem jh:∀ {ns:List Int} {us:List Value},IntsAre us ns->Vals (ns.map V.int) us
 | _,_,.nil=>.nil
 | _,_,.cons n t h=>.cons ⟨t,rfl⟩ (jh h)
def ad8(to:TE):TE:=λ σ H Q=>adK to σ H λ x H2=>∃ v a kvs,∃ ns:List Int,x=.ref v/\H2 v=some (.ext λ h=>h.IsValuesView v a)/\Rd H2 a (.dK kvs)/\kvs.map (·.2)=ns.map V.int/\ns.length<64 /\
 ∀ ns':List Int,ns'.Perm ns->(ns'.Pairwise (· >= ·))->∀ l,H2 l=none->Q (.ref l) (upd H2 l (.lst (ns'.map V.int)))
theorem wV(hc:X.calm=true)(hg:Gl X "sorted")(hm:X.mg "sorted" = none)(ho:PE X o to)(hbase:attributeBase o "values" X.env (eval o X.env)=eval o X.env:=by rfl)(hline:(apos.endLine==cpos.line)=true:=by rfl) :
  PE X (.Call (.Name "sorted" p) [.Call (.Attribute o "values" apos) [] [] cpos] [⟨some "reverse",.Constant (.bool true) j kp,kpos⟩] pos) (ad8 to):=by
 intro pins s σ H Q I h;have pa:PA X [.Call (.Attribute o "values" apos) [] [] cpos] (qC (adK to) abH):=iG (adA ho hbase hline) mX;have pk:PK X [⟨some "reverse",.Constant (.bool true) j kp,kpos⟩] (qC (tC (.bl true)) abH):=rX ac3 wC;refine wpAny_Call_Name_kw (g6 I hg hm iN (callWith_kw ?_));refine thn (pa pos pins s σ H (λ vs H2=>match vs with
  | [x]=>∃ v a kvs,∃ ns:List Int,x=.ref v/\H2 v=some (.ext λ h=>h.IsValuesView v a)/\Rd H2 a (.dK kvs)/\kvs.map (·.2)=ns.map V.int/\ns.length<64/\∀ ns':List Int,ns'.Perm ns->(ns'.Pairwise (· >= ·))->∀ l,H2 l=none->Q (.ref l) (upd H2 l (.lst (ns'.map V.int)))
  | _=>False) I h) λ us s1 ⟨vs,H2,I1,r1,hx⟩=>?_
 match vs,r1,hx with
 | [x],r1,⟨v,a,kvs,ns,ex,hv,hr,hk,h64,q⟩ =>
  subst ex;obtain⟨u,rfl,ru⟩:=vals1 r1;cases ru;refine thn (pk pos pins s1 σ H2 (λ ks H3=>ks=[.bl true]/\H3=H2) I1 ⟨rfl,rfl⟩) λ kus s2 hq86=>?_;obtain⟨ks,H3,I2,r2,ek,eH⟩:=hq86;subst ek eH;obtain⟨ku,rfl,rk⟩:=vals1 r2;cases (show ku=Value.bool true from rk);show wpAny _ _ (call (.builtin "sorted") [.ref v] [(Str.ofString "reverse",.bool true)]) _ _ s2;refine call_function_entry_kw kind_sorted plain_sorted entry_sorted (args_sorted_rev _ _) ?_;obtain⟨hsz,hsys,vs',rel,oo,es,ep,hd⟩:=hr.ok I2.hok;obtain⟨hview,_⟩:=(show cV X.prog X.w H3 s2.heap v (.ext λ h=>h.IsValuesView v a) from I2.hok v _ hv);have hln:vs'.length=ns.length:=by have h1:=rel.length;have h2:=congrArg List.length hk;rw[List.length_map,List.length_map] at h2;omega
  have at1:∀ (h':Heap) (l:List Value),(h'.push (seqObj "list" l.toArray 0)).get? h'.objs.size=some (seqObj "list" l.toArray 0):=λ h' l=>Heap.get?_push_size _ rfl;unfold Builtin.«sorted»;refine wpAny_bind (m:=checkCount "sorted" 1 1 _) (wpAny_pure (wpAny_bind (W.kdu_collect (A:=X.A.in1) (W.kdl_values (knd:=bu X.prog X.w) (r:=v) (d:=a) (kvs:=vs') (ep:=ep)) (I.ok.hd hc) ⟨hview,⟨oo,es,hd⟩⟩ (by rw[sizeLine_eq];omega) λ h' tk acc old hacc=>?_)));have hla:acc.toList.length=vs'.length:=by rw[Array.length_toList];exact hacc.1
  have hI:IntsAre acc.toList ns:=gz rel hk hla λ i w hi=>hacc.2 i w (by rw[<- Array.getElem?_toList];exact hi);refine wpAny_bind (wpAny_newList ?_ (by rw[hla,sizeLine_eq];omega));refine wpAny_bind (wpAny_holding (wpAny_call_entry_kw slot_list_sort ⟨_,at1 h' acc.toList,rfl⟩ entry_list_sort (list_sort_tree_rev (s:={s2 with heap:=h'.push (seqObj "list" acc.toList.toArray 0),toks:=tk}) (at1 h' acc.toList) hI (by omega) λ out ns' a1 a2 a3=>⟨_,rfl,wpAny_pure ⟨_,rfl,?_⟩⟩) (args_list_sort_rev _ _)));obtain⟨n,e⟩:=sortedHeap_at (h:=h'.push (seqObj "list" acc.toList.toArray 0)) (vs:=acc.toList) (out:=out) (at1 h' acc.toList);have hge:s2.heap.get? h'.objs.size=none:=by
   cases q1:s2.heap.get? h'.objs.size with
   | none=>rfl
   | some ob =>
    have:=Heap.lt_size (old _ _ q1);exact absurd this (Nat.lt_irrefl _)
  have keep:∀ b ob,s2.heap.get? b=some ob->(sortedHeap (h'.push (seqObj "list" acc.toList.toArray 0)) h'.objs.size acc.toList out).get? b=some ob:=λ b ob eb=>by have l1:b<h'.objs.size:=Heap.lt_size (old b ob eb);rw[sortedHeap_old (Nat.ne_of_lt l1) (by rw[size_push'];exact Nat.lt_succ_of_lt l1),Heap.get?_push_of_some _ (old b ob eb)]
  have I':Inv X pins σ (upd H3 h'.objs.size (.lst (ns'.map V.int))) {s2 with heap:=sortedHeap (h'.push (seqObj "list" acc.toList.toArray 0)) h'.objs.size acc.toList out,toks:=tk}:=by refine Inv.ae5 I2 keep hge ⟨?_,out.toList,n,jh a1,by rw[Array.toArray_toList];exact e⟩;rw[List.length_map,a2.length_eq];have:=s16;omega
  exact⟨.ref _,_,I',rfl,q ns' a2 (by unfold Ordered at a3;rw[if_pos rfl] at a3;exact a3) _ (rQ I2.hok hge)⟩
 | [],_,hx=>exact hx.elim
 | _::_::_,_,hx=>exact hx.elim
def gi(ns:List Int):List W:=ns.map λ n=>.d (.int n)
def wO(td:TD)(τ:DS)(M:MH)(Q:QD):Prop:=td τ M λ w M1=>∃ a kvs,∃ ns:List Int,w=.m a/\M1 a=some (.dic kvs)/\kvs.map (·.2)=gi ns/\ns.length<64/\∀ ns':List Int,ns'.Perm ns->(ns'.Pairwise (· >= ·))->∀ l,M1 l=none->Q (.m l) (bY M1 l (.lst (gi ns')))
theorem xq{K:FG}{H:Hp}:∀ {ns:List Int} {kvs:List (Key×W)} {l:List (Key×V)},kvs.map (·.2)=gi ns->Paired (λ(p:Key×W) (q:Key×V)=>p.1=q.1/\aO K H p.2 q.2) kvs l->l.map (·.2)=ns.map V.int
 | [],kvs,l,h,pr=>by
  have e:kvs=[]:=by simpa [gi] using h
  subst e;cases pr;rfl
 | n::ns,kvs,l,h,pr=>by
  match kvs,pr,h with
  | (k,x)::kvs,.cons r t,h =>
   simp only[gi,List.map_cons,List.cons.injEq] at h;have hx:=r.2;rw[h.1] at hx;simp only[aO,aG] at hx;rw[List.map_cons,hx,xq h.2 t];rfl
  | [],_,h=>simp[gi] at h
theorem kI{K:FG}{H:Hp}:∀ (ns:List Int),bB K H (gi ns) (ns.map V.int)
 | []=>.nil
 | n::ns=>.cons (by simp[aO,aG]) (kI ns)
theorem xO(hN:X.N.Nodup)(hi:X.N[i]? =some x)(hx:Loc X.env.scope x)(he:Jd (PD X e te))(hp:PIp X op (ipI f))(hf:X.fn x=true\/X.env.scope.names.lookup x=some .local:=by first | exact .inl rfl | exact .inr rfl | assumption) :
  Jd (PSd X (.AugAssign (.Name x pos') op e pos) (agg i te f)):=⟨have he:=he.h;u7 (agK hN hi hx he hp hf) λ D σ H hq79=>by
 obtain⟨τ,M,Dd,A,⟨a,ea,h⟩,k1,_⟩:=hq79;obtain⟨v,ev,rv⟩:=A.val i _ ea;simp only[aO,aG] at rv;subst rv;refine⟨_,ev,τ,M,_,A,h,λ u H1 w M1 kp r m hq80=>?_⟩;obtain⟨b,eb,q⟩:=hq80;subst eb;simp only[aO,aG] at r;subst r;exact⟨a,b,rfl,rfl,k1 _ H1 _ M1 kp ((A.go kp m).set i (w:=.d (.int (f a b))) (by simp[aO,aG])) q⟩⟩
theorem qa(hg:Gl X "range")(hm:X.mg "range" = none)(ha:Jd (PAd X [a,b,c] t))(h1:gh a=false:=by rfl)(h2:([b,c].all λ e=>!gh e)=true:=by rfl):Jd (PId X tg (.Call (.Name "range" p) [a,b,c] [] pos) (agL t)):=⟨have ha:=ha.h;
 acX (wF hg hm ha (cR a [b,c] X.env h1) (dh pos X.env [b,c] h2)) λ σ H R ⟨τ,M,Rd,A,h,k⟩=>⟨τ,M,_,A,h,λ vs H1 ws M1 kp r m hq81=>by
  obtain⟨n,e,q1,q2,q⟩:=hq81;subst e;obtain⟨v1,v2,v3,e1,r1,r2,r3⟩:∃ v1 v2 v3,vs=[v1,v2,v3]/\aO X.K H1 (.d (.int n)) v1/\aO X.K H1 (.d (.int 0)) v2/\aO X.K H1 (.d (.int (-1))) v3:=by
   cases r with
   | cons r1 rr =>
    cases rr with
    | cons r2 rr =>
     cases rr with
     | cons r3 rr =>
      cases rr;exact⟨_,_,_,rfl,r1,r2,r3⟩
  simp only[aO,aG] at r1 r2 r3;subst r1 r2 r3;refine⟨n,e1,q1,q2,k _ H1 _ M1 kp m (λ H2 kp2 i=>?_) q⟩;have hl:(qV n).length=n.toNat:=by simp[qV]
  refine⟨λ hi=>by rw[hl] at hi;exact hi,λ hi=>by rw[hl] at hi;exact hi,λ x H' hi hq82=>?_⟩;obtain⟨eH,ex⟩:=hq82;subst ex eH;rw[hl] at hi;refine⟨Kp.refl _,λ M m=>m,.d (.int (n-(i:Nat))),by simp[qV,hi],?_⟩;simp only[aO,aG];congr 1;omega⟩⟩
theorem adp(hc:X.calm=true)(L:qj X sc own fr)(hi:Jd (PId X tg iter di))
  (hg:∀ cl C s H ex pl,Jd (PGd (blk X sc (lcN X own fr) cl C s H ex pl) tg g))(ht:∀ cl C s H ex pl,Jd (vK (blk X sc (lcN X own fr) cl C s H ex pl) ifs tt))(he:∀ cl C s H ex pl,Jd (PD (blk X sc (lcN X own fr) cl C s H ex pl) elt te))
  (hs:∀ x,foldedSetIterable iter X.env x=pure x:=by intro _;rfl):Jd (PD X (.ListComp elt [⟨tg,iter,ifs,0⟩] sc pos) (ahq di g tt te own.length fr)):=
 ⟨D.ado hc L hi.h (λ cl C s H ex pl=>(hg cl C s H ex pl).h) (λ cl C s H ex pl=>(ht cl C s H ex pl).h) (λ cl C s H ex pl=>(he cl C s H ex pl).h) hs⟩
theorem vt(hc:X.calm=true)(hg:Gl X "sorted")(hm:X.mg "sorted" = none)(ho:Jd (PD X o td))(hbase:attributeBase o "values" X.env (eval o X.env)=eval o X.env:=by rfl)(hline:(apos.endLine==cpos.line)=true:=by rfl) :
  Jd (PD X (.Call (.Name "sorted" p) [.Call (.Attribute o "values" apos) [] [] cpos] [⟨some "reverse",.Constant (.bool true) j kp,kpos⟩] pos) (wO td)):=⟨have ho:=ho.h;iA (wV hc hg hm ho hbase hline) λ σ H Q hq87=>by
 obtain⟨τ,M,Qd,A,h,k⟩:=hq87;refine⟨τ,M,_,A,h,λ x H1 w M1 kp1 r1 m1 hq88=>?_⟩;obtain⟨a,kvs,ns,ew,hmm,hk,h64,q⟩:=hq88;subst ew;obtain⟨l,e,pr⟩:=m1 _ _ hmm;refine⟨a,l,r1,.inl e,λ v hv=>?_⟩;have na:a≠v:=λ z=>by rw[z,hv] at e;cases e
 refine⟨v,a,l,ns,rfl,ar,.inl (by rw[ao na];exact e),xq hk pr,h64,λ ns' h1 h2 c hcc=>?_⟩;have kp2:Kp H1 (upd H1 v (.ext λ h=>h.IsValuesView v a)):=Kp.new hv;have m2:=m1.new (o:=.ext λ h=>h.IsValuesView v a) hv;have kp3:Kp (upd H1 v (.ext λ h=>h.IsValuesView v a)) (upd (upd H1 v (.ext λ h=>h.IsValuesView v a)) c (.lst (ns'.map V.int))):=Kp.new hcc;exact kgo k kp1 _ _ (.m c) _ (kp2.trans kp3) rfl (m2.put (mo:=.lst (gi ns')) kp3 ⟨_,ar,kI ns'⟩) (q ns' h1 h2 c (m2.free hcc))⟩
theorem lK(hg:Gl X "enumerate")(hm:X.mg "enumerate" = none)(ha:Jd (PAd X [a] t))(h1:gh a=false:=by rfl):Jd (PId X (.Tuple elts x1 tpos) (.Call (.Name "enumerate" p) [a] [] pos) (aaA t)):=⟨have ha:=ha.h;acX (adU hg hm ha (by rw[cR a [] X.env h1];rfl)) λ σ H R hq76=>by
 obtain⟨τ,M,Rd,A,h,k⟩:=hq76;refine⟨τ,M,_,A,h,λ vs H1 ws M1 kp r m hq77=>?_⟩;obtain⟨ds,ew,q⟩:=hq77;subst ew;obtain⟨v,ev,r1⟩:=eU r;simp only[aO,aG] at r1;obtain⟨b,xs,e1,hs,ra⟩:=r1;subst ev e1;have hl:=ra.length;refine⟨b,xs,rfl,hs.sq,k _ H1 _ M1 kp m (λ H2 kp2 i=>?_) q⟩;have hs2:=(hs.keep kp2).sq;have hlw:(iD ds).length=xs.length:=by simp[iD,hl]
 refine⟨λ hi=>⟨xs,xs[i]'(by omega),hs2,by simp⟩,λ hi=>⟨xs,hs2,by omega⟩,λ x H' hi hq78=>?_⟩;obtain⟨T,v,hT,ex,eH,hv⟩:=hq78;subst ex eH;have hxv:=hv xs hs2;obtain⟨d,e3,rd⟩:=(ra.keep kp2).get' hxv;have kpn:Kp H2 (upd H2 T (.tup [.int i,v])):=Kp.new hT;have hid:i<ds.length:=by rw[hlw] at hi;omega
 refine⟨kpn,λ M m=>m.new hT,.d (.tuple [.int (i:Nat),ds.getD i .none]),by simp[iD,hid],?_⟩;have ed:ds.getD i .none=d:=by simp[List.getD,e3]
 rw[ed];simp only[aO,aG,bt];exact⟨T,_,rfl,.inl (.inl ar),_,_,rfl,rfl,_,_,rfl,rd.keep kpn,rfl⟩⟩
structure aiJ(K:FG)(x qual:Str)(st:Stmt)(f:Addr)(fd:FuncData):Prop where
 ex:∃ (oc:Value) (od:Option Addr) (dV kV doc pm:Value) (an:Option Addr) (cdv ct:Value) (osl:Array (Option Value)),
  fd=W.fnOf x qual (bH st) (bj st) (aj st) dV kV doc pm an cdv ct/\K.lookup f=some ⟨oc,od,.func fd,osl⟩/\W.codeIn K cdv qual=true
 kp:W.keepIn K (.ref f)=true
structure FnD(K:FG)(mg:Str->Option Value)(x:Str)(st:Stmt)(ps:List Str)(d:Int)(f:Addr)(fd:FuncData):Prop where
 fn:aiJ K x x st f fd
 mg:mg x=some (.ref f)
 bd:∃ t,Binds K fd ps [.int d t]
section
variable {P:Program}{w:World}{K:FG}{mg:Str->Option Value}{base h:Heap}
theorem agD{st:Stmt}{ps:List Str}{d:Int}{f T:Addr}{oc oc2:Value}{od od2 an:Option Addr}{osl osl2:Array (Option Value)}{kV doc pm cdv ct:Value}{tk:Tok}{n:Nat}(X:K.In h)(G:h.Ns mainGlobals mg)(a:W.nsIn K mainGlobals x=some (some (.ref f)))
  (l:K.lookup f=some ⟨oc,od,.func (W.fnOf x x (bH st) (bj st) (aj st) (.ref T) kV doc pm an cdv ct),osl⟩)(c:W.codeIn K cdv x=true)(k:W.keepIn K (.ref f)=true)
  (lt:K.lookup T=some ⟨oc2,od2,.seq #[.int d tk] n,osl2⟩)
  (b:∀ (us:List Value),us.length+1=ps.length->∃ kk:Option (Array Value)->Sem (List (Str×Value)),bindArgs (W.fnOf x x (bH st) (bj st) (aj st) (.ref T) kV doc pm an cdv ct) ⟨us,[]⟩=seqItems? (.ref T) >>= kk/\kk (some #[.int d tk])=pure (ps.zip (us++[.int d tk]))) :
  FnD K mg x st ps d f (W.fnOf x x (bH st) (bj st) (aj st) (.ref T) kV doc pm an cdv ct):=
 ⟨⟨⟨oc,od,.ref T,kV,doc,pm,an,cdv,ct,osl,rfl,l,c⟩,k⟩,W.mg_of X G a,tk,λ s us hK hl=>by obtain⟨kk,h1,h2⟩:=b us (by simpa using hl);exact BindsTo.of_defaults rfl (hK T _ lt) rfl h1 h2⟩
end
theorem Inv.xx{t':Nat}{ch:List Addr}(I:Inv X pins σ H s)(k:∀ b o,b ∉ ch->s.heap.get? b=some o->h'.get? b=some o)(f:∀ b∈ch,jg X pins H b):Inv X pins σ H {s with heap:=h',toks:=t'}:=by
 have nin:∀ b u,H b=some u->b ∉ ch:=λ b u q z=>by rw[(f b z).1] at q;cases q
 refine I.step (g':=s.gens) (d':=s.drawn) (ch:=ch) (λ b hb=>?_) (λ b o _ _ hc q _=>k b o hc q) (λ b o _ _ hc q _=>⟨o.slots,k b o hc q⟩) (λ _ _ _ _ n=>n)
  (λ b o hc q=>⟨o,k b o hc q⟩) (λ _ _ q=>q) (λ _ _ _ q=>q) (λ b ps q=>⟨#[],by rw[q];simp⟩) (λ m hm=>?_) (λ b u q=>?_) I.bare
 ·obtain⟨f0,f1,f2,f3,f4,f5⟩:=f b hb;exact⟨f3,f1,f4,f5⟩
 ·obtain⟨o,es,ep,ho,r⟩:=hm;exact⟨o,es,ep,k _ o (λ z=>(f _ z).2.1 rfl) ho,r⟩
 ·refine(I.hok b u q).oO (λ c v hc z=>k c v ?_ z) (λ _ z=>z) λ _ _ z=>z;rcases hc with z | z
  ·rw[z];exact nin b u q
  ·exact nin c _ z
def Itz(K:FG)(a b:Addr):It:=
 ⟨λ i H=>∃ xs ys x y,SqL K H a xs/\SqL K H b ys/\xs[i]? =some x/\ys[i]? =some y,
  λ i H x H'=>∃ T u v,H T=none/\x=.ref T/\H'=upd H T (.tup [u,v])/\(∀ xs,SqL K H a xs->xs[i]? =some u)/\∀ ys,SqL K H b ys->ys[i]? =some v,
  λ i H=>∃ xs ys,SqL K H a xs/\SqL K H b ys/\(xs.length<=i\/ys.length<=i)⟩
theorem zy{P:Program}{w:World}{K:FG}{elts:List Expr}{x1:Nat}{tpos:Pos}{z TI TO i1 i2 a b:Addr}(Dz:ZipApart z TI TO i1 i2 a b) :
  Turn P w K (.Tuple elts x1 tpos) (Itz K a b) [z,TI,TO,i1,i2] z (λ i h=>IsZip h z TI TO .none/\IsPair h TI (.ref i1) (.ref i2)/\(∃ u v,IsPair h TO u v)/\h.IsListIter i1 a i/\h.IsListIter i2 b i) where
 mem:=by simp
 obj:=λ i h ⟨hz,hTI,⟨u,v,hTO⟩,⟨o1,e1,c1,d1⟩,⟨o2,e2,c2,d2⟩⟩ c hc=>by
  have q:c=z\/c=TI\/c=TO\/c=i1\/c=i2:=by simpa using hc
  rcases q with rfl | rfl | rfl | rfl | rfl
  ·exact⟨_,hz,λ v q=>by cases q⟩
  ·exact⟨_,hTI,λ v q=>by cases q⟩
  ·exact⟨_,hTO,λ v q=>by cases q⟩
  ·exact⟨o1,e1,λ v q=>by rw[d1] at q;cases q⟩
  ·exact⟨o2,e2,λ v q=>by rw[d2] at q;cases q⟩
 keep:=λ i h h' ⟨hz,hTI,⟨u,v,hTO⟩,l1,l2⟩ k=>⟨k z (by simp) _ hz,k TI (by simp) _ hTI,⟨u,v,k TO (by simp) _ hTO⟩,l1.at λ o q=>k i1 (by simp) o q,l2.at λ o q=>k i2 (by simp) o q⟩
 item:=by
  intro X hP hw hK hc i pins s σ H E I hf ⟨hz,hTI,⟨u0,v0,hTO⟩,l1,l2⟩ ⟨xs,ys,x,y,hq1,hq2,hx,hy⟩;subst hP hw hK;obtain⟨its1,rv1,p1,hz1⟩:=I.list hq1;obtain⟨its2,rv2,p2,hz2⟩:=I.list hq2;obtain⟨u,hu,ru⟩:=rv1.get hx;obtain⟨v,hv,rv⟩:=rv2.get hy;refine wpAny_pyNext_zip_item Dz hz hTI hTO l1 l2 p1.isList p2.isList (x:=u) (y:=v) (by simpa using hu) (by simpa using hv) λ h' hz' hTO' l1' l2' hT hsz kp=>?_;refine⟨_,rfl,wpAny_letOwnedTupleGo_zip hz' λ h'' hz'' sb=>?_⟩;obtain⟨t0,t1,t2,t3,t4,t5⟩:=I.oz (Nat.le_refl _) (I.hok.fresh (Nat.le_refl _));have nT:s.heap.objs.size≠z:=Nat.ne_of_gt (Heap.lt_size hz);have nTO:s.heap.objs.size≠TO:=Nat.ne_of_gt (Heap.lt_size hTO);have n1:s.heap.objs.size≠i1:=by obtain⟨o,e,_⟩:=l1;exact Nat.ne_of_gt (Heap.lt_size e)
  have n2:s.heap.objs.size≠i2:=by obtain⟨o,e,_⟩:=l2;exact Nat.ne_of_gt (Heap.lt_size e)
  have nTI:s.heap.objs.size≠TI:=Nat.ne_of_gt (Heap.lt_size hTI);have I1:Inv X pins σ H {s with heap:=h'',toks:=s.toks}:=Inv.xx (ch:=[z,TI,TO,i1,i2]) I (λ c ob hc q=>by simp only[List.mem_cons,List.not_mem_nil,or_false,not_or] at hc;exact(sb.2 c hc.1).trans (kp c ob hc.1 hc.2.2.1 hc.2.2.2.1 hc.2.2.2.2 q)) hf
  have eT:h''.get? s.heap.objs.size=some {cls:=.type "tuple",data:=.seq #[u,v]}:=(sb.2 _ nT).trans hT;have I2:=Inv.xg (us:=[u,v]) (ys:=[x,y]) I1 eT t0 (.cons ru (.cons rv .nil)) (by simp;have:=s16;omega) t3 t1 t4 t5;refine⟨.ref s.heap.objs.size,_,I2,rfl,⟨_,x,y,t0,rfl,rfl,λ zs hz=>by rw[I.ki hz hq1];exact hx,λ zs hz=>by rw[I.ki hz hq2];exact hy⟩,⟨hz'',?_,⟨u,v,?_⟩,?_,?_⟩,λ c hc=>?_⟩
  ·exact(sb.2 _ Dz.TIz).trans (kp TI _ Dz.TIz Dz.TITO Dz.TIi1 Dz.TIi2 hTI)
  ·exact(sb.2 _ Dz.TOz).trans hTO'
  ·exact l1'.at λ o q=>(sb.2 i1 Dz.i1z).trans q
  ·exact l2'.at λ o q=>(sb.2 i2 Dz.i2z).trans q
  ·have q:c=z\/c=TI\/c=TO\/c=i1\/c=i2:=by simpa using hc
   have hn:c≠s.heap.objs.size:=by rcases q with rfl | rfl | rfl | rfl | rfl<;>(intro e;first | exact nT e.symm | exact nTI e.symm | exact nTO e.symm | exact n1 e.symm | exact n2 e.symm)
   rw[ao hn];exact(hf c hc).1
 done:=by
  intro X hP hw hK hc i pins s σ H E I hf ⟨hz,hTI,⟨u0,v0,hTO⟩,l1,l2⟩ ⟨xs,ys,hq1,hq2,hx⟩;subst hP hw hK;obtain⟨its1,rv1,p1,hz1⟩:=I.list hq1;obtain⟨its2,rv2,p2,hz2⟩:=I.list hq2;have e1:=rv1.length;have e2:=rv2.length;refine wpAny_pyNext_zip_end (I.ok.hd hc) Dz hz hTI hTO l1 l2 p1.isList p2.isList ?_ λ h' eb=>⟨rfl,Inv.xx (t':=s.toks) (ch:=[z,TI,TO,i1,i2]) I (λ c ob hc q=>by simp only[List.mem_cons,List.not_mem_nil,or_false,not_or] at hc;exact eb c ob hc.1 hc.2.2.1 hc.2.2.2.1 hc.2.2.2.2 q) hf⟩
  rcases hx with hx | hx
  ·exact .inl (by simp;omega)
  ·exact .inr (by simp;omega)
 self:=λ _ _ _ _ _ ⟨hz,_⟩ h=>wpAny_pyIter_zip hz h
theorem afI:bootBuiltins "zip" = some (.type "zip"):=by decide +kernel
def ajf(K:FG)(ta:TA):TI:=λ σ H R=>ta σ H λ vs H1=>∃ c d xs ys,vs=[.ref c,.ref d]/\SqL K H1 c xs/\SqL K H1 d ys/\R (Itz K c d) H1
theorem aeN{elts:List Expr}{x1:Nat}{tpos:Pos}(hg:Gl X "zip")(hm:X.mg "zip" = none)(ha:PA X [a,b] ta)(hs:starEach [a,b] X.env=(false,eval a X.env)::starEach [b] X.env:=by rfl)(hpl:(backTo pos (starEach [b] X.env)).any (·.1)=false:=by rfl) :
  PI X (.Tuple elts x1 tpos) (.Call (.Name "zip" p) [a,b] [] pos) (ajf X.K ta):=by
 intro pins s σ H R I h;refine Call_ (g6 I hg hm afI (PyProof.Rows.callWith_type1 (thn (ha pos pins s σ H _ I h) λ us s1 ⟨vs,H1,I1,r1,q1⟩=>?_) hs hpl));obtain⟨c,d,xs,ys,e,hq1,hq2,q⟩:=q1;subst e;cases r1 with
 | cons r rr =>
  cases rr with
  | cons r' rr =>
   cases rr;cases (show _=Value.ref c from r);cases (show _=Value.ref d from r');obtain⟨its1,rv1,pl1,hz1⟩:=I1.list hq1;obtain⟨its2,rv2,pl2,hz2⟩:=I1.list hq2;have a1:c<s1.heap.objs.size:=by obtain⟨_,e,_⟩:=pl1.isList;exact Heap.lt_size e
   have a2:d<s1.heap.objs.size:=by obtain⟨_,e,_⟩:=pl2.isList;exact Heap.lt_size e
   refine call_zip_2 pl1.isList pl2.isList λ h' hz hTI hTO hi1 hi2 hsz kp=>?_;have I2:Inv X pins σ H1 {s1 with heap:=h'}:=I1.kept (t':=s1.toks) kp;refine wpAny_pyIter_zip hz ?_;refine⟨_,[_,_,_,_,_],_,_,H1,rfl,I2,zy (zipApart_new a1 a2),⟨hz,hTI,⟨_,_,hTO⟩,hi1,hi2⟩,λ e he=>?_,q⟩;have z:s1.heap.objs.size<=e:=by
    have z:e=s1.heap.objs.size+4\/e=s1.heap.objs.size+2\/e=s1.heap.objs.size+3\/e=s1.heap.objs.size\/e=s1.heap.objs.size+1:=by simpa using he
    rcases z with z | z | z | z | z<;>rw[z]<;>first | exact Nat.le_refl _ | exact Nat.le_add_right _ _
   exact I1.oz z (I1.hok.fresh z)
def abU(ds es:List PyData):List W:=(List.range (min ds.length es.length)).map λ i=>.d (.tuple [ds.getD i .none,es.getD i .none])
def ai1(t:TAd)(τ:DS)(M:MH)(R:List W->MH->Prop):Prop:=t τ M λ ws M1=>∃ ds es,ws=[.d (.list ds),.d (.list es)]/\R (abU ds es) M1
end D
open L2 D
theorem aai(hg:Gl X "zip")(hm:X.mg "zip" = none)(ha:Jd (PAd X [a,b] t))(h1:gh a=false:=by rfl)(h2:([b].all λ e=>!gh e)=true:=by rfl):Jd (PId X (.Tuple elts x1 tpos) (.Call (.Name "zip" p) [a,b] [] pos) (ai1 t)):=⟨have ha:=ha.h;acX (aeN hg hm ha (cR a [b] X.env h1) (dh pos X.env [b] h2)) λ σ H R hq89=>by
 obtain⟨τ,M,Rd,A,h,k⟩:=hq89;refine⟨τ,M,_,A,h,λ vs H1 ws M1 kp r m hq90=>?_⟩;obtain⟨ds,es,ew,q⟩:=hq90;subst ew;obtain⟨v,v',ev,r1,r2⟩:=tS r;simp only[aO,aG] at r1 r2;obtain⟨c,xs,e1,hs,ra⟩:=r1;obtain⟨d,ys,e2,hs',ra'⟩:=r2;subst e1 e2;have hl:=ra.length;have hl':=ra'.length;refine⟨c,d,xs,ys,ev,hs.sq,hs'.sq,k _ H1 _ M1 kp m (λ H2 kp2 i=>?_) q⟩;have hs2:=(hs.keep kp2).sq;have hs2':=(hs'.keep kp2).sq;have hlw:(abU ds es).length=min xs.length ys.length:=by simp[abU,hl,hl']
 refine⟨λ hi=>⟨xs,ys,xs[i]'(by omega),ys[i]'(by omega),hs2,hs2',by simp,by simp⟩,λ hi=>⟨xs,ys,hs2,hs2',by omega⟩,λ x H' hi hq91=>?_⟩;obtain⟨T,u,v,hT,ex,eH,hu,hv⟩:=hq91;subst ex eH;have hxu:=hu xs hs2;have hxv:=hv ys hs2';obtain⟨d1,e3,rd⟩:=(ra.keep kp2).get' hxu;obtain⟨d2,e4,rd'⟩:=(ra'.keep kp2).get' hxv;have kpn:Kp H2 (upd H2 T (.tup [u,v])):=Kp.new hT;have hid:i<min ds.length es.length:=by rw[hlw] at hi;omega
 refine⟨kpn,λ M m=>m.new hT,.d (.tuple [ds.getD i .none,es.getD i .none]),by unfold abU;rw[List.getElem?_map,List.getElem?_range hid];rfl,?_⟩;have ed:ds.getD i .none=d1:=by simp[List.getD,e3]
 have ed':es.getD i .none=d2:=by simp[List.getD,e4]
 rw[ed,ed'];simp only[aO,aG,bt];exact⟨T,_,rfl,.inl (.inl ar),_,_,rfl,rd.keep kpn,_,_,rfl,rd'.keep kpn,rfl⟩⟩
namespace Stc
open L2 D Rc
abbrev ng:List Str:=["_law_bag_here", "_law_most", "_law_top", "_law_many", "_law_word"]
def mR(av:SpD):TSd:=
  bp (cB (bf av (ae (ai 0) (ae (dOp dq (ai 1) (dC (.d (.int 1)))) (aB)))) (gN 3)) <|
  bp (cB (dOp cY (gW (ae (dC (.d (.str "m"))) (ae (dC (.d (.str "ab"))) (ae (dC (.d (.str "zz"))) (aB))))) (bf av (ae (ai 0) (ae (dC (.d (.int 3))) (aB))))) (gN 4)) <|
  de (dLC (nE (ae (ai 3) (aB))) (gN 0) (rm) (dF (ae (dOp dq (ai 1) (dOp abe (dOp cY (dC (.d (.str "abcdefgh"))) (ai 0)) (dOp dq (dC (.d (.int 1))) (dOp eV (ai 0) (dC (.d (.int 2))))))) (ae (bf av (ae (ai 2) (ae (dOp dq (ai 3) (dC (.d (.int 1)))) (aB)))) (aB)))) 1 [4,0,2])
abbrev pZ:List Str:=["_law_bag_here", "_law_most", "_law_top", "_law_many", "_law_turn", "_law_kinds", "_law_found", "_law_k", "_law_name"]
def qM(av:SpD):TSd:=
  bp (cB (bf av (ae (ai 0) (ae (dOp dq (ai 1) (dC (.d (.int 1)))) (aB)))) (gN 3)) <|
  bp (cB (bf av (ae (ai 0) (ae (dC (.d (.int 8))) (aB)))) (gN 4)) <|
  bp (cB (dSl (gW (ae (dC (.d (.str "front"))) (ae (dC (.d (.str "ma"))) (ae (dC (.d (.str "side"))) (ae (dC (.d (.str "front"))) (ae (dC (.d (.str "k"))) (ae (dC (.d (.str "mbb"))) (ae (dC (.d (.str "aba"))) (ae (dC (.d (.str "back"))) (ae (dC (.d (.str "wish"))) (aB))))))))))) (aK) (bE (dOp dq (dC (.d (.int 1))) (bf av (ae (ai 0) (ae (dC (.d (.int 9))) (aB))))))) (gN 5)) <|
  bp (cB (gy (aB)) (gN 6)) <|
  bp (ou (nE (ae (ai 3) (aB))) (gN 7)
   (bp (cB (dOp cY (gW (ae (dOp dq (dC (.d (.str "w"))) (dOp cY (dC (.d (.str "hgfedcba"))) (dOp eV (dOp dq (ai 7) (ai 4)) (dC (.d (.int 8)))))) (ae (dC (.d (.str "ma"))) (aB)))) (dCB ad5 (ae (dOp ee (ai 7) (dC (.d (.int 3)))) (aB)))) (gN 8)) <|
   iu (gv (ai 6) (dF (ae (ai 8) (ae (dOp cY (ai 5) (bf av (ae (ai 0) (ae (dCB fT (ae (ai 5) (aB))) (aB))))) (ae (bf av (ae (ai 0) (ae (dOp dq (ai 2) (dC (.d (.int 1)))) (aB)))) (aB)))))))) <|
  de (ai 6)
abbrev qg:List Str:=["rooms", "demands", "demanded", "at", "many", "room"]
def pS:TSd:=
  bp (cB (dC (.d (.int 0))) (gN 2)) <|
  bp (ou (aaA (ae (lL (wO (ai 1))) (aB))) (gT 2 (bQ (gN 3) (bQ (gN 4) (jn))))
   (bp (agg 2 (ai 4) (λ i j=>i+j)) <|
   bp (cB (dCB ag7 (ae (dLC (dJ (ai 0)) (gN 0) (rm) (dCB abJ (ae (ai 0) (ae (dOp dq (ai 1) (dC (.d (.int 1)))) (aB)))) 1 [3]) (aB))) (gN 5)) <|
   dIf (aZ (dOp abV (ai 2) (ai 5)))
    (de (dF (ae (dOp dq (ai 3) (dC (.d (.int 1)))) (ae (ai 2) (ae (ai 5) (aB))))))
    (cf))) <|
  de (dC (.d .none))
abbrev kN:List Str:=["demands", "kind", "many", "more"]
def lV:TSd:=
  bp (cB (dCB ug (ae (ai 0) (aB))) (gN 3)) <|
  bp (aaP (ai 3) (ai 1) (dOp dq (aal (ai 3) (ai 1) (dC (.d (.int 0)))) (ai 2))) <|
  de (ai 3)
abbrev ia:List Str:=["rooms", "demands", "kind", "copies", "run"]
def hU(aM a6:SpD):TSd:=
  bp (ou (agL (ae (ai 3) (ae (dC (.d (.int 0))) (ae (dUn gR (dC (.d (.int 1)))) (aB))))) (gN 4)
   (dIf (aZ (dOp (pI false) (bf aM (ae (ai 0) (ae (bf a6 (ae (ai 1) (ae (ai 2) (ae (ai 4) (aB))))) (aB)))) (dC (.d .none))))
    (de (ai 4))
    (cf))) <|
  de (dC (.d (.int 0)))
abbrev qF:List Str:=["rooms", "asked", "demands", "ran", "wish", "kind", "copies", "run"]
def qO(bI a6:SpD):TSd:=
  bp (cB (n4) (gN 2)) <|
  bp (cB (gy (aB)) (gN 3)) <|
  bp (ou (dJ (ai 1)) (gT 3 (bQ (gN 4) (bQ (gN 5) (bQ (gN 6) (jn)))))
   (bp (cB (bf bI (ae (ai 0) (ae (ai 2) (ae (ai 5) (ae (ai 6) (aB)))))) (gN 7)) <|
   bp (cB (bf a6 (ae (ai 2) (ae (ai 5) (ae (ai 7) (aB))))) (gN 2)) <|
   iu (gv (ai 3) (dF (ae (ai 4) (ae (ai 5) (ae (ai 7) (aB)))))))) <|
  de (ai 3)
abbrev mr:List Str:=["berths"]
def mP:TSd:=
  de (dLC (dJ (ai 0)) (gT 2 (bQ (gN 0) (bQ (gN 1) (jn)))) (rm) (ai 1) 2 [])
def Ext(M M':MH):Prop:=∀ q o,M q=some o->M' q=some o
theorem Ext.refl(M:MH):Ext M M:=λ _ _ h=>h
theorem Ext.trans(h:Ext A B)(k:Ext B C):Ext A C:=λ q o e=>k q o (h q o e)
theorem Ext.new(h:M p=none):Ext M (bY M p o):=λ q u e=>nQ e h
theorem Ext.del(h:Ext M M')(hp:M p=none):Ext M (l9 M' p):=λ q u e=>by have hq:q≠p:=xQ e hp;simp only[l9,if_neg hq];exact h q u e
theorem Ext.upd(h:Ext M M')(hp:M p=none):Ext M (bY M' p o):=λ q u e=>by rw[aF (xQ e hp)];exact h q u e
theorem Ext.none(h:Ext M M')(hp:M' p=none):M p=none:=by
 cases e:M p with
 | none=>rfl
 | some o=>rw[h p o e] at hp;cases hp
theorem Ext.bag(h:Ext M M')(hb:Bag M p):Bag M' p:=by obtain⟨a,b,c,ns,e,z⟩:=hb;exact⟨a,b,c,ns,h _ _ e,z⟩
theorem gA{α:Type}{gt:TGd}{te:TD}{Q:List PyData->DS->MH->Prop}{τ0:DS}{M:MH}(L:List α)(g:α->W)(f:α->PyData)(S:DS->Prop)(hL:L.length<=1000)(h0:S τ0)
  (step:∀ a∈L,∀ τ,S τ->∀ R:PyData->DS->MH->Prop,(∀ τ2,S τ2->R (f a) τ2 M)->gt (g a) τ M λ τ2 M2=>te τ2 M2 λ y M4=>∃ d,y=.d d/\R d τ2 M4)
  (q:∀ τ,Q (L.map f) τ M) :
  ∃ P:Nat->List PyData->DS->MH->Prop,P 0 [] τ0 M /\
   (∀ i w acc τ M,(L.map g)[i]? =some w->P i acc τ M->acc.length<sizeLine/\gt w τ M λ τ2 M2=>rm τ2 M2 λ b M3=>if b=true then te τ2 M3 λ y M4=>∃ d,y=.d d/\P (i+1) (acc++[d]) τ2 M4 else P (i+1) acc τ2 M3) /\
   ∀ acc τ M,P (L.map g).length acc τ M->Q acc τ M:=by
 refine⟨λ i acc τ M'=>M'=M/\acc=(L.take i).map f/\S τ,⟨rfl,rfl,h0⟩,?_,?_⟩
 ·rintro i w acc τ M' hw ⟨rfl,rfl,hs⟩;rw[List.getElem?_map] at hw;cases e:L[i]? with
  | none=>rw[e] at hw;cases hw
  | some a =>
   rw[e] at hw;cases hw;have hi:=(List.getElem?_eq_some_iff.mp e).1;refine⟨by rw[List.length_map,List.length_take];have:=s16;omega,?_⟩;refine step a (List.mem_of_getElem? e) τ hs (λ d τ2 M4=>M4=M'/\(L.take i).map f++[d]=(L.take (i+1)).map f/\S τ2) λ τ2 h2=>⟨rfl,?_,h2⟩;rw[List.take_succ,e];simp
 ·rintro acc τ M' ⟨rfl,rfl,hs⟩;rw[List.length_map,List.take_length];exact q τ
abbrev Dm:=List (Str×Int)
def gI(r:Str×Int):PyData:=.int r.2
def Dc(M:MH)(a:Addr)(D:Dm):Prop:=M a=some (.dic (bA (rk Prod.fst gI D)))
def Sm(D:Dm)(c:Nat):Prop:=D.length<=c/\∀ r∈D,0<=r.2/\r.2<=6 * (c:Int)
def val(D:Dm)(k:Str):Int:=((fd Prod.fst D k).map (·.2)).getD 0
def more(D:Dm)(k:Str)(n:Int):Dm:=pt Prod.fst D (k,val D k+n)
theorem ahS(h:Sm D c)(k:Str):0<=val D k/\val D k<=6 * (c:Int):=by
 unfold val;cases e:fd Prod.fst D k with
 | none=>simp only[Option.map_none,Option.getD_none];omega
 | some r=>exact h.2 r (aa9 e).1
theorem nD(h:Sm D c)(k:Str)(n0:0<=n)(n6:n<=6):Sm (more D k n) (c+1):=by
 have hv:=ahS h k;refine⟨?_,λ r hr=>?_⟩
 ·have:=afJ (nm:=Prod.fst) D (k,val D k+n);have h1:=h.1;unfold more;omega
 ·rcases ag4 (nm:=Prod.fst) hr with e | e
  ·subst e;dsimp only;omega
  ·have:=h.2 r e;omega
def vals(D:Dm):List Int:=D.map λ r=>r.2
theorem ad4(D:Dm):(bA (rk Prod.fst gI D)).map (·.2)=gi (vals D):=by rw[aah,gi,vals,List.map_map,List.map_map];rfl
theorem abB(D:Dm):(bA (rk Prod.fst gI D)).length=D.length:=by simp[bA,rk]
def dsc(ns:List Int):List Int:=ns.mergeSort λ a b=>decide (a >= b)
theorem oe(ns:List Int):(dsc ns).Perm ns:=List.mergeSort_perm _ _
theorem uZ(ns:List Int):(dsc ns).Pairwise (· >= ·):=by have:=List.pairwise_mergeSort (le:=λ a b:Int=>decide (a >= b)) (λ a b c h1 h2=>by simp at *;omega) (λ a b=>by simp;omega) ns;exact this.imp λ h=>by simpa using h
theorem tO(p:ns'.Perm ns)(h:ns'.Pairwise (· >= ·)):ns'=dsc ns:=
 List.Perm.eq_of_pairwise (λ a b _ _ h1 h2=>by omega) h (uZ ns) (p.trans (oe ns).symm)
def room(rs:List Int)(i:Int):Int:=(rs.map λ m=>if i<m then i else m).sum
def aet(rs:List Int)(ns:List Int):Bool:=(List.range ns.length).all λ i=>decide ((ns.take (i+1)).sum<=room rs ((i:Int)+1))
def afC(rs:List Int)(D:Dm):Bool:=aet rs (dsc (vals D))
def OkR(rs:List Int):Prop:=rs.length<=8/\∀ m∈rs,0<=m/\m<=6
theorem afr{rs ns:List Int}{i:Nat}(hi:i<ns.length)(h:room rs ((i:Int)+1)<(ns.take (i+1)).sum):aet rs ns=false:=by
 unfold aet;rw[List.all_eq_false];exact⟨i,List.mem_range.mpr hi,by simp;omega⟩
theorem adm{rs ns:List Int}(h:∀ i<ns.length,(ns.take (i+1)).sum<=room rs ((i:Int)+1)):aet rs ns=true:=by
 unfold aet;rw[List.all_eq_true];exact λ i hi=>by simp;exact h i (List.mem_range.mp hi)
def gr(rs:List Int)(D:Dm)(k:Str):Nat->Int
 | 0=>0
 | n+1=>if afC rs (more D k ((n:Int)+1))=true then (n:Int)+1 else gr rs D k n
theorem aiL(rs:List Int)(D:Dm)(k:Str):∀ n,0<=gr rs D k n/\gr rs D k n<=n
 | 0=>by simp[gr]
 | n+1=>by
  have:=aiL rs D k n;unfold gr
  by_cases h:afC rs (more D k ((n:Int)+1))=true
  ·rw[if_pos h];omega
  ·rw[if_neg h];omega
def intD(ns:List Int):PyData:=.list (ns.map PyData.int)
theorem ints_map(ns:List Int):(ns.map PyData.int).map W.d=gi ns:=by rw[List.map_map];rfl
theorem sealed(hl:M l=none):Ext M (l9 (bY M l o) l):=(Ext.new hl).del hl
theorem aaK{ns:List Int}{i:Nat}{n:Int}(h:ns[i]? =some n):(ns.take (i+1)).sum=(ns.take i).sum+n:=by rw[List.take_succ,h,List.sum_append];simp
theorem adi{ns:List Int}{i:Nat}(h:(iD (ns.map PyData.int))[i]? =some w):∃ n,ns[i]? =some n/\w=.d (.tuple [.int (i:Nat),.int n]):=by
 unfold iD at h;rw[List.getElem?_map] at h;have hi:i<ns.length:=by
  by_cases q:i<ns.length
  ·exact q
  ·rw[List.getElem?_eq_none (by simpa using q)] at h;cases h
 rw[List.getElem?_range (by simpa using hi)] at h;cases h;refine⟨ns[i],List.getElem?_eq_getElem hi,?_⟩;simp[List.getD,List.getElem?_map,List.getElem?_eq_getElem hi]
def roomOf(i:Int)(m:Int):Int:=if i<m then i else m
theorem adP(rs:List Int)(i:Int):room rs i=(rs.map (roomOf i)).sum:=rfl
def qA(rs ns:List Int)(i:Nat):Bool:=decide (room rs ((i:Int)+1)<(ns.take (i+1)).sum)
def acY(rs ns:List Int)(i:Nat):PyData:=.tuple [.int ((i:Int)+1),.int (ns.take (i+1)).sum,.int (room rs ((i:Int)+1))]
def qL(rs ns:List Int):PyData:=((List.range ns.length).find? (qA rs ns)).elim .none (acY rs ns)
def nB(rs:List Int)(D:Dm):PyData:=qL rs (dsc (vals D))
theorem ach{rs ns:List Int}{i:Nat}(hi:i<ns.length)(h:room rs ((i:Int)+1)<(ns.take (i+1)).sum)(hf:∀ j<i,(ns.take (j+1)).sum<=room rs ((j:Int)+1)):qL rs ns=acY rs ns i:=by
 have:(List.range ns.length).find? (qA rs ns)=some i:=by rw[List.find?_range_eq_some];refine⟨decide_eq_true h,List.mem_range.mpr hi,λ j hj=>?_⟩;have:=hf j hj;simp only[qA,Bool.not_eq_true',decide_eq_false_iff_not];omega
 unfold qL;rw[this];rfl
theorem wH{rs ns:List Int}(hf:∀ j<ns.length,(ns.take (j+1)).sum<=room rs ((j:Int)+1)):qL rs ns=.none:=by
 have:(List.range ns.length).find? (qA rs ns)=none:=by rw[List.find?_eq_none];intro j hj;have:=hf j (List.mem_range.mp hj);simp only[qA,decide_eq_true_eq];omega
 unfold qL;rw[this];rfl
theorem zD(rs ns:List Int):isNone (.d (qL rs ns))=aet rs ns:=by
 unfold qL;cases e:(List.range ns.length).find? (qA rs ns) with
 | none =>
  rw[adm λ i hi=>?_]
  ·rfl
  ·have:=List.find?_eq_none.mp e i (List.mem_range.mpr hi);simp only[qA,decide_eq_true_eq] at this;omega
 | some i =>
  have h1:=List.find?_some e;have h2:=List.mem_of_find?_eq_some e;rw[afr (List.mem_range.mp h2) (of_decide_eq_true h1)];rfl
theorem yD(rs:List Int)(D:Dm):isNone (.d (nB rs D))=afC rs D:=zD rs _
def aM:SpD:=λ ws M Q=>∃ (rs:List Int) (a:Addr) (D:Dm),ws=[.d (intD rs),.m a]/\Dc M a D/\D.length<=60/\OkR rs/\∀ M',Ext M M'->Q (.d (nB rs D)) M'
theorem sS:∀ ws M Q,aM ws M Q->ws.length=2:=by rintro ws M Q ⟨rs,a,D,rfl,_⟩;rfl
theorem pj:∀ ws M Q,aM ws M Q->pS {nx:=λ _ M'=>Q (.d .none) M',rt:=Q} (dg qg ws) M:=by
 rintro ws M Q ⟨rs,a,D,rfl,hd,hl,hr,k⟩;refine⟨_,rfl,a,_,vals D,rfl,hd,ad4 D,by rw[vals,List.length_map];omega,λ ns' p h l hl'=>?_⟩;obtain rfl:=tO p h;refine⟨l,(dsc (vals D)).map PyData.int,rfl,by rw[ak,ints_map],?_⟩;have x1:=sealed (o:=.lst (gi (dsc (vals D)))) hl';generalize l9 (bY M l (.lst (gi (dsc (vals D))))) l=M1 at x1;refine⟨_,rfl,?_⟩;dsimp only;unfold nB at k;generalize dsc (vals D)=ns at k;refine⟨λ i τ M'=>M'=M1/\(∀ j<i,(ns.take (j+1)).sum<=room rs ((j:Int)+1))/\∃ x3 x4 x5,τ=[some (.d (intD rs)),some (.m a),some (.d (.int ((ns.take i).sum))),x3,x4,x5],⟨rfl,λ j hj=>(nomatch hj),_,_,_,rfl⟩,?_,?_⟩
 ·rintro i w τ M' hw ⟨rfl,hf,x3,x4,x5,rfl⟩;obtain⟨n,hn,rfl⟩:=adi hw;have hi:=(List.getElem?_eq_some_iff.mp hn).1;refine⟨_,rfl,rfl,_,_,rfl,_,_,rfl,rfl,?_⟩;refine⟨_,rfl,_,rfl,_,rfl,?_⟩;refine⟨_,rfl,_,rfl,?_⟩;rw[show(rs.map PyData.int).map W.d=rs.map λ n=>W.d (.int n) from ints_map rs];refine gA rs (λ n=>W.d (.int n)) (λ m=>.int (roomOf ((i:Int)+1) m)) (λ τ=>∃ x,τ=[x,some (.d (.int (i:Nat)))]) (by have:=hr.1;omega) ⟨_,rfl⟩ (λ m hm τ hτ R h=>?_) (λ τ=>?_)
  ·obtain⟨x,rfl⟩:=hτ;exact⟨_,rfl,_,rfl,.inl ⟨_,_,rfl,rfl,_,_,rfl,_,rfl,h _ ⟨_,rfl⟩⟩⟩
  ·refine⟨_,rs.map (roomOf ((i:Int)+1)),rfl,by rw[show rs.map (λ m=>PyData.int (roomOf ((i:Int)+1) m))=(rs.map (roomOf ((i:Int)+1))).map PyData.int from by rw[List.map_map];rfl];exact .d,by rw[List.length_map];have:=hr.1;omega,λ m hm=>?_,?_⟩
   ·obtain⟨m',hm',rfl⟩:=List.mem_map.mp hm;have:=hr.2 m' hm';unfold roomOf
    split<;>omega
   ·rw[<- adP];refine⟨_,rfl,_,rfl,_,_,rfl,rfl,_,rfl,?_⟩;have ts:=aaK hn;refine d3 (λ h=>?_) (λ h=>?_)
    ·have hlt:room rs ((i:Int)+1)<(ns.take (i+1)).sum:=by rw[ts];exact of_decide_eq_true h
     refine⟨_,rfl,.inl ⟨_,_,rfl,rfl,_,rfl,_,rfl,_,rfl,few (by simp),?_⟩⟩;have:=k _ x1;rw[ach hi hlt hf] at this;unfold acY at this;rw[ts] at this;exact this
    ·have hle:¬ room rs ((i:Int)+1)<(ns.take (i+1)).sum:=by rw[ts];exact of_decide_eq_false h
     refine⟨rfl,λ j hj=>?_,_,_,_,by rw[ts];rfl⟩
     by_cases q:j=i
     ·subst q;omega
     ·exact hf j (by omega)
 ·rintro τ M' ⟨rfl,hf,x3,x4,x5,rfl⟩;have:=k _ x1;rw[wH λ i hi=>hf i (by simpa [iD] using hi)] at this;exact this
abbrev Bs:=List (Str×Int)
abbrev As:=List (Str×Str×Int)
def bD(r:Str×Int):PyData:=.tuple [.str r.1,.int r.2]
def bsD(B:Bs):PyData:=.list (B.map bD)
def aD(r:Str×Str×Int):PyData:=.tuple [.str r.1,.str r.2.1,.int r.2.2]
def asD(A:As):PyData:=.list (A.map aD)
def rooms(B:Bs):List Int:=B.map (·.2)
theorem fD{α β:Type}{L:List α}{f:α->β}{i:Nat}{w:β}(h:(L.map f)[i]? =some w):∃ a,L[i]? =some a/\w=f a:=by
 rw[List.getElem?_map] at h;cases e:L[i]? with
 | none=>rw[e] at h;cases h
 | some a=>rw[e] at h;cases h;exact⟨a,rfl,rfl⟩
theorem uv{lo:Int}{n i:Nat}{w:W}(h:(nh lo n)[i]? =some w):i<n/\w=.d (.int (lo+(i:Int))):=by
 unfold nh at h;obtain⟨j,hj,rfl⟩:=fD h;obtain⟨h1,h2⟩:=List.getElem?_eq_some_iff.mp hj;simp at h1 h2;subst h2;exact⟨h1,rfl⟩
theorem zG{α:Type}{xs:List α}{i:Nat}(hi:i<=xs.length):D.cutD xs none (some (i:Int))=xs.take i:=by
 unfold D.cutD;have e:HT.sIx xs.length 0 none=0:=rfl;have e2:HT.sIx xs.length xs.length (some (i:Int))=i:=by
  unfold HT.sIx;simp;rw[if_neg (by omega)];omega
 rw[e,e2];simp
theorem ai6(h:Dc M a D)(k:Str):∃ o,pz M (.m a) (.d (.str k)) o/\o.getD (.d (.int 0))=.d (.int (val D k)):=by refine⟨_,.k (k:=.inr k) h,?_⟩;rw[nW];unfold val;cases fd Prod.fst D k<;>rfl
theorem dput(D:Dm)(k:Str)(n:Int):mD (bA (rk Prod.fst gI D)) (.inr k) (.d (.int (val D k+n)))=bA (rk Prod.fst gI (more D k n)):=
 acE (nm:=Prod.fst) gI D (k,val D k+n) rfl
def a6:SpD:=λ ws M Q=>∃ (a:Addr) (D:Dm) (k:Str) (n:Int),ws=[.m a,.d (.str k),.d (.int n)]/\Dc M a D/\D.length<=60/\∀ p M',M p=none->Dc M' p (more D k n)->Ext M M'->Q (.m p) M'
theorem nZ:∀ ws M Q,a6 ws M Q->ws.length=3:=by rintro ws M Q ⟨a,D,k,n,rfl,_⟩;rfl
theorem l6:∀ ws M Q,a6 ws M Q->lV {nx:=λ _ M'=>Q (.d .none) M',rt:=Q} (dg kN ws) M:=by
 rintro ws M Q ⟨a,D,k,n,rfl,hd,hl,K⟩;have s16':=s16;refine⟨_,rfl,a,_,rfl,hd,λ p hp=>?_⟩;have hd1:Dc (bY M p (.dic (bA (rk Prod.fst gI D)))) p D:=ak;obtain⟨o,h1,h2⟩:=ai6 hd1 k;refine⟨_,rfl,.k hd1,_,rfl,o,h1,?_⟩;rw[h2];refine⟨_,rfl,.inl ⟨_,_,rfl,rfl,_,rfl,_,rfl,p,_,.inr k,rfl,hd1,rfl,by rw[abB];omega,?_⟩⟩;refine⟨_,rfl,K p _ hp ?_ ?_⟩
 ·show bY _ p _ p=_;rw[ak];exact congrArg (λ z=>some (MO.dic z)) (dput D k n)
 ·exact(Ext.new hp).upd hp
theorem acH(rs:List Int)(D:Dm)(k:Str)(n:Nat):gr rs D k (n+1)=if afC rs (more D k ((n:Int)+1))=true then (n:Int)+1 else gr rs D k n:=rfl
theorem aem{n:Int}{i:Nat}{w:W}(h:(qV n)[i]? =some w):i<n.toNat/\w=.d (.int (n-(i:Int))):=by
 unfold qV at h;obtain⟨j,hj,rfl⟩:=fD h;obtain⟨h1,h2⟩:=List.getElem?_eq_some_iff.mp hj;simp at h1 h2;subst h2;exact⟨by omega,rfl⟩
def bI:SpD:=λ ws M Q=>∃ (rs:List Int) (a:Addr) (D:Dm) (k:Str) (c:Int),ws=[.d (intD rs),.m a,.d (.str k),.d (.int c)]/\Dc M a D/\Sm D 9/\OkR rs/\0<=c/\c<=6/\∀ M',Ext M M'->Q (.d (.int (gr rs D k c.toNat))) M'
theorem kf:∀ ws M Q,bI ws M Q->ws.length=4:=by rintro ws M Q ⟨rs,a,D,k,n,rfl,_⟩;rfl
theorem jk:∀ ws M Q,bI ws M Q->hU aM a6 {nx:=λ _ M'=>Q (.d .none) M',rt:=Q} (dg ia ws) M:=by
 rintro ws M Q ⟨rs,a,D,k,c,rfl,hd,hs,hr,c0,c6,K⟩;refine⟨_,rfl,1,rfl,c,rfl,c0,by omega,?_⟩;refine⟨λ i τ M'=>i<=c.toNat/\Ext M M'/\gr rs D k c.toNat=gr rs D k (c.toNat-i)/\∃ x,τ=[some (.d (intD rs)),some (.m a),some (.d (.str k)),some (.d (.int c)),x],⟨Nat.zero_le _,Ext.refl M,rfl,_,rfl⟩,?_,?_⟩
 ·rintro i w τ M' hw ⟨hi,x1,hg,x,rfl⟩;obtain⟨hlt,rfl⟩:=aem hw;refine⟨_,rfl,_,rfl,_,rfl,_,rfl,a,D,k,_,rfl,x1 _ _ hd,by have:=hs.1;omega,λ p M1 hp h1 x2=>?_⟩;have hm:=nD hs k (n:=c-(i:Int)) (by omega) (by omega);refine⟨rs,p,_,rfl,h1,by have:=hm.1;omega,hr,λ M2 x3=>⟨rfl,_,rfl,?_⟩⟩;have e1:c.toNat-i=(c.toNat-(i+1))+1:=by omega
  have e2:((c.toNat-(i+1):Nat):Int)+1=c-(i:Int):=by omega
  rw[e1,acH,e2] at hg;have e3:(xor false (isNone (.d (nB rs (more D k (c-(i:Int)))))))=afC rs (more D k (c-(i:Int))):=by rw[yD];simp
  refine d3 (λ h=>?_) (λ h=>?_)
  ·rw[if_pos (e3.symm.trans h)] at hg;have:=K M2 ((x1.trans x2).trans x3);rw[hg] at this;exact⟨_,rfl,this⟩
  ·rw[if_neg (by rw[<- e3,h];decide)] at hg;exact⟨by omega,(x1.trans x2).trans x3,hg,_,rfl⟩
 ·rintro τ M' ⟨hi,x1,hg,x,rfl⟩;have:=K M' x1;rw[hg,show(qV c).length=c.toNat from by simp[qV],Nat.sub_self] at this;exact this
def stp(rs:List Int)(s:Dm×As)(r:Str×Str×Int):Dm×As:=
 (more s.1 r.2.1 (gr rs s.1 r.2.1 r.2.2.toNat),s.2++[(r.1,r.2.1,gr rs s.1 r.2.1 r.2.2.toNat)])
def run(rs:List Int)(A:As):Dm×As:=A.foldl (stp rs) ([],[])
theorem jb{rs:List Int}{A:As}{i:Nat}{r:Str×Str×Int}(h:A[i]? =some r):run rs (A.take (i+1))=stp rs (run rs (A.take i)) r:=by
 unfold run;rw[List.take_succ,h,List.foldl_append];rfl
def OkC(A:As):Prop:=A.length<=8/\∀ r∈A,0<=r.2.2/\r.2.2<=6
theorem kZ{rs:List Int}{A:As}(h:OkC A):∀ i,i<=A.length->Sm (run rs (A.take i)).1 i/\(run rs (A.take i)).2.length=i
 | 0,_=>by simp[run,Sm]
 | i+1,hi=>by
  have hlt:i<A.length:=by omega
  have e:A[i]? =some A[i]:=List.getElem?_eq_getElem hlt;obtain⟨h1,h2⟩:=kZ (rs:=rs) h i (by omega);have hc:=h.2 A[i] (List.getElem_mem hlt);have hg:=aiL rs (run rs (A.take i)).1 (A[i]).2.1 (A[i]).2.2.toNat;rw[jb e];refine⟨nD h1 _ (by omega) (by omega),?_⟩;show((run rs (A.take i)).2++[_]).length=_;rw[List.length_append,h2];rfl
theorem sm9{D:Dm}{i:Nat}(h:Sm D i)(hi:i<=9):Sm D 9:=⟨by have:=h.1;omega,λ r hr=>by have:=h.2 r hr;omega⟩
def bT:SpD:=λ ws M Q=>∃ (rs:List Int) (A:As),ws=[.d (intD rs),.d (asD A)]/\OkR rs/\OkC A/\∀ p M',M p=none->M' p=some (.lst (((run rs A).2.map aD).map W.d))->Ext M M'->Q (.m p) M'
theorem rY:∀ ws M Q,bT ws M Q->ws.length=2:=by rintro ws M Q ⟨rs,A,rfl,_⟩;rfl
theorem o6:∀ ws M Q,bT ws M Q->qO bI a6 {nx:=λ _ M'=>Q (.d .none) M',rt:=Q} (dg qF ws) M:=by
 rintro ws M Q ⟨rs,A,rfl,hr,hA,K⟩;have s16':=s16;have hA1:=hA.1;refine λ d hd=>⟨few (by simp),λ l hl=>?_⟩;have hl':bY M d (.dic []) l=none:=hl;have ld:l≠d:=λ e=>by rw[e,ak] at hl';cases hl'
 have hlM:M l=none:=by rw[aF ld] at hl';exact hl'
 have x0:Ext M (bY (bY M d (.dic [])) l (.lst [])):=((Ext.refl M).upd hd).upd hlM;refine⟨_,rfl,_,rfl,?_⟩;dsimp only;refine⟨λ i τ M'=>i<=A.length/\Ext M M'/\M' l=some (.lst (((run rs (A.take i)).2.map aD).map W.d))/\∃ a x4 x5 x6 x7,Dc M' a (run rs (A.take i)).1/\τ=[some (.d (intD rs)),some (.d (asD A)),some (.m a),some (.m l),x4,x5,x6,x7],⟨Nat.zero_le _,x0,ak,d,_,_,_,_,by unfold Dc;rw[aF ld.symm,ak];rfl,rfl⟩,?_,?_⟩
 ·rintro i w τ M' hw ⟨hi,x1,h1,a,x4,x5,x6,x7,h2,rfl⟩;obtain⟨d',hd',rfl⟩:=fD hw;obtain⟨r,hr',rfl⟩:=fD hd';have hlt:=(List.getElem?_eq_some_iff.mp hr').1;have hc:=hA.2 r (List.mem_of_getElem? hr');obtain⟨hsm,hlen⟩:=kZ (rs:=rs) hA i (by omega);refine⟨_,rfl,rfl,_,_,rfl,_,_,rfl,_,_,rfl,rfl,?_⟩;refine⟨_,rfl,_,rfl,_,rfl,_,rfl,rs,a,_,r.2.1,r.2.2,rfl,h2,sm9 hsm (by omega),hr,hc.1,hc.2,λ M1 x2=>?_⟩;refine⟨_,rfl,_,rfl,_,rfl,a,_,r.2.1,_,rfl,x2 _ _ h2,by have:=hsm.1;omega,λ p M2 hp h3 x3=>?_⟩;have h4:=x3 _ _ (x2 _ _ h1);refine⟨_,rfl,l,_,rfl,h4,_,rfl,_,rfl,_,rfl,_,rfl,few (by simp),_,h4,by rw[List.length_map,List.length_map,hlen];omega,?_⟩;have pl:p≠l:=λ e=>by rw[e,x2 _ _ h1] at hp;cases hp
  refine⟨hlt,((x1.trans x2).trans x3).upd hlM,?_,p,_,_,_,_,?_,rfl⟩
  ·rw[ak,jb hr'];show _=some (MO.lst ((((run rs (A.take i)).2++[_]).map aD).map W.d));rw[List.map_append,List.map_append];rfl
  ·unfold Dc;rw[aF pl,jb hr'];exact h3
 ·rintro τ M' ⟨hi,x1,h1,a,x4,x5,x6,x7,h2,rfl⟩;have e1:A.take (((A.map aD).map W.d)).length=A:=by rw[List.length_map,List.length_map,List.take_length]
  rw[e1] at h1;exact⟨_,rfl,K l M' hlM h1 x1⟩
def aE:SpD:=λ ws M Q=>∃ B:Bs,ws=[.d (bsD B)]/\B.length<=8/\Q (.d (intD (rooms B))) M
theorem qP:∀ ws M Q,aE ws M Q->ws.length=1:=by rintro ws M Q ⟨B,rfl,_⟩;rfl
theorem oF:∀ ws M Q,aE ws M Q->mP {nx:=λ _ M'=>Q (.d .none) M',rt:=Q} (dg mr ws) M:=by
 rintro ws M Q ⟨B,rfl,hB,K⟩;refine⟨_,rfl,_,rfl,?_⟩;dsimp only;rw[List.map_map];refine gA B (W.d ∘ bD) (λ r=>.int r.2) (λ τ=>∃ x y,τ=[x,y]) (by omega) ⟨_,_,rfl⟩ (λ r hr τ hτ R h=>?_) (λ τ=>?_)
 ·obtain⟨x,y,rfl⟩:=hτ;exact⟨_,rfl,rfl,_,_,rfl,_,_,rfl,rfl,_,rfl,_,rfl,h _ ⟨_,_,rfl⟩⟩
 ·unfold intD rooms at K;rw[List.map_map] at K;exact K
def eE(c:Nat):Bool:=decide (97<=c)&&decide (c<=122)
def wd(z:Str):Bool:=decide (1<=z.length)&&decide (z.length<=8)&&z.cps.toList.all eE
theorem aeL(h:wd z=true):∀ c∈z.cps.toList,eE c=true:=by simp only[wd,Bool.and_eq_true,List.all_eq_true] at h;exact h.2
theorem cL{c:Bool}{A B:Prop}(e:c=true)(h:A):if c=true then A else B:=by rw[e];exact iL h
theorem cN{c:Bool}{A B:Prop}(e:c=false)(h:B):if c=true then A else B:=by rw[e];exact je h
theorem lt1(a b:Nat):decide ([a] < [b])=decide (a<b):=by
 by_cases h:a<b
 ·rw[decide_eq_true h];exact decide_eq_true (List.cons_lt_cons_iff.mpr (.inl h))
 ·rw[decide_eq_false h];refine decide_eq_false λ z=>?_;rcases List.cons_lt_cons_iff.mp z with q | ⟨_,q⟩
  ·exact h q
  ·exact absurd q (by simp)
theorem afs(z:Str):lX (.str z) "str" = true:=by simp[lX,tyD]
theorem yr(ds:List PyData):lX (.list ds) "list" = true:=by simp[lX,tyD]
theorem aaV(ds:List PyData):lX (.tuple ds) "tuple" = true:=by simp[lX,tyD]
def aed(r:Str×Int):Prop:=wd r.1=true/\0<=r.2/\r.2<=6
def lsS(a b:Str):Bool:=decide (a.cps.toList<b.cps.toList)
structure OkB(B:Bs):Prop where
 len:B.length<=8
 row:∀ r∈B,aed r
 up:∀ i r s,B[i]? =some r->B[i+1]? =some s->lsS r.1 s.1=true
theorem aaN{α:Type}{L:List α}{f:α->PyData}{i:Nat}{w:W}(h:(iD (L.map f))[i]? =some w):∃ r,L[i]? =some r/\w=.d (.tuple [.int (i:Nat),f r]):=by
 unfold iD at h;rw[List.getElem?_map] at h;have hi:i<L.length:=by
  by_cases q:i<L.length
  ·exact q
  ·rw[List.getElem?_eq_none (by simpa using q)] at h;cases h
 rw[List.getElem?_range (by simpa using hi)] at h;cases h;refine⟨L[i],List.getElem?_eq_getElem hi,?_⟩;simp[List.getD,List.getElem?_map,List.getElem?_eq_getElem hi]
theorem abG{α:Type}{M:MH}{L:List α}{f:α->PyData}{i:Nat}{r:α}{j:Int}(hj:j=(i:Int))(h:L[i]? =some r):ixW M (.d (.list (L.map f))) j=some (.d (f r)):=by subst hj;have hi:=(List.getElem?_eq_some_iff.mp h).1;simp only[ixW,atI];rw[yL (by omega) (by rw[List.length_map];omega)];simp[h]
structure aeK(r:Str×Str×Int):Prop where
 w:wd r.1=true
 k:wd r.2.1=true
 c0:0<=r.2.2
 c6:r.2.2<=6
structure OkA(A:As):Prop where
 len:A.length<=8
 row:∀ r∈A,aeK r
 nd:(A.map λ r=>r.1).Nodup
theorem OkA.c(h:OkA A):OkC A:=⟨h.len,λ r hr=>⟨(h.row r hr).c0,(h.row r hr).c6⟩⟩
theorem OkB.r(h:OkB B):OkR (rooms B):=⟨by unfold rooms;rw[List.length_map];exact h.len,λ m hm=>by obtain⟨r,hr,rfl⟩:=List.mem_map.mp hm;exact(h.row r hr).2⟩
theorem vT{L:List Str}(h:L.Nodup){i:Nat}{z:Str}(e:L[i]? =some z):z ∉ L.take i:=by intro hm;obtain⟨j,hj,ej⟩:=List.getElem_of_mem hm;rw[List.length_take] at hj;rw[List.getElem_take] at ej;obtain⟨hi,ei⟩:=List.getElem?_eq_some_iff.mp e;have:=(List.getElem_inj (h₀:=by omega) (h₁:=hi) h).mp (ej.trans ei.symm);omega
theorem mK{z:Str}{i:Nat}{j:Int}(hj:j=(i:Int))(hi:i<z.length):ixW M (.d (.str z)) j=some (.d (.str ⟨#[z.cps.toList.getD i 0]⟩)):=by
 subst hj;have hl:i<z.cps.toList.length:=by rw[str_len];exact hi
 simp only[ixW];rw[yJ (by omega) (by omega)];simp[List.getD,List.getElem?_eq_getElem hl]
def aam(w:Nat):Str:=(["m", "ab", "zz"]:List Str).getD w "m"
def l5(k:Nat):Str:=Txt.mul ⟨#[("abcdefgh" : Str).cps.toList.getD k 0]⟩ (1+(0+(k:Int)) % 2)
def nmB(w k:Nat):Str:=aam w++l5 k
theorem agF:∀ w<3,∀ k<8,wd (nmB w k)=true:=by decide +kernel
theorem agM:∀ w<3,∀ k<7,lsS (nmB w k) (nmB w (k+1))=true:=by decide +kernel
theorem acz:∀ w<3,∀ k<8,(aam w).length+(l5 k).length<=1000:=by decide +kernel
theorem ae2(hw:w<3)(hl:B.length<=8)(h:∀ (j:Nat) (r:Str×Int),B[j]? =some r->r.1=nmB w j/\0<=r.2/\r.2<=6):OkB B:=by
 refine⟨hl,λ r hr=>?_,λ i r s h1 h2=>?_⟩
 ·obtain⟨j,hj,e⟩:=List.getElem_of_mem hr;obtain⟨z1,z2⟩:=h j r (by rw[List.getElem?_eq_getElem hj,e]);exact⟨by rw[z1];exact agF w hw j (by omega),z2⟩
 ·have:=(List.getElem?_eq_some_iff.mp h2).1;rw[(h i r h1).1,(h (i+1) s h2).1];exact agM w hw i (by omega)
def nmA(t k:Nat):Str:=if k=3 then "ma" else "w" ++ ⟨#[("hgfedcba" : Str).cps.toList.getD ((k+t) % 8) 0]⟩
theorem age:∀ t<8,∀ k<8,wd (nmA t k)=true:=by decide +kernel
theorem agn:∀ t<8,((List.range 8).map (nmA t)).Nodup:=by decide +kernel
theorem ac0{t:Nat}(ht:t<8)(hl:A.length<=8)(h:∀ (j:Nat) r,A[j]? =some r->r.1=nmA t j/\aeK r):OkA A:=by
 refine⟨hl,λ r hr=>?_,?_⟩
 ·obtain⟨j,hj,e⟩:=List.getElem_of_mem hr;exact(h j r (by rw[List.getElem?_eq_getElem hj,e])).2
 ·have e:(A.map λ r=>r.1)=(List.range A.length).map (nmA t):=by
   refine List.ext_getElem? λ j=>?_;rw[List.getElem?_map,List.getElem?_map];cases q:A[j]? with
   | none =>
    have:=List.getElem?_eq_none_iff.mp q;rw[List.getElem?_eq_none (by simpa using this)];rfl
   | some r =>
    have:=(List.getElem?_eq_some_iff.mp q).1;rw[List.getElem?_range this];simp[(h j r q).1]
  rw[e];refine(agn t ht).sublist (List.Sublist.map _ ?_);rw[show(8:Nat)=A.length+(8-A.length) from by omega,List.range_add];exact List.sublist_append_left _ _
def iT:List Str:=["front", "ma", "side", "front", "k", "mbb", "aba", "back", "wish"]
theorem zS:∀ z∈iT,wd z=true:=by decide +kernel
theorem kz(h:0<=t):D.cutD xs (some t) none=xs.drop t.toNat:=by
 unfold D.cutD;have e:HT.sIx xs.length xs.length none=xs.length:=rfl;have e2:HT.sIx xs.length 0 (some t)=min t.toNat xs.length:=by
  unfold HT.sIx;dsimp only;rw[if_neg (by omega)]
 rw[e,e2]
 by_cases q:t.toNat<=xs.length
 ·rw[Nat.min_eq_left q,<- List.length_drop,List.take_length]
 ·rw[Nat.min_eq_right (by omega),List.drop_of_length_le (Nat.le_refl _),List.drop_of_length_le (by omega)];simp
end Stc
namespace HT
open PySem PyProof.Rows
section
open PySem.SeqAt
open PySem.MeetsSeq PySem.MeetsSeq2 PySem.MeetsSeq3
end
end HT
namespace D
open L2
section
variable {X:Cx}{K:FG}
end
end D
namespace Stc
open L2 D Rc
abbrev jU:List Str:=["asked", "demands", "wish", "kind", "copies"]
def jT:TSd:=
  bp (cB (n4) (gN 1)) <|
  bp (ou (dJ (ai 0)) (gT 3 (bQ (gN 2) (bQ (gN 3) (bQ (gN 4) (jn)))))
   (aaP (ai 1) (ai 3) (dOp dq (aal (ai 1) (ai 3) (dC (.d (.int 0)))) (ai 4)))) <|
  de (ai 1)
theorem ael{D:Dm}{z x:Str×Int}(h:fd Prod.fst D z.1=some x):pt Prod.fst D z=D.map λ y=>if y.1=z.1 then z else y:=by
 unfold pt;rw[h]
theorem ah2(D:Dm)(k:Str)(a b:Int):pt Prod.fst (pt Prod.fst D (k,a)) (k,b)=pt Prod.fst D (k,b):=by
 have h:=af7 (nm:=Prod.fst) D (k,a) k;rw[if_pos rfl] at h;rw[ael (z:=(k,b)) h];dsimp only;unfold pt;cases e:fd Prod.fst D (k,a).1 with
 | none =>
  dsimp only;rw[List.map_append];have:D.map (λ y=>if y.1=k then (k,b) else y)=D:=by
   conv=>rhs;rw[<- List.map_id D]
   refine List.map_congr_left λ y hy=>?_;rw[if_neg (fd_none e y hy)];rfl
  rw[this];simp
 | some x =>
  dsimp only;rw[List.map_map];refine List.map_congr_left λ y hy=>?_
  by_cases q:y.1=k
  ·simp[q]
  ·simp[q]
theorem aaW(D:Dm)(k:Str)(n:Int):val (more D k n) k=val D k+n:=by
 unfold more
 conv=>lhs;unfold val
 rw[af7,if_pos rfl];rfl
theorem oP(D:Dm)(k:Str)(a b:Int):more (more D k a) k b=more D k (a+b):=by
 conv=>lhs;unfold more
 rw[show pt Prod.fst D (k,val D k+a)=more D k a from rfl,aaW];unfold more;rw[ah2,Int.add_assoc]
def dmd(A:As):Dm:=A.foldl (λ D r=>more D r.2.1 r.2.2) []
theorem tM{A:As}{i:Nat}{r:Str×Str×Int}(h:A[i]? =some r):dmd (A.take (i+1))=more (dmd (A.take i)) r.2.1 r.2.2:=by
 unfold dmd;rw[List.take_succ,h,List.foldl_append];rfl
theorem tZ{A:As}(h:OkC A):∀ i,i<=A.length->Sm (dmd (A.take i)) i
 | 0,_=>by simp[dmd,Sm]
 | i+1,hi=>by
  have hlt:i<A.length:=by omega
  have e:A[i]? =some A[i]:=List.getElem?_eq_getElem hlt;have hc:=h.2 A[i] (List.getElem_mem hlt);rw[tM e];exact nD (tZ h i (by omega)) _ hc.1 hc.2
theorem vS(h:OkC A):Sm (dmd A) 9:=by have:=tZ h A.length (Nat.le_refl _);rw[List.take_length] at this;exact sm9 this (by have:=h.1;omega)
def ajz:SpD:=λ ws M Q=>∃ (A:As),ws=[.d (asD A)]/\OkC A/\∀ p M',M p=none->Dc M' p (dmd A)->Ext M M'->Q (.m p) M'
def aT:SpD:=ajz
theorem l8:∀ ws M Q,aT ws M Q->ws.length=1:=by rintro ws M Q ⟨A,rfl,_⟩;rfl
theorem lJ:∀ ws M Q,aT ws M Q->jT {nx:=λ _ M'=>Q (.d .none) M',rt:=Q} (dg jU ws) M:=by
 rintro ws M Q ⟨A,rfl,hA,K⟩;have s16':=s16;have hA1:=hA.1;refine λ a ha=>?_;refine⟨_,rfl,_,rfl,?_⟩;dsimp only;refine⟨λ i τ M'=>i<=A.length/\Ext M M'/\Dc M' a (dmd (A.take i))/\∃ x2 x3 x4,τ=[some (.d (asD A)),some (.m a),x2,x3,x4],⟨Nat.zero_le _,Ext.new ha,ak,_,_,_,rfl⟩,?_,?_⟩
 ·rintro i w τ M' hw ⟨hi,x1,h1,x2,x3,x4,rfl⟩;obtain⟨d',hd',rfl⟩:=fD hw;obtain⟨r,hr',rfl⟩:=fD hd';have hlt:=(List.getElem?_eq_some_iff.mp hr').1;have hsm:=tZ hA i (by omega);refine⟨_,rfl,rfl,_,_,rfl,_,_,rfl,_,_,rfl,rfl,?_⟩;obtain⟨o,g1,g2⟩:=ai6 h1 r.2.1;refine⟨_,rfl,.k h1,_,rfl,o,g1,?_⟩;rw[g2];refine⟨_,rfl,.inl ⟨_,_,rfl,rfl,_,rfl,_,rfl,a,_,.inr r.2.1,rfl,h1,rfl,by rw[abB];have:=hsm.1;omega,?_⟩⟩;refine⟨hlt,x1.upd ha,?_,_,_,_,rfl⟩;unfold Dc;rw[ak,tM hr'];exact congrArg (λ z=>some (MO.dic z)) (dput _ r.2.1 _)
 ·rintro τ M' ⟨hi,x1,h1,x2,x3,x4,rfl⟩;have e1:A.take (((A.map aD).map W.d)).length=A:=by rw[List.length_map,List.length_map,List.take_length]
  rw[e1] at h1;exact⟨_,rfl,K a M' ha h1 x1⟩
theorem ad7(h:(nh 0 n)[i]? =some w):i<n/\w=.d (.int (i:Int)):=by obtain⟨h1,h2⟩:=uv h;rw[Int.zero_add] at h2;exact⟨h1,h2⟩
end Stc
namespace D
open L2
def aef(K:FG)(to:TE):TE:=λ σ H Q=>to σ H λ x H2=>∃ a,∃ ns:List Int,x=.ref a/\SqL K H2 a (ns.map V.int)/\ns.length<64 /\
 ∀ ns':List Int,ns'.Perm ns->(ns'.Pairwise (· >= ·))->∀ l,H2 l=none->Q (.ref l) (upd H2 l (.lst (ns'.map V.int)))
theorem yK(hc:X.calm=true)(hg:Gl X "sorted")(hm:X.mg "sorted" = none)(ho:PE X o to)(hso:gh o=false:=by rfl) :
  PE X (.Call (.Name "sorted" p) [o] [⟨some "reverse",.Constant (.bool true) j kp,kpos⟩] pos) (aef X.K to):=by
 intro pins s σ H Q I h;have hst:starEach [o] X.env=(false,eval o X.env)::starEach [] X.env:=cR o [] X.env hso;have pa:PA X [o] (qC to abH):=iG ho mX hst;have pk:PK X [⟨some "reverse",.Constant (.bool true) j kp,kpos⟩] (qC (tC (.bl true)) abH):=rX ac3 wC;refine wpAny_Call_Name_kw (g6 I hg hm iN (callWith_kw (he:=by rw[hst];rfl) (hplain:=dh pos X.env [o] (by simp[hso])) ?_));refine thn (pa pos pins s σ H (λ vs H2=>match vs with
  | [x]=>∃ a,∃ ns:List Int,x=.ref a/\SqL X.K H2 a (ns.map V.int)/\ns.length<64/\∀ ns':List Int,ns'.Perm ns->(ns'.Pairwise (· >= ·))->∀ l,H2 l=none->Q (.ref l) (upd H2 l (.lst (ns'.map V.int)))
  | _=>False) I h) λ us s1 ⟨vs,H2,I1,r1,hx⟩=>?_
 match vs,r1,hx with
 | [x],r1,⟨a,ns,ex,hq,h64,q⟩ =>
  subst ex;obtain⟨u,rfl,ru⟩:=vals1 r1;cases ru;refine thn (pk pos pins s1 σ H2 (λ ks H3=>ks=[.bl true]/\H3=H2) I1 ⟨rfl,rfl⟩) λ kus s2 hq92=>?_;obtain⟨ks,H3,I2,r2,ek,eH⟩:=hq92;subst ek eH;obtain⟨ku,rfl,rk⟩:=vals1 r2;cases (show ku=Value.bool true from rk);show wpAny _ _ (call (.builtin "sorted") [.ref a] [(Str.ofString "reverse",.bool true)]) _ _ s2;refine call_function_entry_kw kind_sorted plain_sorted entry_sorted (args_sorted_rev _ _) ?_;obtain⟨its,rv,pl,hz⟩:=I2.list hq;have hI:IntsAre its ns:=by have:=intsAre_of rv;simpa using this
  have hli:its.length=ns.length:=hI.length;have at1:∀ (h':Heap) (l:List Value),(h'.push (seqObj "list" l.toArray 0)).get? h'.objs.size=some (seqObj "list" l.toArray 0):=λ h' l=>Heap.get?_push_size _ rfl;unfold Builtin.«sorted»;refine wpAny_bind (m:=checkCount "sorted" 1 1 _) (wpAny_pure (wpAny_bind (collect_list pl.isList ?_ (by rw[hli,sizeLine_eq];omega))));have old:∀ b ob,s2.heap.get? b=some ob->((s2.heap.push (seqObj "list" #[] 0)).update s2.heap.objs.size (Obj.mapSeq (· ++ its.toArray))).get? b=some ob:=λ b ob eb=>by have hne:b≠s2.heap.objs.size:=Nat.ne_of_lt (Heap.lt_size eb);exact((Heap.SameBut.update ..).2 b hne).trans (Heap.get?_push_of_some _ eb)
  generalize (s2.heap.push (seqObj "list" #[] 0)).update s2.heap.objs.size (Obj.mapSeq (· ++ its.toArray))=h' at old;refine wpAny_bind (wpAny_newList ?_ (by rw[hli,sizeLine_eq];omega));refine wpAny_bind (wpAny_holding (wpAny_call_entry_kw slot_list_sort ⟨_,at1 h' its,rfl⟩ entry_list_sort (list_sort_tree_rev (s:={s2 with heap:=h'.push (seqObj "list" its.toArray 0)}) (at1 h' its) hI (by omega) λ out ns' a1 a2 a3=>⟨_,rfl,wpAny_pure ⟨_,rfl,?_⟩⟩) (args_list_sort_rev _ _)));obtain⟨n,e⟩:=sortedHeap_at (h:=h'.push (seqObj "list" its.toArray 0)) (vs:=its) (out:=out) (at1 h' its);have hge:s2.heap.get? h'.objs.size=none:=by
   cases q1:s2.heap.get? h'.objs.size with
   | none=>rfl
   | some ob =>
    have:=Heap.lt_size (old _ _ q1);exact absurd this (Nat.lt_irrefl _)
  have keep:∀ b ob,s2.heap.get? b=some ob->(sortedHeap (h'.push (seqObj "list" its.toArray 0)) h'.objs.size its out).get? b=some ob:=λ b ob eb=>by have l1:b<h'.objs.size:=Heap.lt_size (old b ob eb);rw[sortedHeap_old (Nat.ne_of_lt l1) (by rw[size_push'];exact Nat.lt_succ_of_lt l1),Heap.get?_push_of_some _ (old b ob eb)]
  have I':Inv X pins σ (upd H3 h'.objs.size (.lst (ns'.map V.int))) {s2 with heap:=sortedHeap (h'.push (seqObj "list" its.toArray 0)) h'.objs.size its out,toks:=s2.toks}:=by refine Inv.ae5 I2 keep hge ⟨?_,out.toList,n,jh a1,by rw[Array.toArray_toList];exact e⟩;rw[List.length_map,a2.length_eq];have:=s16;omega
  exact⟨.ref _,_,I',rfl,q ns' a2 (by unfold Ordered at a3;rw[if_pos rfl] at a3;exact a3) _ (rQ I2.hok hge)⟩
 | [],_,hx=>exact hx.elim
 | _::_::_,_,hx=>exact hx.elim
def yn(td:TD)(τ:DS)(M:MH)(Q:QD):Prop:=td τ M λ w M1=>∃ ns:List Int,zm M1 w (ns.map PyData.int)/\ns.length<64/\∀ ns':List Int,ns'.Perm ns->(ns'.Pairwise (· >= ·))->∀ l,M1 l=none->Q (.m l) (bY M1 l (.lst (gi ns')))
end D
open L2 D
theorem vg(hc:X.calm=true)(hg:Gl X "sorted")(hm:X.mg "sorted" = none)(ho:Jd (PD X o td))(hso:gh o=false:=by rfl) :
  Jd (PD X (.Call (.Name "sorted" p) [o] [⟨some "reverse",.Constant (.bool true) j kp,kpos⟩] pos) (yn td)):=⟨have ho:=ho.h;iA (yK hc hg hm ho hso) λ σ H Q hq93=>by
 obtain⟨τ,M,Qd,A,h,k⟩:=hq93;refine⟨τ,M,_,A,h,λ x H1 w M1 kp1 r1 m1 hq94=>?_⟩;obtain⟨ns,g,h64,q⟩:=hq94;obtain⟨a,ys,ev,hs,ra⟩:=g.sound r1 m1;have ey:=k7 ra;subst ev ey;refine⟨a,ns,rfl,hs,h64,λ ns' h1 h2 c hcc=>?_⟩;have kp3:Kp H1 (upd H1 c (.lst (ns'.map V.int))):=Kp.new hcc;exact kgo k kp1 _ _ (.m c) _ kp3 rfl (m1.put (mo:=.lst (gi ns')) kp3 ⟨_,ar,kI ns'⟩) (q ns' h1 h2 c (m1.free hcc))⟩
namespace L2
theorem oH(I:Nat->Shared->Prop)
  (turn:∀ n s,I n s->wpAny (model prog w) A (pyNext it) (λ r s₁=>match r with
   | none=>R (.ok .next) s₁
   | some v=>wpAny (model prog w) A (letOwnedTupleGo target it v) (λ _ s₁'=>wpAny (model prog w) A (assign target env v) (λ _ s₂ =>
     wpAny (model prog w) A (rO ifs env) (λ ok s₃ =>
      if ok=true then wpAny (model prog w) A (eval kx env) (λ kv s₄=>wpAny (model prog w) A (eval vx env) (λ vv s₅ =>
       wpAny (model prog w) A (dictSet D kv vv) (λ _ s₆=>∃ m,m<n/\I m s₆) (λ _ _=>False) s₅) (λ _ _=>False) s₄) (λ _ _=>False) s₃
      else ∃ m,m<n/\I m s₃) (λ _ _=>False) s₂) (λ _ _=>False) s₁') (λ _ _=>False) s₁) (λ _ _=>False) s)
  (n:Nat)(h:I n s) :
  codeAny (model prog w) A (.compLoop (.DictComp kx vx [⟨target,iter,ifs,0⟩] scope pos) 0 it (.ref D) env) R s:=by
 refine codeAny_loop rfl I (λ n s hI=>?_) n h;show wpAny _ A ((compTurn (.DictComp kx vx [⟨target,iter,ifs,0⟩] scope pos) 0 it (.ref D) env).onRaise (λ x=>do noteFrame x env;theTreesLotGoes x)) _ _ s;refine wpAny_noted ?_;rw[compTurn_dict];refine wpAny_bind (wpAny_standAt (wpAny_bind (wpAny_mono (turn n s hI) (λ r s₁ h₁=>?_) λ _ _ h'=>h'.elim)));cases r with
 | none=>exact wpAny_pure h₁
 | some v =>
  refine wpAny_bind (wpAny_mono h₁ (λ _ s₁' h₁'=>?_) λ _ _ h'=>h'.elim);refine wpAny_bind (wpAny_mono h₁' (λ _ s₂ h₂=>wpAny_bind (wpAny_mono h₂ (λ ok s₃ h₃=>?_) λ _ _ h'=>h'.elim)) λ _ _ h'=>h'.elim);cases ok with
  | false=>exact wpAny_pure ⟨rfl,h₃⟩
  | true =>
   refine wpAny_bind ?_;refine wpAny_bind (wpAny_mono h₃ (λ kv s₄ h₄=>wpAny_bind (wpAny_holding (wpAny_mono h₄ (λ vv s₅ h₅=>wpAny_bind (wpAny_standAt (wpAny_holding (wpAny_mono h₅ (λ _ s₆ h₆=>wpAny_pure ⟨rfl,h₆⟩) λ _ _ h'=>h'.elim)))) λ _ _ h'=>h'.elim))) λ _ _ h'=>h'.elim)
theorem zc(I:Inv X pins σ H s)(e:H a=some (.dK kvs))(l:kvs.length<sizeLine)(ry:RelV (kV k) u)(rv:RelV v r)(h:∀ s',Inv X pins σ (upd H a (.dK (putK kvs k v))) s'->Q () s') :
  wpAny (model X.prog X.w) A (dictSet a u r) Q E s:=by
 obtain⟨z,hd,vs,rel,dd⟩:=afO I.hok e;have hz:vs.length<=sizeLine:=by rw[<- rel.length];exact z
 have hl:(putK kvs k v).length<=sizeLine:=by have:=iH kvs k v;omega
 refine wpAny_dictSet_pairs (hsz:=hz) (vb ry) dd λ h' dd' hs=>h _ ?_;have he:∃ q,h'.get? a=some q:=let ⟨q,_,_,hq,_⟩:=dd'; ⟨q,hq⟩;exact rC I (by rw[e];exact True.intro) hs he (tH hl hd (rel.put k rv) dd')
abbrev DcW:=Nat->Nat->St->Hp->Prop
def abu(J:It)(g:TG)(tt:TT)(tk tv:TE)(D:Addr)(W:DcW)(Fin:Hp->Prop):Prop:=∀ i m τ H,W i m τ H ->
 (J.stop i H/\Fin H)\/(J.go i H/\∀ x H',J.yld i H x H'->g x τ H' λ τ2 H2=>tt τ2 H2 λ b H3 =>
  if b=true then tk τ2 H3 λ y H4=>tv τ2 H4 λ z H5=>∃ kvs k,H5 D=some (.dK kvs)/\y=kV k/\kvs.length<sizeLine/\∃ m',m'<m/\W (i+1) m' τ2 (upd H5 D (.dK (putK kvs k z))) else ∃ m',m'<m/\W (i+1) m' τ2 H3)
section
variable {X:Cx}{pins:PN}{σ:St}{H:Hp}{s:Shared}{sc:Scope}{own:List Str}{fr:List Nat}{cl:List (Str×Addr)}{fp:List Addr}{it D:Addr}{J:It}{tn:Nat->Heap->Prop}{g:TG}{tt:TT}{tk tv:TE}{W:DcW}{Fin:Hp->Prop}
 {kx vx tg iter:Expr}{ifs:List Expr}{pos:Pos}{E:VP}
theorem yR{RR:Addr->Result->Shared->Prop}(hc:X.calm=true)(L:qj X sc own fr)(hcl1:∀ n c,cl.lookup n=some c->X.env.cells.lookup n=some c)(hcl2:∀ n,(n,NameKind.free)∈sc.names->∃ c,cl.lookup n=some c)
  (hg:∀ C s H ex pl,PG (blk X sc (lcN X own fr) cl C s H ex pl) tg g)(ht:∀ C s H ex pl,PTs (blk X sc (lcN X own fr) cl C s H ex pl) ifs tt)(hk:∀ C s H ex pl,PE (blk X sc (lcN X own fr) cl C s H ex pl) kx tk)(hv:∀ C s H ex pl,PE (blk X sc (lcN X own fr) cl C s H ex pl) vx tv)
  (I:Inv X pins σ H s)(T:Turn X.prog X.w X.K tg J fp it tn)(st:tn 0 s.heap)(hf:∀ b∈fp,jg X pins H b)(w0:∃ m,W 0 m (lcS own.length fr σ) H)(turn:abu J g tt tk tv D W Fin)
  (hRR:∀ (C:Addr) (s':Shared) (H':Hp) (m:Str->Option Value),Inv X pins σ H' s'->H' C=none->s.heap.objs.size<=C->s'.heap.Ns C m->Fin H'->RR C (.ok .next) s') :
  wpAny (model X.prog X.w) X.A (newFunctionEnv sc X.env.globals cl [] X.env.qual none .none (some X.env)) (λ cenv s₄ =>
   codeAny (model X.prog X.w) X.A (.compStart (.DictComp kx vx [⟨tg,iter,ifs,0⟩] sc pos) 0 (.ref it) (.ref D) {cenv with scope:=relabel sc X.env}) (RR cenv.locals) s₄) E s:=by
 refine wpAny_newFunctionEnv L.cell (by intro y hy;simp at hy) (λ h₁ hns₁ hsb₁=>?_) L.kind
 try dsimp only at hns₁ hsb₁ ⊢
 have below:∀ b,b<s.heap.objs.size->b≠s.heap.objs.size:=λ b hb=>Nat.ne_of_lt hb;have old:∀ b o,s.heap.get? b=some o->h₁.get? b=some o:=λ b o e=>hsb₁.extBut b o (below b (Heap.lt_size e)) (Heap.get?_push_of_some _ e);have hfb:∀ b∈fp,b<s.heap.objs.size:=λ b hb=>by obtain⟨o,e,_⟩:=T.obj 0 _ st b hb;exact Heap.lt_size e
 have I1:Inv (blk X sc (lcN X own fr) cl s.heap.objs.size s H fp pins) [] (lcS own.length fr σ) H {s with heap:=h₁,toks:=s.toks+([]:List (Str×Value)).length}:=yU L I hf hfb (Nat.le_refl _) hcl1 hcl2 hns₁ old;have st1:tn 0 h₁:=T.keep 0 _ _ st λ b _ o e=>old b o e;generalize hY:blk X sc (lcN X own fr) cl s.heap.objs.size s H fp pins=Y at I1;have hYp:Y.prog=X.prog:=by rw[<- hY];rfl
 have hYw:Y.w=X.w:=by rw[<- hY];rfl
 have hYK:Y.K=X.K:=by rw[<- hY];rfl
 have hYA:Y.A=X.A:=by rw[<- hY];rfl
 have hYc:Y.calm=true:=by rw[<- hY];exact hc
 have hYe:Y.env=compEnvC sc cl s.heap.objs.size X.env:=by rw[<- hY];rfl
 have hYx:Y.xe=λ _ _=>False:=by rw[<- hY];rfl
 have hYpn:Y.pn=X.pn++pins:=by rw[<- hY];rfl
 have hYs:Y.s₀=s:=by rw[<- hY];rfl
 have hYH:Y.H₀=H:=by rw[<- hY];rfl
 have hYex:Y.ex=fp:=by rw[<- hY];rfl
 have hYfs:Y.fs=frs X.stack:=by rw[<- hY];rfl
 have gY:=hg s.heap.objs.size s H fp pins;have tY:=ht s.heap.objs.size s H fp pins;have kY:=hk s.heap.objs.size s H fp pins;have vY:=hv s.heap.objs.size s H fp pins;rw[hY] at gY tY kY vY;have fpY:∀ {H':Hp},(∀ b∈fp,H' b=none)->∀ b∈fp,jg Y [] H' b:=λ {H'} hn b hb=>by
  obtain⟨_,f1,f2,f3,f4,f5⟩:=hf b hb;refine⟨hn b hb,by rw[hYe];exact below b (hfb b hb),?_,.inl (by rw[hYex];exact hb),λ x c e=>?_,λ p q=>?_⟩
  ·rw[hYfs];intro z;rcases List.mem_cons.mp (I.jR _ z) with e | e
   ·exact f1 e
   ·exact f2 e
  ·rw[hYe] at e;exact f4 x c (hcl1 _ _ e)
  ·rw[List.append_nil,hYpn] at q;exact f5 p q
 have loop:∀ s₃:Shared,s₃={s with heap:=h₁,toks:=s.toks+([]:List (Str×Value)).length} ->
   codeAny (model X.prog X.w) X.A (.compLoop (.DictComp kx vx [⟨tg,iter,ifs,0⟩] sc pos) 0 (.ref it) (.ref D) (compEnvC sc cl s.heap.objs.size X.env)) (RR s.heap.objs.size) s₃:=by
  rintro s₃ rfl;obtain⟨m0,w0⟩:=w0;refine oH (λ n s'=>∃ i τ H',Inv Y [] τ H' s'/\tn i s'.heap/\(∀ b∈fp,H' b=none)/\W i n τ H') ?_ m0 ⟨0,_,H,I1,st1,λ b hb=>(hf b hb).1,w0⟩;rintro n s' ⟨i,τ,H',I',st',hn',w'⟩;rcases turn i n τ H' w' with ⟨stop,fin⟩ | ⟨go,step⟩
  ·have q:=T.done Y hYp hYw hYK hYc i _ s' τ H' (λ _ _=>False) I' (fpY hn') st' stop;rw[hYA] at q;refine thn q λ r s4 hq95=>?_;obtain⟨hr,I4⟩:=hq95;subst hr;have un:Un (frs X.stack) fp H H' s.heap s4.heap:=by have z:=I4.base;rw[hYfs,hYex,hYH,hYs] at z;exact z
   have os4:s4.os=s.os:=by have z:=I4.os;rw[hYs] at z;exact z
   have hok4:HOk X.prog X.w H' s4.heap:=by have z:=I4.hok;rw[hYp,hYw] at z;exact z
   have hch:∀ b∈fp,(b∈X.ex\/X.s₀.heap.objs.size<=b)/\b≠X.env.locals/\(∀ x c,X.env.cells.lookup x=some c->c≠b)/\∀ p∈X.pn++pins,p.1≠b:=λ b hb=>by obtain⟨_,f1,f2,f3,f4,f5⟩:=hf b hb;exact⟨f3,f1,f4,f5⟩
   have IX:Inv X pins σ H' s4:=I.acD os4 un hok4 I4.bare hch;obtain⟨mC,hmC,_⟩:=I4.loc;have hCf:=I4.free;rw[hYe] at hmC hCf;exact hRR _ s4 H' mC IX hCf (Nat.le_refl _) hmC fin
  ·have q:=T.item Y hYp hYw hYK hYc i _ s' τ H' (λ _ _=>False) I' (fpY hn') st' go;rw[hYA] at q;refine thn q λ r s4 hq96=>?_;obtain⟨u,hr,h4⟩:=hq96;subst hr;refine thn h4 λ _ s5 hq97=>?_;obtain⟨x,H5,I5,r5,y5,st5,fr5⟩:=hq97;have I5':=I5.pinned (fpY fr5) (T.obj _ _ st5);have g5:=gY _ s5 τ H5 x u _ I5' r5 (step x H5 y5);rw[hYp,hYw,hYA,hYe,hYx] at g5;refine thn g5 λ _ s6 hq98=>?_;obtain⟨σ6,H6,I6,q6⟩:=hq98;have t6:=tY _ s6 σ6 H6 _ I6 q6;rw[hYp,hYw,hYA,hYe,hYx] at t6;refine thn t6 λ ok s7 hq99=>?_;obtain⟨H7,I7,q7⟩:=hq99;have keepI:∀ {σ8:St} {H8:Hp} {s8:Shared},Inv Y ([]++lC fp s5.heap) σ8 H8 s8->tn (i+1) s8.heap/\∀ b∈fp,H8 b=none:=
    λ {σ8 H8 s8} I8=>by refine⟨T.keep _ _ _ st5 λ b hb o e=>(I8.pin (b,o) (List.mem_append_right _ (List.mem_append_right _ (eN hb e)))).1,λ b hb=>?_⟩;obtain⟨o,e,d⟩:=T.obj _ _ st5 b hb;exact(I8.pin (b,o) (List.mem_append_right _ (List.mem_append_right _ (eN hb e)))).2.1
   cases ok with
   | false =>
    rw[if_neg Bool.false_ne_true] at q7 ⊢;obtain⟨m',hm',w7⟩:=q7;obtain⟨c7,d7⟩:=keepI I7;exact⟨m',hm',i+1,σ6,H7,I7.fm (λ p hp=>(nomatch hp)),c7,d7,w7⟩
   | true =>
    rw[if_pos rfl] at q7 ⊢;have e7:=kY _ s7 σ6 H7 _ I7 q7;rw[hYp,hYw,hYA,hYe,hYx] at e7;refine thn e7 λ ku s8 hq100=>?_;obtain⟨y,H8,I8,r8,q8⟩:=hq100;have e8:=vY _ s8 σ6 H8 _ I8 q8;rw[hYp,hYw,hYA,hYe,hYx] at e8;refine thn e8 λ vu s9 hq101=>?_;obtain⟨z,H9,I9,r9,kvs,k,hD,ey,hlt,m',hm',w9⟩:=hq101;subst ey;have r8':RelV (kV k) ku:=r8;have q9:=zc (A:=X.A) (E:=λ _ _=>False) (Q:=λ _ s₆=>∃ m,m<n/\∃ i τ H',Inv Y [] τ H' s₆/\tn i s₆.heap/\(∀ b∈fp,H' b=none)/\W i m τ H') I9 hD hlt r8' r9 λ s10 I10=>by obtain⟨c8,d8⟩:=keepI I10;exact⟨m',hm',i+1,σ6,_,I10.fm (λ p hp=>(nomatch hp)),c8,d8,w9⟩
    rw[hYp,hYw] at q9;exact q9
 exact codeAny_compStart_dict (loop _ rfl) (T.self _ 0 _ _ _ st1 (loop _ rfl))
def tDC(wi:TI)(g:TG)(tt:TT)(tk tv:TE)(k:Nat)(fr:List Nat):TE:=λ σ H Q=>wi σ H λ J H1=>∀ p,H1 p=none->∃ W:DcW,(∃ m,W 0 m (lcS k fr σ) (upd H1 p (.dK [])))/\abu J g tt tk tv p W λ H2=>Q (.ref p) H2
theorem ahz(hc:X.calm=true)(L:qj X sc own fr)(hi:PI X tg iter wi)
  (hg:∀ cl C s H ex pl,PG (blk X sc (lcN X own fr) cl C s H ex pl) tg g)(ht:∀ cl C s H ex pl,PTs (blk X sc (lcN X own fr) cl C s H ex pl) ifs tt)(hk:∀ cl C s H ex pl,PE (blk X sc (lcN X own fr) cl C s H ex pl) kx tk)(hv:∀ cl C s H ex pl,PE (blk X sc (lcN X own fr) cl C s H ex pl) vx tv)
  (hs:∀ x,foldedSetIterable iter X.env x=pure x:=by intro _;rfl):PE X (.DictComp kx vx [⟨tg,iter,ifs,0⟩] sc pos) (tDC wi g tt tk tv own.length fr):=by
 intro pins s σ H Q I h;obtain⟨cl,hcl,c1,c2⟩:=jt L I.ok;show wpAny _ _ (comprehension (.DictComp kx vx [⟨tg,iter,ifs,0⟩] sc pos) sc X.env _ newDict false (eval iter X.env)) _ _ _;refine wpAny_comprehension_free (use:=none) (g:=⟨tg,iter,ifs,0⟩) (gs:=[]) rfl hs hcl L.kind L.names ?_;refine thn (hi pins s σ H _ I h) λ v s1 h1=>thn h1 λ itv s2 h2=>?_;obtain⟨it,fp,tn,J,H2,e,I2,T,st2,f2,q2⟩:=h2;subst e;obtain⟨W,w0,turn⟩:=q2 _ (I2.hok.fresh (Nat.le_refl s2.heap.objs.size));refine wpAny_newObj_type ?_;have I3:=I2.laid (a:=s2.heap.objs.size) (o:=.dK []) (h':=s2.heap.push {cls:=.type "dict",data:=.dict #[]}) (t':=s2.toks) (λ _ _ q=>Heap.get?_push_of_some _ q) (Nat.le_refl _) (nL s2.heap I2.big);have hfb:∀ b∈fp,b<s2.heap.objs.size:=λ b hb=>by obtain⟨o,e,_⟩:=T.obj 0 _ st2 b hb;exact Heap.lt_size e
 have f3:∀ b∈fp,jg X pins (upd H2 s2.heap.objs.size (.dK [])) b:=λ b hb=>by obtain⟨f0,fr⟩:=f2 b hb;exact⟨by rw[ao (Nat.ne_of_lt (hfb b hb))];exact f0,fr⟩
 have st3:tn 0 (s2.heap.push {cls:=.type "dict",data:=.dict #[]}):=T.keep 0 _ _ st2 λ b _ o e=>Heap.get?_push_of_some _ e;refine yR (cl:=cl) hc L c1 c2 (hg cl) (ht cl) (hk cl) (hv cl) I3 T st3 f3 w0 turn λ C s' H' m I' hC dC hns fin=>?_;refine⟨m,hns,λ h' sb=>?_⟩;have hC2:s2.heap.objs.size<=C:=Nat.le_trans (by rw[Heap.size_push];exact Nat.le_succ _) dC;obtain⟨_,z2,_,_,z3,z4⟩:=I2.oz (H':=λ _=>none) hC2 rfl;have I4:Inv X pins σ H' {s' with heap:=h'}:=I'.turned (t':=s'.toks) (λ b o hb e=>sb.extBut b o hb e) hC z2 (.inr (Nat.le_trans I2.sz hC2)) z3 z4;exact⟨.ref _,_,I4,rfl,fin⟩
end
end L2
namespace D
open L2
section
variable {K:FG}
def dDC(di:TId)(g:TGd)(tt:TTd)(tk tv:TD)(k:Nat)(fr:List Nat)(τ:DS)(M:MH)(Q:QD):Prop:=di τ M λ ws M1=>∀ p,M1 p=none->∃ P:Nat->DS->MH->Prop,P 0 (ac9 k fr τ) (bY M1 p (.dic [])) /\
 (∀ i w τ M,ws[i]? =some w->P i τ M->g w τ M λ τ2 M2=>tt τ2 M2 λ b M3=>if b=true then tk τ2 M3 λ y M4=>tv τ2 M4 λ z M5=>∃ kvs key,M5 p=some (.dic kvs)/\y=kW key/\kvs.length<sizeLine/\P (i+1) τ2 (bY M5 p (.dic (mD kvs key z))) else P (i+1) τ2 M3) /\
 ∀ τ M,P ws.length τ M->Q (.m p) M
theorem abR(h:up K (dDC di g tt tk tv k fr) σ H Q) :
  tDC (upI K di) (upG K g) (upT K tt) (up K tk) (up K tv) k fr σ H Q:=by
 obtain⟨τ,M,Qd,A,h,kk⟩:=h;refine⟨τ,M,_,A,h,λ J H1 ws M1 kp m1 it hall p hp=>?_⟩;obtain⟨P,p0,pt,pe⟩:=hall p (m1.free hp);have kpn:Kp H1 (upd H1 p (.dK [])):=Kp.new hp;have mn:cX K (upd H1 p (.dK [])) (bY M1 p (.dic [])):=m1.put (mo:=.dic []) kpn ⟨_,ar,.nil⟩;refine⟨λ i n σ' H'=>n=ws.length-i/\i<=ws.length/\Kp (upd H1 p (.dK [])) H'/\∃ τ M,Abs K H' σ' τ M/\P i τ M,⟨ws.length,by simp,Nat.zero_le _,Kp.refl _,_,_,tK (A.go (kp.trans kpn) mn) k fr,p0⟩,?_⟩;rintro i n σ2 H2 ⟨rfl,hi,kp2,τ2,M2,A2,p2⟩;obtain⟨go,stop,yld⟩:=it H2 (kpn.trans kp2) i
 by_cases hlt:i<ws.length
 ·refine .inr ⟨go hlt,λ x H3 y=>?_⟩;obtain⟨kp3,mk,w,ew,rw⟩:=yld x H3 hlt y;refine⟨w,τ2,M2,_,rw,A2.go kp3 (mk _ A2.mem),pt i w τ2 M2 ew p2,λ σ4 H4 τ4 M4 kp4 A4 q4=>⟨τ4,M4,_,A4,q4,λ b H5 M5 kp5 m5 q5=>?_⟩⟩;have kq:=(kp3.trans kp4).trans kp5;cases b with
  | false =>
   rw[if_neg Bool.false_ne_true] at q5;exact je ⟨ws.length-(i+1),by omega,rfl,hlt,kp2.trans kq,τ4,M5,A4.go kp5 m5,q5⟩
  | true =>
   rw[if_pos rfl] at q5;refine iL ⟨τ4,M5,_,A4.go kp5 m5,q5,λ ky H6 wy M6 kp6 r6 m6 q6=>⟨τ4,M6,_,A4.go (kp5.trans kp6) m6,q6,λ v H7 wv M7 kp7 r7 m7 hq102=>?_⟩⟩;obtain⟨kvs,key,hm,ey,hl,q7⟩:=hq102;subst ey;obtain⟨l,e,pr⟩:=m7 _ _ hm;have kp8:Kp H7 (upd H7 p (.dK (putK l key v))):=Kp.set e (λ _ z=>nomatch z) (λ _ _ z=>nomatch z);refine⟨l,key,e,jW r6,by rw[<- ux pr];exact hl,ws.length-(i+1),by omega,rfl,hlt,kp2.trans (((kq.trans kp6).trans kp7).trans kp8),τ4,_,A4.go (((kp5.trans kp6).trans kp7).trans kp8) (m7.put (mo:=.dic (mD kvs key wv)) kp8 ⟨_,ar,?_⟩),q7⟩;exact Paired.jL (xE key r7 pr) λ p q z=>⟨z.1,z.2.keep kp8⟩
 ·have hl:i=ws.length:=by omega
  subst hl;refine .inl ⟨stop (Nat.le_refl _),?_⟩;exact kk _ H2 (.m p) M2 (kp.trans (kpn.trans kp2)) rfl A2.mem (pe τ2 M2 p2)
variable {X:Cx}{sc:Scope}{own:List Str}{fr:List Nat}{di:TId}{g:TGd}{tt:TTd}{tk tv:TD}{tg iter kx vx:Expr}{ifs:List Expr}{pos:Pos}
theorem ahb(hc:X.calm=true)(L:qj X sc own fr)(hi:PId X tg iter di)
  (hg:∀ cl C s H ex pl,PGd (blk X sc (lcN X own fr) cl C s H ex pl) tg g)(ht:∀ cl C s H ex pl,vK (blk X sc (lcN X own fr) cl C s H ex pl) ifs tt)(hk:∀ cl C s H ex pl,PD (blk X sc (lcN X own fr) cl C s H ex pl) kx tk)(hv:∀ cl C s H ex pl,PD (blk X sc (lcN X own fr) cl C s H ex pl) vx tv)
  (hs:∀ x,foldedSetIterable iter X.env x=pure x:=by intro _;rfl):PD X (.DictComp kx vx [⟨tg,iter,ifs,0⟩] sc pos) (dDC di g tt tk tv own.length fr):=
 iA (ahz hc L hi hg ht hk hv hs) λ σ H Q h=>abR h
end
end D
open L2 D
theorem ag1(hc:X.calm=true)(L:qj X sc own fr)(hi:Jd (PId X tg iter di))
  (hg:∀ cl C s H ex pl,Jd (PGd (blk X sc (lcN X own fr) cl C s H ex pl) tg g))(ht:∀ cl C s H ex pl,Jd (vK (blk X sc (lcN X own fr) cl C s H ex pl) ifs tt))(hk:∀ cl C s H ex pl,Jd (PD (blk X sc (lcN X own fr) cl C s H ex pl) kx tk))(hv:∀ cl C s H ex pl,Jd (PD (blk X sc (lcN X own fr) cl C s H ex pl) vx tv))
  (hs:∀ x,foldedSetIterable iter X.env x=pure x:=by intro _;rfl):Jd (PD X (.DictComp kx vx [⟨tg,iter,ifs,0⟩] sc pos) (dDC di g tt tk tv own.length fr)):=
 ⟨D.ahb hc L hi.h (λ cl C s H ex pl=>(hg cl C s H ex pl).h) (λ cl C s H ex pl=>(ht cl C s H ex pl).h) (λ cl C s H ex pl=>(hk cl C s H ex pl).h) (λ cl C s H ex pl=>(hv cl C s H ex pl).h) hs⟩
namespace L2
theorem zC(hN:X.N.Nodup)(hi':X.N[i]? =some x)(hx:Loc X.env.scope x)(hc:X.calm=true)(L:qj X sc own fr)(hi:PI X tg iter wi)
  (hg:∀ cl C s H ex pl,PG (blk X sc (lcN X own fr) cl C s H ex pl) tg g)(ht:∀ cl C s H ex pl,PTs (blk X sc (lcN X own fr) cl C s H ex pl) ifs tt)(hk:∀ cl C s H ex pl,PE (blk X sc (lcN X own fr) cl C s H ex pl) kx tk)(hv:∀ cl C s H ex pl,PE (blk X sc (lcN X own fr) cl C s H ex pl) vx tv)
  (hsw:swapsWith (.DictComp kx vx [⟨tg,iter,ifs,0⟩] sc pos) (some (.Name x pos')) spos.line X.env=pure true:=by rfl)
  (hs:∀ x,foldedSetIterable iter X.env x=pure x:=by intro _;rfl)(hf:X.fn x=true\/X.env.scope.names.lookup x=some .local:=by first | exact .inl rfl | exact .inr rfl | assumption) :
  PS X (.Assign [.Name x pos'] (.DictComp kx vx [⟨tg,iter,ifs,0⟩] sc pos) spos) (ahk (tDC wi g tt tk tv own.length fr) (adq i)):=by
 intro pins s σ H D' I h;obtain⟨cl,hcl,c1,c2⟩:=jt L I.ok;rw[exec_Assign_Name_used _ _ _ _ hsw];refine wpAny_bind (wpAny_standAt (wpAny_bind ?_));show wpAny _ _ (evalThenUse (.DictComp kx vx [⟨tg,iter,ifs,0⟩] sc pos) X.env (assign (.Name x pos') X.env)) _ _ _;unfold evalThenUse;refine wpAny_bind ?_;refine wpAny_comprehension_free (use:=some (assign (.Name x pos') X.env)) (g:=⟨tg,iter,ifs,0⟩) (gs:=[]) rfl hs hcl L.kind L.names ?_;refine thn (hi pins s σ H _ I h) λ v s1 h1=>thn h1 λ itv s2 h2=>?_;obtain⟨it,fp,tn,J,H2,e,I2,T,st2,f2,q2⟩:=h2;subst e;obtain⟨W,w0,turn⟩:=q2 _ (I2.hok.fresh (Nat.le_refl s2.heap.objs.size));refine wpAny_newObj_type ?_;have I3:=I2.laid (a:=s2.heap.objs.size) (o:=.dK []) (h':=s2.heap.push {cls:=.type "dict",data:=.dict #[]}) (t':=s2.toks) (λ _ _ q=>Heap.get?_push_of_some _ q) (Nat.le_refl _) (nL s2.heap I2.big);have hfb:∀ b∈fp,b<s2.heap.objs.size:=λ b hb=>by obtain⟨o,e,_⟩:=T.obj 0 _ st2 b hb;exact Heap.lt_size e
 have f3:∀ b∈fp,jg X pins (upd H2 s2.heap.objs.size (.dK [])) b:=λ b hb=>by obtain⟨f0,fr⟩:=f2 b hb;exact⟨by rw[ao (Nat.ne_of_lt (hfb b hb))];exact f0,fr⟩
 have st3:tn 0 (s2.heap.push {cls:=.type "dict",data:=.dict #[]}):=T.keep 0 _ _ st2 λ b _ o e=>Heap.get?_push_of_some _ e;refine yR (cl:=cl) hc L c1 c2 (hg cl) (ht cl) (hk cl) (hv cl) I3 T st3 f3 w0 turn λ C s' H' m I' hC dC hns fin=>?_;have hC2:s2.heap.objs.size<=C:=Nat.le_trans (by rw[Heap.size_push];exact Nat.le_succ _) dC;obtain⟨_,z2,z0,_,z3,z4⟩:=I2.oz (H':=λ _=>none) hC2 rfl;have z1:X.s₀.heap.objs.size<=C:=Nat.le_trans I2.sz hC2;obtain⟨oC,hoC,nsC⟩:∃ o,s'.heap.get? C=some o/\∃ es ep,o.data=.dict es ep:=by obtain⟨o,es,ep,e1,e2,_⟩:=hns;exact⟨o,e1,es,ep,e2⟩
 have I4:Inv X (pins++[(C,oC)]) σ H' s':=I'.fm λ p hp=>by
  rcases List.mem_append.mp hp with z | z
  ·exact I'.pin p (List.mem_append_right _ z)
  ·have e:p=(C,oC):=by simpa using z
   subst e;obtain⟨es,ep,hd⟩:=nsC;exact⟨hoC,hC,z2,z0,λ v z=>by have z':oC.data=.cell v:=z;rw[hd] at z';cases z'⟩
 refine thn (wL (pos:=pos') hN hi' hx hf _ s' σ _ (.ref s2.heap.objs.size) (.ref s2.heap.objs.size) _ I4 rfl fin) λ _ s5 hq103=>?_;obtain⟨σ5,H5,I5,q5⟩:=hq103;have pC:=I5.pin (C,oC) (List.mem_append_right _ (List.mem_append_right _ (List.mem_singleton.mpr rfl)));obtain⟨o,es,ep,e1,e2,e3⟩:=hns;rw[hoC] at e1;cases e1;refine⟨m,⟨oC,es,ep,pC.1,e2,e3⟩,λ h' sb=>?_⟩;have I6:Inv X pins σ5 H5 {s5 with heap:=h'}:=(I5.kE).turned (t':=s5.toks) (λ b o hb e=>sb.extBut b o hb e) pC.2.1 z2 (.inr z1) z3 z4;exact wpAny_pure (wpAny_pure ⟨σ5,H5,I6,q5⟩)
end L2
namespace D
open L2
theorem uN(hN:X.N.Nodup)(hi':X.N[i]? =some x)(hx:Loc X.env.scope x)(hc:X.calm=true)(L:qj X sc own fr)(hi:PId X tg iter di)
  (hg:∀ cl C s H ex pl,PGd (blk X sc (lcN X own fr) cl C s H ex pl) tg g)(ht:∀ cl C s H ex pl,vK (blk X sc (lcN X own fr) cl C s H ex pl) ifs tt)(hk:∀ cl C s H ex pl,PD (blk X sc (lcN X own fr) cl C s H ex pl) kx tk)(hv:∀ cl C s H ex pl,PD (blk X sc (lcN X own fr) cl C s H ex pl) vx tv)
  (hsw:swapsWith (.DictComp kx vx [⟨tg,iter,ifs,0⟩] sc pos) (some (.Name x pos')) spos.line X.env=pure true:=by rfl)
  (hs:∀ x,foldedSetIterable iter X.env x=pure x:=by intro _;rfl)(hf:X.fn x=true\/X.env.scope.names.lookup x=some .local:=by first | exact .inl rfl | exact .inr rfl | assumption) :
  PSd X (.Assign [.Name x pos'] (.DictComp kx vx [⟨tg,iter,ifs,0⟩] sc pos) spos) (cB (dDC di g tt tk tv own.length fr) (gN i)):=
 u7 (zC hN hi' hx hc L hi hg ht hk hv hsw hs hf) λ D σ H h=>by obtain⟨τ,M,Dd,A,h,k1,_⟩:=h;exact abR ⟨τ,M,_,A,h,λ v H1 w M1 kp r m q=>k1 _ H1 _ M1 kp ((A.go kp m).set i r) q⟩
end D
open L2 D
theorem u5(hN:X.N.Nodup)(hi':X.N[i]? =some x)(hx:Loc X.env.scope x)(hc:X.calm=true)(L:qj X sc own fr)(hi:Jd (PId X tg iter di))
  (hg:∀ cl C s H ex pl,Jd (PGd (blk X sc (lcN X own fr) cl C s H ex pl) tg g))(ht:∀ cl C s H ex pl,Jd (vK (blk X sc (lcN X own fr) cl C s H ex pl) ifs tt))(hk:∀ cl C s H ex pl,Jd (PD (blk X sc (lcN X own fr) cl C s H ex pl) kx tk))(hv:∀ cl C s H ex pl,Jd (PD (blk X sc (lcN X own fr) cl C s H ex pl) vx tv))
  (hsw:swapsWith (.DictComp kx vx [⟨tg,iter,ifs,0⟩] sc pos) (some (.Name x pos')) spos.line X.env=pure true:=by rfl)
  (hs:∀ x,foldedSetIterable iter X.env x=pure x:=by intro _;rfl)(hf:X.fn x=true\/X.env.scope.names.lookup x=some .local:=by first | exact .inl rfl | exact .inr rfl | assumption) :
  Jd (PSd X (.Assign [.Name x pos'] (.DictComp kx vx [⟨tg,iter,ifs,0⟩] sc pos) spos) (cB (dDC di g tt tk tv own.length fr) (gN i))):=
 ⟨D.uN hN hi' hx hc L hi.h (λ cl C s H ex pl=>(hg cl C s H ex pl).h) (λ cl C s H ex pl=>(ht cl C s H ex pl).h) (λ cl C s H ex pl=>(hk cl C s H ex pl).h) (λ cl C s H ex pl=>(hv cl C s H ex pl).h) hsw hs hf⟩
namespace D
open L2
end D
open L2 D
namespace D
open L2
end D
open L2 D
namespace D
open L2
section
variable {X:Cx}{K:FG}
end
end D
namespace PySem
namespace Dp
theorem wY:typeLookup (.type "list") "keys" = pure none:=am_miss_of_fast (by decide +kernel)
theorem qr:entryFor table "dict.update.loop" = some Builtin.«dict.update.loop»:=entryFor_of_tree (by kernel_rfl)
theorem i4:plainId "dict.update.loop" = true:=by decide +kernel
section
variable {prog:Program}{w:World}{A:Around}{E:VP}{s:Shared}
set_option maxHeartbeats 1600000 in
theorem ot
  (hx:s.heap.get? a=some {cls:=.type "list",dict:=none,data:=.seq xs k,slots:=sl})(hA:A.handled=none)
  (h:∀ h' tk,(∀ b ob,s.heap.get? b=some ob->h'.get? b=some ob)->Q none {s with heap:=h',toks:=tk}) :
  wpAny (model prog w) A (getAttr? (.ref a) "keys") Q E s:=by
 obtain⟨hp,g,d,tk,os⟩:=s;have hT:∀ tk',(⟨hp,g,d,tk',os⟩:Shared).TypeIs (.ref a) "list":= λ _=>⟨_,hx,rfl⟩;have f1:=sub_AttributeError;have f3:=F.slot_list_getattribute.lookup;have f4:=F.slot_list_getattribute.bind (.ref a);have f5:=am_list_getattr_none;have hsz:("keys" : Str).length+100<=sizeLine:=by size_fits
 have hname:(["__module__", "__name__", "__qualname__", "__doc__", "__annotations__"]:List Str).contains "keys" = false:=by decide +kernel
 unfold getAttr? getAttrBy? getAttrBy
 repeat (any_goals (first | assumption | exact hT _ | ((with_reducible show wpAny _ _ (call (Value.builtin "list.__getattribute__") _ _) _ _ _);refine call_meets F.slot_list_getattribute (hT _) am_entry_list_getattribute (F.args_list_getattribute_2 _ _) (meets_getattribute_miss_list a xs k sl "keys" _ wY hname hsz) ⟨hx,hA,λ h' tk' e hx'=>?_⟩) | wp_step))
 obtain⟨t',u',he⟩:=hx'.there;show wpAny _ _ (getattributeRaised _ _ _ _ _ _ _) _ _ _;unfold getattributeRaised
 repeat (any_goals (first | assumption | wp_step))
 exact h _ _ hx'.keeps
variable {K:Type}[DecidableEq K]{knd:KeyKind prog w K}
theorem loop{I D l:Addr}{items:Array Value}{kvs:List (K×Value)}{R:Result->Shared->Prop}{h0:Heap}(hh:A.handled=none)(hDI:D≠I)(hDl:D≠l)(hlI:l≠I)(hsz:kvs.length<=sizeLine)(hlen:items.size=kvs.length)
  (ht:∀ i (hi:i<kvs.length),∃ a key k dct sl,items[i]? =some (.ref a)/\a≠D/\a≠I/\knd.is kvs[i].1 key=true/\h0.get? a=some {cls:=.type "tuple",dict:=dct,data:=.seq #[key,kvs[i].2] k,slots:=sl}) :
  ∀ (j i:Nat) (s:Shared),kvs.length-i=j->i<=kvs.length->s.heap.IsListIter I l i->s.heap.IsList l items->s.heap.DictOf knd D (merged [] (kvs.take i))->(∀ b o,b≠D->b≠I->h0.get? b=some o->s.heap.get? b=some o) ->
   (∀ h' tk,h'.DictOf knd D (merged [] kvs)->(∀ b o,b≠D->b≠I->h0.get? b=some o->h'.get? b=some o)->R (.ok (.ret .none)) {s with heap:=h',toks:=tk}) ->
   codeAny (model prog w) A (.builtin "dict.update.loop" ⟨[.ref D,.ref I,rawInt i,.none],[]⟩) R s:=by
 intro j
 induction j with
 | zero =>
  intro i s hj hi hit hl hd hk hR;have hin:i=kvs.length:=by omega
  subst hin;refine codeAny_builtin qr ?_;rw[Around.under_plainId i4 _];show wpAny _ A.in1 (pyNext (.ref I) >>= _) _ _ s;refine wpAny_bind (wpAny_pyNext_list_end (by simpa using hh) hit hl (by simp[hlen]) λ h' he'=>?_);show wpAny _ A.in1 (Builtin.Dict.addKeywords D [] >>= _) _ _ _;refine wpAny_bind (wpAny_pure (wpAny_pure ?_));rw[List.take_length] at hd;refine hR h' s.toks ?_ λ b o b1 b2 e=>he' b o b2 (hk b o b1 b2 e);obtain⟨o,es,ep,ho,rest⟩:=hd;exact⟨o,es,ep,he' D o hDI ho,rest⟩
 | succ j ih =>
  intro i s hj hi hit hl hd hk hR;have hlt:i<kvs.length:=by omega
  obtain⟨a,key,k,dct,sl,e1,a1,a2,hkey,e2⟩:=ht i hlt;refine codeAny_builtin qr ?_;rw[Around.under_plainId i4 _];show wpAny _ A.in1 (pyNext (.ref I) >>= _) _ _ s;refine wpAny_bind (wpAny_pyNext_list_item hit hl e1 λ h' hit' hs'=>?_);have e3:h'.get? a=some {cls:=.type "tuple",dict:=dct,data:=.seq #[key,kvs[i].2] k,slots:=sl}:=hs'.extBut a _ a2 (hk a _ a1 a2 e2);have hT:Shared.TypeIs {s with heap:=h'} (.ref a) "tuple":= ⟨_,e3,rfl⟩;have hd':h'.DictOf knd D (merged [] (kvs.take i)):=by obtain⟨o,es,ep,ho,rest⟩:=hd;exact⟨o,es,ep,hs'.extBut D o hDI ho,rest⟩
  have hl':h'.IsList l items:=hl.extBut hs'.extBut hlI;show wpAny _ A.in1 (holding [Value.ref a] _ >>= _) _ _ _;refine wpAny_bind (wpAny_holding ?_);refine wpAny_bind (m:=tryCatch (Builtin.Dict.pairItems (.ref a)) _) (wpAny_tryCatch ?_);unfold Builtin.Dict.pairItems;refine wpAny_bind (wpAny_typeOf hT ?_);rw[if_pos (by decide)];unfold seqItems?;obtain⟨hp,g,d,tk,os⟩:=s;generalize hDS:dictSet=DS
  repeat (any_goals (first | assumption | wp_step))
  subst hDS;have hl2:(merged [] (kvs.take i)).length<=sizeLine:=by have:=merged_length_le [] (kvs.take i);simp at this;omega
  refine wpAny_dictSet_pairs (hsz:=hl2) hkey hd' λ h2 hd2 hs2=>?_;refine wpAny_pure ⟨plainId_quiet i4 _,ih (i+1) _ (by omega) hlt ?_ ?_ ?_ ?_ ?_⟩
  ·exact hit'.at λ o e=>hs2.extBut I o (Ne.symm hDI) e
  ·exact hl'.extBut hs2.extBut (Ne.symm hDl)
  ·rw[merged_take_succ [] kvs i kvs[i] (List.getElem?_eq_getElem hlt)];exact hd2
  ·exact λ b o b1 b2 e=>hs2.extBut b o b1 (hs'.extBut b o b2 (hk b o b1 b2 e))
  ·exact λ h' tk d k=>hR h' tk d k
set_option maxHeartbeats 1600000 in
theorem lq{l:Addr}{items:Array Value}{kk:Nat}{sl0:Array (Option Value)}{kvs:List (K×Value)}(hh:A.handled=none)(hsz:kvs.length<=sizeLine)(hlen:items.size=kvs.length)
  (hl:s.heap.get? l=some {cls:=.type "list",dict:=none,data:=.seq items kk,slots:=sl0})
  (ht:∀ i (hi:i<kvs.length),∃ a key k dct sl,items[i]? =some (.ref a)/\knd.is kvs[i].1 key=true/\s.heap.get? a=some {cls:=.type "tuple",dict:=dct,data:=.seq #[key,kvs[i].2] k,slots:=sl})
  (h:∀ h' tk,h'.DictOf knd s.heap.objs.size (merged [] kvs)->(∀ b o,s.heap.get? b=some o->h'.get? b=some o)->Q (.ref s.heap.objs.size) {s with heap:=h',toks:=tk}) :
  wpAny (model prog w) A (call (.type "dict") [.ref l]) Q E s:=by
 refine callType_codes (Q₁:=λ obj s₁=>obj=.ref s.heap.objs.size/\s₁={s with heap:=s.heap.push {cls:=.type "dict",data:=.dict #[]}}) F.kt_called_dict (F.kt_typeCall_dict_1 _) F.entry_dict_init (kt_code_dict_new _ ⟨rfl,rfl⟩) ?_;rintro obj s₁ ⟨rfl,rfl⟩;have hnew:(s.heap.push {cls:=.type "dict",data:=.dict #[]}).DictOf knd s.heap.objs.size []:=Heap.DictOf.new s.heap;have hl1:(s.heap.push {cls:=.type "dict",data:=.dict #[]}).get? l=some {cls:=.type "list",dict:=none,data:=.seq items kk,slots:=sl0}:=Heap.get?_push_of_some _ hl;have hT:Shared.TypeIs {s with heap:=s.heap.push {cls:=.type "dict",data:=.dict #[]}} (.ref l) "list":= ⟨_,hl1,rfl⟩;refine⟨hnew.typeIs,F.args_dict_init_2 _ _,?_⟩;unfold Builtin.«dict.__init__»;refine wpAny_bind ?_;unfold Builtin.Dict.selfAndRest;refine wpAny_bind (wpAny_notOrdered_dict hnew.typeIs ?_);show wpAny _ _ (pure (s.heap.objs.size,[Value.ref l])) _ _ _;refine wpAny_pure ?_;show wpAny _ _ (Builtin.Dict.updateFrom "dict.__init__" s.heap.objs.size (.ref l) [] .none) _ _ _;unfold Builtin.Dict.updateFrom;refine wpAny_bind (wpAny_typeOf hT ?_);rw[if_pos (by decide)];refine wpAny_bind (ot hl1 (by simpa using hh) λ h2 tk2 k2=>?_);rw[if_pos (by rfl)];have hl2:h2.get? l=some {cls:=.type "list",dict:=none,data:=.seq items kk,slots:=sl0}:=k2 _ _ hl1;have il2:h2.IsList l items:=⟨_,hl2,rfl,kk,rfl⟩;refine wpAny_bind (wpAny_rule (wpAny_bind (wpAny_pyIter_list il2 ?_)));have z:s.heap.objs.size<h2.objs.size:=by obtain⟨o,_,_,ho,_⟩:=hnew;exact Heap.lt_size (k2 _ _ ho)
 have zl:l<s.heap.objs.size:=Heap.lt_size hl;have d2:h2.DictOf knd s.heap.objs.size []:=by obtain⟨o,es,ep,ho,rest⟩:=hnew;exact⟨o,es,ep,k2 _ _ ho,rest⟩
 refine wpAny_pure ⟨plainId_quiet i4 _,loop (knd:=knd) (h0:=h2) (by simpa using hh) (Nat.ne_of_lt z) (Ne.symm (Nat.ne_of_lt zl)) (Nat.ne_of_lt (Nat.lt_trans zl z)) hsz hlen (λ i hi=>?_) kvs.length 0 _ (by omega) (Nat.zero_le _) ⟨_,Heap.get?_push_size _ rfl,rfl,rfl⟩ (il2.push _) ?_ (λ b o _ _ e=>Heap.get?_push_of_some _ e) λ h' tk dd keep=>?_⟩
 ·obtain⟨a,key,k,dct,sl,e1,hk,e2⟩:=ht i hi;have za:a<s.heap.objs.size:=Heap.lt_size e2;exact⟨a,key,k,dct,sl,e1,Nat.ne_of_lt za,Nat.ne_of_lt (Nat.lt_trans za z),hk,k2 _ _ (Heap.get?_push_of_some _ e2)⟩
 ·exact d2.push _
 ·refine⟨rfl,h h' tk dd λ b o e=>?_⟩;have zb:b<s.heap.objs.size:=Heap.lt_size e;exact keep b o (Nat.ne_of_lt zb) (Nat.ne_of_lt (Nat.lt_trans zb z)) (k2 _ _ (Heap.get?_push_of_some _ e))
end
end Dp
end PySem
namespace D
open L2
section
variable {X:Cx}{K:FG}
theorem pairs_at(I:Inv X pins σ H s):∀ {kvs:List (Key×V)} {vs:List V} {its:List Value},Paired (λ(v:V) (kv:Key×V)=>∃ a,v=.ref a/\SqT X.K H a [kV kv.1,kv.2]) vs kvs->Vals vs its ->
  ∃ ks:List (Key×Value),KV kvs ks/\its.length=ks.length/\∀ i (hi:i<ks.length),∃ a key k dct sl,its[i]? =some (.ref a)/\(bu X.prog X.w).is ks[i].1 key=true/\s.heap.get? a=some {cls:=.type "tuple",dict:=dct,data:=.seq #[key,ks[i].2] k,slots:=sl}
 | _,_,_,.nil,.nil=>⟨[],.nil,rfl,λ i hi=>by simp at hi⟩
 | _,_,_,.cons (b:=b) ⟨a,ea,hq⟩ t,.cons r1 r2=>by
  obtain⟨ks,h1,h2,h3⟩:=pairs_at I t r2;subst ea;cases r1;obtain⟨its,rv,⟨o,e1,e2,n,e3⟩,_⟩:=I.tuple hq;obtain⟨c,dct,dat,sl⟩:=o;simp only at e2 e3;subst e2 e3;cases rv with
  | @cons _ u1 _ _ q1 rv1 =>
  cases rv1 with
  | @cons _ u2 _ _ q2 rv2 =>
  cases rv2;refine⟨(b.1,u2)::ks,.cons ⟨rfl,q2⟩ h1,by simp[h2],λ i hi=>?_⟩;cases i with
  | zero=>exact⟨a,u1,n,dct,sl,rfl,vb q1,e1⟩
  | succ i =>
   have hi':i<ks.length:=by simpa using hi
   obtain⟨a',key,k',dct',sl',z1,z2,z3⟩:=h3 i hi';exact⟨a',key,k',dct',sl',by simpa using z1,z2,z3⟩
theorem wG:∀ {kvs:List (Key×V)} {ks:List (Key×Value)},KV kvs ks->ks.map (·.1)=kvs.map (·.1)
 | _,_,.nil=>rfl
 | _,_,.cons r t=>by rw[List.map_cons,List.map_cons,wG t,r.1]
theorem sG(hc:X.calm=true):eI X (.type "dict") (λ xs H Q=>∃ p vs,∃ kvs:List (Key×V),xs=[.ref p]/\SqL X.K H p vs/\Paired (λ(v:V) (kv:Key×V)=>∃ a,v=.ref a/\SqT X.K H a [kV kv.1,kv.2]) vs kvs/\(kvs.map (·.1)).Nodup/\∀ l,H l=none->Q (.ref l) (upd H l (.dK kvs))):=by
 intro pins s σ H xs us Q I r h;obtain⟨p,vs,kvs,rfl,hq,pr,nd,q⟩:=h;obtain⟨u,rfl,rx⟩:=vals1 r;cases rx;obtain⟨its,rv,⟨o,n,e0,e1,e2,e3⟩,hz⟩:=I.list hq;obtain⟨c,dct,dat,sl⟩:=o;simp only at e1 e2 e3;subst e1 e2 e3;obtain⟨ks,rel,hl,hk⟩:=pairs_at I pr rv;have hz2:ks.length<=sizeLine:=by rw[<- hl];have:=rv.length;omega
 have nd2:(ks.map (·.1)).Nodup:=by rw[wG rel];exact nd
 refine Dp.lq (knd:=bu X.prog X.w) (I.ok.hd hc) hz2 (by simpa using hl) e0 (λ i hi=>?_) λ h' tk dd keep=>?_
 ·obtain⟨a,key,k,dct,sl,z1,z2,z3⟩:=hk i hi;exact⟨a,key,k,dct,sl,by simpa using z1,z2,z3⟩
 ·rw[merged_nil_of_nodup ks nd2] at dd;exact⟨.ref _,_,I.laid (a:=s.heap.objs.size) (o:=.dK kvs) (t':=tk) keep (Nat.le_refl _) (tH (by rw[rel.length];exact hz2) (beq_eq_false_iff_ne.mpr (Ne.symm (Nat.ne_of_lt I.big))) rel dd),rfl,q _ (I.hok.fresh (Nat.le_refl _))⟩
def pairD(p:Key×PyData):PyData:=.tuple [rg p.1,p.2]
def uf(ws:List W)(M:MH)(Q:QD):Prop:=∃ w,∃ kds:List (Key×PyData),ws=[w]/\zm M w (kds.map pairD)/\(kds.map (·.1)).Nodup/\∀ p,M p=none->Q (.m p) (bY M p (.dic (bA kds)))
theorem ml:∀ {kds:List (Key×PyData)} {ys:List V},bt K H (kds.map pairD) ys->∃ kvs:List (Key×V),Paired (λ(v:V) (kv:Key×V)=>∃ a,v=.ref a/\SqT K H a [kV kv.1,kv.2]) ys kvs/\Paired (λ(p:Key×W) (q:Key×V)=>p.1=q.1/\aO K H p.2 q.2) (bA kds) kvs
 | [],ys,h=>by
  have e:ys=[]:=by simpa [bt] using h
  subst e;exact⟨[],.nil,.nil⟩
 | kd::kds,ys,h=>by simp only[List.map_cons,pairD,bt,aG] at h;obtain⟨v,ys,rfl,⟨a,zs,ev,hq,v1,zs1,e1,rk,v2,zs2,e2,rx,e3⟩,rest⟩:=h;obtain⟨kvs,h1,h2⟩:=ml rest;have ek:=sk rk;subst e1 e2 e3 ek ev;exact⟨(kd.1,v2)::kvs,.cons ⟨a,rfl,hq⟩ h1,.cons ⟨rfl,rx⟩ h2⟩
theorem xk:∀ {kds:List (Key×PyData)} {kvs:List (Key×V)},Paired (λ(p:Key×W) (q:Key×V)=>p.1=q.1/\aO K H p.2 q.2) (bA kds) kvs->kvs.map (·.1)=kds.map (·.1)
 | [],_,.nil=>rfl
 | kd::kds,_,.cons r t=>by rw[List.map_cons,List.map_cons,xk t,<- r.1]
theorem vJ:fH K (λ xs H Q=>∃ p vs,∃ kvs:List (Key×V),xs=[.ref p]/\SqL K H p vs/\Paired (λ(v:V) (kv:Key×V)=>∃ a,v=.ref a/\SqT K H a [kV kv.1,kv.2]) vs kvs/\(kvs.map (·.1)).Nodup/\∀ l,H l=none->Q (.ref l) (upd H l (.dK kvs))) uf:=by intro vs H ws M Qd Q r m ⟨w,kds,e,g,nd,q⟩ k;subst e;obtain⟨v,e1,r1⟩:=eU r;obtain⟨p,ys,ev,hs,ra⟩:=g.sound r1 m;subst ev;obtain⟨kvs,h1,h2⟩:=ml ra;refine⟨p,ys,kvs,e1,hs,h1,by rw[xk h2];exact nd,λ l hl=>?_⟩;have kp:Kp H (upd H l (.dK kvs)):=Kp.new hl;exact k _ _ (.m l) _ kp rfl (m.put (mo:=.dic (bA kds)) kp ⟨kvs,ar,Paired.jL h2 λ p q z=>⟨z.1,z.2.keep kp⟩⟩) (q l (m.free hl))
end
end D
namespace Stc
open L2 D Rc
end Stc
namespace D
open L2
section
variable {X:Cx}{K:FG}
def ah8:V->V->V->Hp->(Hp->Prop)->Prop:=λ o i v H Q=>∃ a H',o=.ref a/\ahv H a i v H'/\Q H'
theorem set_dict(hu:X.A.units+1<cLine):ahi X ah8:=by intro pins s σ H o i v ov iv u Q I ro ri rv h;obtain⟨a,H',rfl,g,q⟩:=h;obtain rfl:ov=Value.ref a:=ro;exact pQ hu I g ri rv λ s4 I4=>⟨H',I4,q⟩
def ag3(t:TS):TS:=λ D σ H=>∃ a l,H a=some (.dK l)/\∀ o,t
 {nx:=λ σ' H'=>H' a=some (.frz o (.frz o (.dK l)))/\D.nx σ' (upd H' a (.dK l)),rt:=λ v H'=>H' a=some (.frz o (.frz o (.dK l)))/\D.rt v (upd H' a (.dK l)),
  bk:=λ σ' H'=>H' a=some (.frz o (.frz o (.dK l)))/\D.bk σ' (upd H' a (.dK l)),ct:=λ σ' H'=>H' a=some (.frz o (.frz o (.dK l)))/\D.ct σ' (upd H' a (.dK l))} σ (upd H a (.frz o (.frz o (.dK l))))
theorem aax{st:Stmt}{t:TS}(h:PS X st t):PS X st (ag3 t):=by
 intro pins s σ H D I ⟨a,l,ha,q⟩;obtain⟨o,I1⟩:=Inv.ag5 I ha;refine thn (h pins s σ _ _ I1 (q o)) λ f s1 hf=>?_;cases f with
 | next=>obtain⟨σ',H',I2,e,q2⟩:=hf;exact⟨σ',_,Inv.again I ha I2 e,q2⟩
 | brk=>obtain⟨σ',H',I2,e,q2⟩:=hf;exact⟨σ',_,Inv.again I ha I2 e,q2⟩
 | cont=>obtain⟨σ',H',I2,e,q2⟩:=hf;exact⟨σ',_,Inv.again I ha I2 e,q2⟩
 | ret u=>obtain⟨v,σ',H',I2,r,e,q2⟩:=hf;exact⟨v,σ',_,Inv.again I ha I2 e,r,q2⟩
def yV(t:TSd)(D:Ed)(τ:DS)(M:MH):Prop:=∃ a kvs,M a=some (.dic kvs)/\t
 {nx:=λ τ' M'=>M' a=some (.fdic kvs)/\D.nx τ' (bY M' a (.dic kvs)),rt:=λ w M'=>M' a=some (.fdic kvs)/\D.rt w (bY M' a (.dic kvs)),
  bk:=λ τ' M'=>M' a=some (.fdic kvs)/\D.bk τ' (bY M' a (.dic kvs)),ct:=λ τ' M'=>M' a=some (.fdic kvs)/\D.ct τ' (bY M' a (.dic kvs))} τ (bY M a (.fdic kvs))
theorem Abs.back(h:H a=some (.frz o (.frz o (.dK l))))(A:Abs K H σ τ M)(e:M a=some (.fdic kvs)):Abs K (upd H a (.dK l)) σ τ (bY M a (.dic kvs)):=
 ⟨A.len,λ i w q=>let ⟨v,q1,r⟩:=A.val i w q; ⟨v,q1,aO.back h r⟩,cX.back h A.mem e⟩
end
theorem uy{st:Stmt}{t:TSd}(h:Jd (PSd X st t)):Jd (PSd X st (yV t)):=⟨have h:=h.h;u7 (aax h) λ D σ H hq104=>by
 obtain⟨τ,M,Dd,A,⟨a,kvs,hm,q⟩,k1,k2,k3,k4⟩:=hq104;obtain⟨l,e,pr⟩:=A.mem _ _ hm;refine⟨a,l,e,λ o=>?_⟩;have kp:Kp H (upd H a (.frz o (.frz o (.dK l)))):=Kp.set e (λ _ z=>nomatch z) (λ _ _ z=>nomatch z);have m1:cX X.K (upd H a (.frz o (.frz o (.dK l)))) (bY M a (.fdic kvs)):=A.mem.put (mo:=.fdic kvs) kp ⟨o,l,ar,Paired.jL pr λ p q z=>⟨z.1,z.2.keep kp⟩⟩;have kpb:∀ H',Kp (upd H a (.frz o (.frz o (.dK l)))) H'->Kp H (upd H' a (.dK l)):=λ H' kp'=>⟨λ b xs z=>by
   have hb:b≠a:=λ y=>by rw[y,e] at z;cases z
   rw[ao hb];exact kp'.tup b xs (by rw[ao hb];exact z),λ b ob u z=>by
   have hb:b≠a:=λ y=>by rw[y,e] at z;cases z
   rw[ao hb];exact kp'.frz b ob u (by rw[ao hb];exact z)⟩
 refine⟨τ,_,_,A.go kp m1,q,?_,?_,?_,?_⟩
 ·rintro σ' H' τ' M' kp' A' ⟨h1,q1⟩;have e':=kp'.frz a o _ ar;exact⟨e',k1 _ _ _ _ (kpb H' kp') (Abs.back e' A' h1) q1⟩
 ·rintro v H' w M' kp' r' m' ⟨h1,q1⟩;have e':=kp'.frz a o _ ar;exact⟨e',k2 _ _ _ _ (kpb H' kp') (aO.back e' r') (cX.back e' m' h1) q1⟩
 ·rintro σ' H' τ' M' kp' A' ⟨h1,q1⟩;have e':=kp'.frz a o _ ar;exact⟨e',k3 _ _ _ _ (kpb H' kp') (Abs.back e' A' h1) q1⟩
 ·rintro σ' H' τ' M' kp' A' ⟨h1,q1⟩;have e':=kp'.frz a o _ ar;exact⟨e',k4 _ _ _ _ (kpb H' kp') (Abs.back e' A' h1) q1⟩⟩
end D
namespace S
open PySem PySem.W PyProof.Rows
def PR(N:Nat)(p:Array Nat):Prop:=p.Perm (List.toArray (List.range N))
theorem PR.low(hN:1<=N)(h:PR N p):Low N p:=.of hN λ x hx=>by
 have:=(Array.perm_iff_toList_perm.mp h).mem_iff.mp hx
 simpa using this
theorem PR.rev(h:PR N p):PR N (kas_rev p i j):=(mirror_perm _ _ _ _:(kas_rev p i j).Perm p).trans h
theorem xZ(lt:Nat->Nat->Bool):∀ {t:KasT α},kg N R t->R (go lt t)
 | .ret _,h=>h
 | .ask i j k,h=>xZ lt (t:=k (lt i j)) (h.2.2 (lt i j))
theorem nA(hN:1<=N):∀ (f:Nat) {p:Array Nat} (n q:Nat),PR N p->kg N (λ r=>PR N r.1) (kas_desc f p n q)
 | 0,p,n,q,h=>h
 | f+1,p,n,q,h=>⟨h.low hN _,h.low hN _,λ b=>by
  cases b with
  | true =>
   simp only[if_true]
   split
   ·exact nA hN f (n+1) 0 h.rev
   ·exact nA hN f (n+1) 0 h
  | false =>
   simp only[Bool.false_eq_true,if_false];refine⟨h.low hN _,h.low hN _,λ b=>?_⟩;cases b with
   | true=>exact h
   | false=>exact nA hN f (n+1) (q+1) h⟩
theorem ub(hN:1<=N)(h:PR N p):kg N (λ(r:Nat×Array Nat)=>PR N r.2) (kas_tail3 n m p):=by
 unfold kas_tail3;refine kg.bind (λ k _=>?_) (i7 (h.rev.low hN) _ _);exact(h.rev:PR N (kas_rev p 0 n))
theorem lW(hN:1<=N)(h:PR N p):kg N (λ r=>PR N r.2) (kas_descPart n m p):=(nA hN _ _ _ h).bind λ r hr=>by
 split
 ·exact ub hN hr.rev
 ·exact ub hN hr
theorem aab(hN:1<=N)(h:PR N p):kg N (λ r=>PR N r.2) (kas_count m p):=(i7 (h.low hN) _ _).bind λ n _=>by
 split
 ·exact h
 ·split
  ·refine⟨h.low hN _,h.low hN _,λ b=>?_⟩;cases b with
   | true=>exact h
   | false=>exact lW hN h.rev
  ·exact lW hN h
theorem abf(hN:1<=N):∀ (f:Nat) {p:Array Nat} (k:Nat),PR N p->kg N (PR N) (kas_bin f p k)
 | 0,_,_,h=>h
 | f+1,p,k,h=>(gJ (h.low hN) _ _ _).bind λ l _=>abf hN f (k+1) ((bubble_perm _ _ _:(bubble p k (k-l)).Perm p).trans h)
theorem adn(hN:1<=N):kg N (PR N) (kas_sort N):=(aab hN (Array.Perm.refl _)).bind λ r hr=>by
 split
 ·exact abf hN _ _ hr
 ·exact hr
theorem km(lt:Nat->Nat->Bool)(n:Nat):(iO lt n).Perm (List.range n):=by
 unfold iO
 by_cases z:n<2
 ·rw[if_pos z]
 ·rw[if_neg z];have:=Array.perm_iff_toList_perm.mp (show PR n (go lt (kas_sort n)) from xZ lt (adn (N:=n) (by omega)))
  simpa using this
end S
namespace D
open L2 S
section
variable {X:Cx}{K:FG}
end
def ahp(M:MH):Nat->W->PyData->Prop
 | 0,w,d=>w=.d d
 | n+1,w,d=>w=.d d\/(∃ a ws ds,w=.m a/\M a=some (.lst ws)/\d=.list ds/\Paired (ahp M n) ws ds)\/∃ a ws ds,w=.m a/\M a=some (.tup ws)/\d=.tuple ds/\Paired (ahp M n) ws ds
theorem ahp.d:∀ {n:Nat},ahp M n (.d x) x
 | 0=>rfl
 | _+1=>.inl rfl
section
variable {X:Cx}{K:FG}
end
section
variable {K:FG}{H:Hp}{a:Addr}{o:Obj}{l:List V}
end
theorem ahB(h:us.length=0):us=[]:=by exact List.eq_nil_of_length_eq_zero h
theorem aaI(h:us.length=1):∃ a1:Value,us=[a1]:=by
 cases us with
 | nil=>simp at h
 | cons a r =>
  have e:r=[]:=ahB (by simpa using h);subst e;exact⟨a,rfl⟩
theorem aeG(h:us.length=2):∃ a1 a2:Value,us=[a1,a2]:=by
 cases us with
 | nil=>simp at h
 | cons a r =>
  obtain⟨b1,e⟩:=aaI (us:=r) (by simpa using h);subst e;exact⟨a,b1,rfl⟩
theorem aeI(h:us.length=3):∃ a1 a2 a3:Value,us=[a1,a2,a3]:=by
 cases us with
 | nil=>simp at h
 | cons a r =>
  obtain⟨b1,b2,e⟩:=aeG (us:=r) (by simpa using h);subst e;exact⟨a,b1,b2,rfl⟩
theorem aht(h:us.length=4):∃ a1 a2 a3 a4:Value,us=[a1,a2,a3,a4]:=by
 cases us with
 | nil=>simp at h
 | cons a r =>
  obtain⟨b1,b2,b3,e⟩:=aeI (us:=r) (by simpa using h);subst e;exact⟨a,b1,b2,b3,rfl⟩
section
variable {X:Cx}{K:FG}
end
section
variable {X:Cx}{K:FG}
end
section
variable {X:Cx}{K:FG}
end
section
variable {K:FG}
variable {X:Cx}{sc:Scope}{own:List Str}{fr:List Nat}{di:TId}{g:TGd}{tt:TTd}{te:TD}{tg iter elt:Expr}{ifs:List Expr}{pos:Pos}
end
section
variable {X:Cx}{tg iter elt:Expr}{pos:Pos}{sc:Scope}{own:List Str}{fr:List Nat}{di:TId}{g:TGd}{tt:TTd}{te:TD}{ifs:List Expr}
end
end D
namespace XO
open PySem.W Builtin.ObjectAttr
def l5:List Value:=[.type "ValueError",.type "Exception",.type "BaseException",.type "object"]
def eJ:List Value->Bool
 | .ref _::r=>eJ r
 | l=>l==l5
theorem nj{l:List Value}(h:eJ l=true):l.isEmpty=false:=by
 cases l with
 | nil=>exact absurd h (by decide)
 | cons _ _=>rfl
theorem mQ{l:List Value}(h:eJ l=true):(∃ a r,l=.ref a::r/\eJ r=true)\/l=l5:=by
 cases l with
 | nil=>exact absurd h (by decide)
 | cons v r =>
  cases v<;>first | exact .inl ⟨_,_,rfl,h⟩ | exact .inr (eq_of_beq (by simpa only[eJ] using h))
theorem nz(T:String)(hT:l5.contains (.type T)=true):∀ {l:List Value},eJ l=true->l.contains (.type T)=true:=by
 intro l
 induction l with
 | nil=>intro h;exact absurd h (by decide)
 | cons v r ih =>
  intro h;rcases mQ h with ⟨a,r',e,q⟩ | e
  ·cases e;rw[List.contains_cons,ih q,Bool.or_true]
  ·rw[e];exact hT
theorem rD(self:Value):∀ {l:List Value},eJ l=true->refuseLoop self "__setattr__" l=pure ():=by
 intro l
 induction l with
 | nil=>intro h;exact absurd h (by decide)
 | cons v r ih =>
  intro h;rcases mQ h with ⟨a,r',e,q⟩ | e
  ·cases e;rw[refuseLoop_ref];exact ih q
  ·rw[e];exact PySem.F.store_ValueError.passes self
def abc(K:Frag)(C:Addr):Bool:=(clsIn K C).any λ cd=>cd.hasDict&&eJ cd.mro
theorem fo{K:Frag}{C:Addr}(h:abc K C=true):∃ cd,clsIn K C=some cd/\cd.hasDict=true/\eJ cd.mro=true:=by obtain⟨cd,e,q⟩:=any_some h;simp only[Bool.and_eq_true] at q;exact⟨cd,e,q.1,q.2⟩
section
variable {prog:Program}{w:World}{A:Around}{E:VP}{s:Shared}{K:Frag}{x C:Addr}{name:Str}{v:Value}
theorem aiE{M:Model}{h:Heap}{ox:Obj}{od:Option Obj}(X:K.In h)(c:abc K C=true)(I:W.InstAt h x ox C od){T:String}(hT:l5.contains (.type T)=true):Looks M h (isInstance (.ref x) (.type T)) true:=by obtain⟨cd,hc,_,hm⟩:=fo c;refine I.type.andThen (looks_mroIn X ?_);unfold mroIn;rw[hc,Option.bind_some,if_neg (by rw[nj hm];decide),nz T hT hm]
theorem aiH{R:Result->Shared->Prop}{ox:Obj}{od:Option Obj}{tk:Tok}(X:K.In s.heap)(I:W.InstAt s.heap x ox C od)(c:abc K C=true)(na:findIn K (.ref C) name=some none)
  (h:∀ b,wpAny (model prog w) A.in1 (storeInOwnDict (.ref x) (.ref C) (.str name tk) name v b)
   (λ fin s'=>match fin with | .done f=>R (.ok f) s' | .again c'=>c'.quiet=true/\codeAny (model prog w) A c' R s') (λ e s'=>R (.error e) s') s) :
  codeAny (model prog w) A (.call (.builtin "object.__setattr__") ⟨[.ref x,.str name tk,v],[]⟩) R s:=by
 obtain⟨cd,hc,_,hm⟩:=fo c;have S:=PySem.F.store_object;refine codeAny_call_builtin S.slot.plain S.entry (@check_slot (model prog w) _ _ s "object.__setattr__" "object" "__setattr__" (.ref x) [.str name tk,v] [] _ S.kind S.split (aiE X c I (by decide)) (S.args (.ref x) (.str name tk) v) ?_);rw[osa_eq,refuse_eq];have hm':Looks (model prog w) s.heap (mroOf (.ref C)) cd.mro:=(looks_clsIn X hc).andThen .now;refine wpAny_bind (wpAny_bind (I.type.here (wpAny_bind (hm'.here ?_))));rw[rD _ hm];refine wpAny_pure ?_;exact wpAny_bind (I.type.here (wpAny_bind ((looks_findIn X na).here (wpAny_bind (wpAny_pure (h _))))))
theorem ahM{Q:Unit->Shared->Prop}{vs:Array Value}{sl:Array (Option Value)}(X:K.In s.heap)(c:abc K C=true)(sa:findIn K (.ref C) "__setattr__" = some (some (.builtin "object.__setattr__")))
  (na:findIn K (.ref C) name=some none)(hx:s.heap.get? x=some ⟨.ref C,none,.fields vs,sl⟩)
  (h:∀ h' tk dx,s.heap.objs.size<=dx->dx≠x->h'.get? x=some ⟨.ref C,some dx,.fields vs,sl⟩->h'.Ns1 dx (λ y=>if y=name then some v else none)->(∀ b o,b≠x->s.heap.get? b=some o->h'.get? b=some o)->Q () {s with heap:=h',toks:=tk}) :
  wpAny (model prog w) A (setAttr (.ref x) name v) Q E s:=by
 have I:W.InstAt s.heap x ⟨.ref C,none,.fields vs,sl⟩ C none:=⟨hx,rfl,rfl,True.intro⟩;refine set_plain X I sa (aiH (s:={s with toks:=s.toks+1}) X I c na λ b=>?_);obtain⟨cd,hc,hd,_⟩:=fo c;refine wpAny_bind (wpAny_pure (wpAny_bind (wpAny_bind (wpAny_loadPart hx (wpAny_bind (W.Looks.here (s:={s with toks:=s.toks+1}) (looks_clsIn X hc) ?_))))));rw[hd];have lx:x<s.heap.objs.size:=Heap.lt_size hx;have ne:s.heap.objs.size≠x:=Nat.ne_of_gt lx;refine wpAny_bind (wpAny_alloc' (wpAny_bind (wpAny_update' (Heap.get?_push_of_some _ hx) (wpAny_pure ?_))));have e1:((s.heap.push {cls:=.type "dict",data:=.dict #[]}).update x λ o=>{o with dict:=some s.heap.objs.size}).get? s.heap.objs.size=some {cls:=.type "dict",data:=.dict #[]}:=
  (Heap.get?_update_ne _ _ _ _ ne).trans (Heap.get?_push_at rfl rfl)
 have e2:((s.heap.push {cls:=.type "dict",data:=.dict #[]}).update x λ o=>{o with dict:=some s.heap.objs.size}).get? x=some ⟨.ref C,some s.heap.objs.size,.fields vs,sl⟩:=
  Heap.get?_update_self _ (Heap.get?_push_of_some _ hx) rfl
 have e3:((s.heap.push {cls:=.type "dict",data:=.dict #[]}).update x λ o=>{o with dict:=some s.heap.objs.size}).Ns s.heap.objs.size (λ _=>none):=⟨_,#[],_,e1,rfl,λ _ z=>absurd z (by simp),λ _=>rfl⟩;refine wpAny_bind (wpAny_pure (wpAny_bind (wpAny_nsSet1 (Heap.Ns1.of_empty e3) λ h2 n2 sb=>?_)));obtain⟨oD,esD,epD,g1,g2,g3⟩:=n2.count (PySem.Within.cons name v PySem.Within.nil);refine wpAny_bind (wpAny_lookBehind g1 (by rw[g2];exact pastItsLine_dict (Nat.le_trans g3 (by rw[List.length_cons,List.length_nil,sizeLine_eq];omega))) (wpAny_pure ?_));exact h h2 _ _ (Nat.le_refl _) ne ((sb.2 x (Ne.symm ne)).trans e2) n2 λ b o hb z=>(sb.2 b (Nat.ne_of_lt (Heap.lt_size z))).trans ((Heap.get?_update_ne _ _ _ _ hb).trans (Heap.get?_push_of_some _ z))
theorem ahZ{Q:Unit->Shared->Prop}{vs:Array Value}{sl:Array (Option Value)}{dx:Addr}{mA:Str->Option Value}{ns:List Str}(X:K.In s.heap)(c:abc K C=true)(sa:findIn K (.ref C) "__setattr__" = some (some (.builtin "object.__setattr__")))
  (na:findIn K (.ref C) name=some none)(hx:s.heap.get? x=some ⟨.ref C,some dx,.fields vs,sl⟩)(hd:s.heap.Ns1 dx mA)(hw:PySem.Within mA ns)(hz:ns.length<=1000)
  (h:∀ h' tk,h'.Ns1 dx (λ y=>if y=name then some v else mA y)->(∀ b o,b≠dx->s.heap.get? b=some o->h'.get? b=some o)->Q () {s with heap:=h',toks:=tk}) :
  wpAny (model prog w) A (setAttr (.ref x) name v) Q E s:=by
 obtain⟨od,es,ep,hod,r⟩:=id hd;have I:W.InstAt s.heap x ⟨.ref C,some dx,.fields vs,sl⟩ C (some od):=⟨hx,rfl,rfl,hod⟩;refine set_plain X I sa (aiH (s:={s with toks:=s.toks+1}) X I c na λ b=>?_);obtain⟨cd,hc,hcd,_⟩:=fo c;refine wpAny_bind (wpAny_pure (wpAny_bind (wpAny_bind (wpAny_loadPart hx (wpAny_bind (W.Looks.here (s:={s with toks:=s.toks+1}) (looks_clsIn X hc) ?_))))));rw[hcd];refine wpAny_pure (a:=some dx) (wpAny_bind (wpAny_pure (wpAny_bind (wpAny_nsSet1 (s:={s with toks:=s.toks+1}) hd λ h2 n2 sb=>?_))));obtain⟨oD,esD,epD,g1,g2,g3⟩:=n2.count (PySem.Within.cons name v hw);refine wpAny_bind (wpAny_lookBehind g1 (by rw[g2];exact pastItsLine_dict (Nat.le_trans g3 (by rw[List.length_cons,sizeLine_eq];omega))) (wpAny_pure ?_));exact h h2 _ n2 λ b o hb z=>(sb.2 b hb).trans z
end
section
variable {prog:Program}{w:World}{A:Around}{E:VP}{s:Shared}{K:Frag}{x C:Addr}{name:Str}{v:Value}{ox:Obj}{od:Option Obj}
theorem adw:builtinKind "BaseException.__getattribute__" = some .slot:=by decide +kernel
theorem zO:splitId "BaseException.__getattribute__" = some ("BaseException", "__getattribute__"):=by decide +kernel
structure XC(K:Frag)(C:Addr):Prop where
 x:abc K C=true
 sa:findIn K (.ref C) "__setattr__" = some (some (.builtin "object.__setattr__"))
 ga:findIn K (.ref C) "__getattribute__" = some (some (.builtin "BaseException.__getattribute__"))
 gt:findIn K (.ref C) "__getattr__" = some none
 cl:findIn K (.ref C) "__class__" = some (some (.builtin "object.__class__"))
 cg:specialIn K (.builtin "object.__class__") "__get__" = some (some (.builtin "getset_descriptor.__get__"))
 ct:takesIn K (.builtin "object.__class__")=some true
theorem xby{fill expr:Bool}{tk:Tok}{Q:VP}(X:K.In s.heap)(c:XC K C)(I:W.InstAt s.heap x ox C od)
  (h:wpAny (model prog w) A.in1 (Builtin.«object.__getattribute__» ⟨[.ref x,.str name tk],[]⟩)
   (λ fin s'=>match fin with | .done (.ret v)=>wpAny (model prog w) A (handedOut v) Q E s' | _=>False) (λ _ _=>False) s) :
  wpAny (model prog w) A (getAttrBy (.ref x) (.str name tk) fill expr) Q E s:=by
 unfold getAttrBy;refine wpAny_holding (wpAny_bind (I.type.here (wpAny_bind ((looks_findIn X c.ga).here ?_))));have e1:(onTheHeap (Value.ref C)&&(Value.builtin "BaseException.__getattribute__" == Value.builtin "object.__getattribute__"))=false:=by rw[show(Value.builtin "BaseException.__getattribute__" == Value.builtin "object.__getattribute__")=false from by decide,Bool.and_false]
 dsimp only;rw[if_neg (by rw[e1];decide)];unfold getAttrByItsOwn hookBefore;refine wpAny_bind ?_;rw[if_pos (show onTheHeap (Value.ref C)=true from rfl)];refine(looks_findIn X c.gt).here ?_;refine wpAny_bind (wpAny_attempt (wpAny_holding ?_));unfold callGetattribute;rw[if_neg (by rw[show onTheHeap (Value.builtin "BaseException.__getattribute__")=false from rfl,Bool.and_false];decide)];unfold boundAndCalled;rw[PySem.F.excAttr_ValueError.ga.bind];refine wpAny_bind (wpAny_pure ?_);refine wpAny_call (codeAny_call_builtin PySem.F.excAttr_ValueError.ga.plain PySem.F.entry_bexc_ga (@check_slot (model prog w) _ _ s _ "BaseException" "__getattribute__" (.ref x) [.str name tk] [] _ adw zO (aiE X c.x I (by decide)) (PySem.F.args_bexc_ga _ _) ?_));refine wpAny_mono h (λ fin s' z=>?_) λ _ _ z=>z.elim;rcases fin with (_ | _ | _ | _) | _<;>first | exact z | exact z.elim
theorem ajj{expr:Bool}{Q:VP}(X:K.In s.heap)(c:XC K C)(I:W.InstAt s.heap x ox C od)(hf:findObj K C od name=some (.value v))(hh:handedIn v=true)(h:Q v {s with toks:=s.toks+1}) :
  wpAny (model prog w) A (getAttr (.ref x) name expr) Q E s:=by
 unfold getAttr;refine wpAny_bind (wpAny_mkText (xby (s:={s with toks:=s.toks+1}) X c I ?_));refine wpAny_bind (wpAny_pure (wpAny_bind (wpAny_pure (wpAny_bind (W.Looks.here (s:={s with toks:=s.toks+1}) I.type (wpAny_bind (W.Looks.here (s:={s with toks:=s.toks+1}) (looks_find X I hf) ?_)))))));refine wpAny_pure ?_;show wpAny _ _ (handedOut v) _ _ _;rw[handedOut_of hh];exact wpAny_pure h
theorem XC.mro(c:XC K C):mroIn K C (.type "object")=some true:=by obtain⟨cd,hc,_,hm⟩:=fo c.x;unfold mroIn;rw[hc,Option.bind_some,if_neg (by rw[nj hm];decide),nz "object" (by decide) hm]
theorem XC.at(c:XC K C):∃ cd o dd sl,K.lookup C=some ⟨o,dd,.cls cd,sl⟩:=by
 obtain⟨cd,hc,_,_⟩:=fo c.x;unfold clsIn at hc
 split at hc
 ·rename_i ho;exact⟨_,_,_,_,ho⟩
 ·cases hc
theorem XC.look{M:Model}{h:Heap}(c:XC K C)(X:K.In h):Looks M h (isType (.ref C)) true:=by obtain⟨cd,o,dd,sl,ho⟩:=c.at;refine λ A' Q' E' s' k q=>?_;unfold isType loadHead;exact wpAny_bind (wpAny_loadPart (k _ _ (X _ _ ho)) (wpAny_pure q))
theorem afi{Q:Option Value->Shared->Prop}(X:K.In s.heap)(c:XC K C)(I:W.InstAt s.heap x ox C od)(h:Q (some (.ref C)) {s with toks:=s.toks+1}):wpAny (model prog w) A (getAttr? (.ref x) "__class__") Q E s:=by
 obtain⟨cd,hc,_,hm⟩:=fo c.x;have hf:findObj K C od "__class__" = some (.bind (.builtin "getset_descriptor.__get__") (.builtin "object.__class__")):=by
  unfold findObj;rw[hc,Option.bind_some,c.cl,Option.bind_some];simp[c.cg,c.ct]
 unfold getAttr? getAttrBy?;refine wpAny_bind (wpAny_mkText (wpAny_bind (wpAny_attempt (xby (s:={s with toks:=s.toks+1}) X c I ?_))));refine wpAny_bind (wpAny_pure (wpAny_bind (wpAny_pure (wpAny_bind (W.Looks.here (s:={s with toks:=s.toks+1}) I.type (wpAny_bind (W.Looks.here (s:={s with toks:=s.toks+1}) (looks_find X I hf) ?_)))))));show wpAny _ _ (holding [Value.builtin "object.__class__"] (call (.builtin "getset_descriptor.__get__") [.builtin "object.__class__",.ref x,.ref C]) >>= ret) _ _ _;refine wpAny_bind (wpAny_holding (wpAny_call (class_get (s:={s with toks:=s.toks+1}) X I c.mro ?_)));exact wpAny_pure (handed_on rfl (wpAny_pure h))
theorem abk(c:XC K C):KitX K (.ref x) (.ref C) (λ h=>W.InstAt h x ox C od) where
 ty:=λ _ _ _ I=>I.type
 it:=λ _ _ X _=>c.look X
 ne:=λ h tp dd its n sl X htp=>by obtain⟨cd,o,d',s',e⟩:=c.at;refine Bool.eq_false_iff.mpr λ q=>?_;cases Value.ref.inj (beq_iff_eq.mp q);have z:=(X _ _ e).symm.trans htp;cases z
 ca:=λ X I k=>afi X c I k
end
def xmk(K:Frag)(C:Addr):Bool:=match K.lookup C with
 | some ⟨.type "type",_,.cls cd,sl⟩=>(match cd.mro,sl.toList with
  | .ref D::bm,[_,_,_,_,some (.builtin n),_]=>D==C&&n == "ValueError.__new__" && !cd.hasDel&&tailIn K l5 bm
  | _,_=>false)
 | _=>false
theorem abO{K:Frag}{C:Addr}{h:Heap}(X:K.In h)(e:xmk K C=true):∃ nm q N bs bm hdct sn sub ab col dd k0 k1 k2 k3 k5,
  h.get? C=some (excClassObj nm q C N bs bm hdct sn sub ab col dd k0 k1 k2 k3 k5 "ValueError.__new__")/\OwnTail h l5 bm:=by
 unfold xmk at e
 split at e
 ·rename_i dd cd sl ho
  split at e
  ·rename_i D bm a0 a1 a2 a3 n a5 hm hs
   simp only[Bool.and_eq_true,beq_iff_eq,Bool.not_eq_true'] at e;obtain⟨⟨⟨h1,h2⟩,h3⟩,h4⟩:=e;subst h1 h2;obtain⟨c1,c2,c3,c4,c5,c6,c7,c8,c9,c10,c11⟩:=cd;dsimp only at hm h3;subst hm h3;obtain⟨l⟩:=sl;simp only at hs;subst hs;exact⟨_,_,_,_,_,_,_,_,_,_,_,_,_,_,_,_,X _ _ ho,tail_of_in X h4⟩
  ·cases e
 ·cases e
abbrev vF(C t:Addr):Obj:={cls:=.ref C,data:=.fields #[.ref t,.none,.none,.none,.bool false,.none]}
section
variable {prog:Program}{w:World}{A:Around}{E:VP}{K:Frag}{C f:Addr}{h:Heap}{g:Array GenState}{d:Drawn}{t:Nat}{os:OsState}
theorem ait{us:List Value}{Q:PySem.Fin->Shared->Prop}(X:K.In h)(c:XC K C)(q:xmk K C=true)(hi:findIn K (.ref C) "__init__" = some (some (.ref f)))(hf:typeIn K (.ref f)=some (.type "function"))(hz:us.length<=sizeLine)
  (k:wpAny (model prog w) A (call (.ref f) (.ref (h.objs.size+1)::us)) (λ r s'=>r=.none/\Q (.done (.ret (.ref (h.objs.size+1)))) s') E
   ⟨(h.push {cls:=.type "tuple",data:=.seq us.toArray}).push (vF C h.objs.size),g,d,t,os⟩) :
  wpAny (model prog w) A (Builtin.«type.__call__» ⟨.ref C::us,[]⟩) Q E ⟨h,g,d,t,os⟩:=by
 obtain⟨nm,q',N,bs,bm,hdct,sn,sub,ab,col,dd,k0,k1,k2,k3,k5,hC,T⟩:=abO X q;have B:=PySem.F.excBase_ValueError
 repeat (first | with_reducible refine wpAny_loadPart_at hC ?_ | with_reducible refine wpAny_madeBy_exc hC ?_ | wp_step)
 refine codeAny_call_builtin_code (Code.quiet_builtin _ B.quiet) (wpAny_check_new_subT B T hC (codeAny_exc_new_subT B T hC ?_ hz));show wpAny _ _ _ _ _ _;have kp:∀ b o,h.get? b=some o->((h.push {cls:=.type "tuple",data:=.seq us.toArray}).push (vF C h.objs.size)).get? b=some o:=λ b o z=>Heap.get?_push_of_some _ (Heap.get?_push_of_some _ z);have X1:=X.keeps kp;have eg:((h.push {cls:=.type "tuple",data:=.seq us.toArray}).push (vF C h.objs.size)).get? (h.objs.size+1)=some (vF C h.objs.size):=by heap_get
 have I:W.InstAt ((h.push {cls:=.type "tuple",data:=.seq us.toArray}).push (vF C h.objs.size)) (h.objs.size+1) (vF C h.objs.size) C none:=⟨eg,rfl,rfl,True.intro⟩;obtain⟨cd,hc,_,hm⟩:=fo c.x;have hsub:Looks (model prog w) ((h.push {cls:=.type "tuple",data:=.seq us.toArray}).push (vF C h.objs.size)) (isInstance (.ref (h.objs.size+1)) (.ref C)) true:=by refine I.type.andThen (λ A' Q' E' s' k' z=>?_);exact wpAny_isSubtype_exc (h:=s'.heap) (g:=s'.gens) (d:=s'.drawn) (t:=s'.toks) (os:=s'.os) (k' _ _ (kp _ _ hC)) (by rw[show(Value.ref C::bm).contains (Value.ref C)=true from by simp];exact z)
 refine wpAny_bind (hsub.here ?_);rw[if_neg (by decide)];refine wpAny_bind (wpAny_holding (special_fn (s:=⟨_,g,d,t,os⟩) X1 I hi hf (wpAny_mono k (λ r s' z=>?_) λ _ _ z=>z)));obtain⟨rfl,z⟩:=z;exact wpAny_pure z
theorem ahw{us:List Value}{Q:VP}(X:K.In h)(c:XC K C)(q:xmk K C=true)(hi:findIn K (.ref C) "__init__" = some (some (.ref f)))(hf:typeIn K (.ref f)=some (.type "function"))(hz:us.length<=sizeLine)
  (k:wpAny (model prog w) (A.under (.builtin "type.__call__" ⟨.ref C::us,[]⟩)) (call (.ref f) (.ref (h.objs.size+1)::us)) (λ r s'=>r=.none/\Q (.ref (h.objs.size+1)) s') E
   ⟨(h.push {cls:=.type "tuple",data:=.seq us.toArray}).push (vF C h.objs.size),g,d,t,os⟩) :
  wpAny (model prog w) A (call (.ref C) us) Q E ⟨h,g,d,t,os⟩:=by
 obtain⟨nm,q',N,bs,bm,hdct,sn,sub,ab,col,dd,k0,k1,k2,k3,k5,hC,T⟩:=abO X q;have l1:=tc_lookup;have l2:=tc_bind (.ref C);have l3:(⟨h,g,d,t,os⟩:Shared).TypeIs (.ref C) "type":= ⟨_,hC,rfl⟩;refine wpAny_call (codeAny_of_tree ?_);show wpAny _ _ (callAny (.ref C) ⟨us,[]⟩) _ _ _
 repeat (any_goals (first | with_reducible refine wpAny_loadPart_at hC ?_ | assumption | wp_step))
 exact⟨rfl,codeAny_call_builtin_at (Code.quiet_builtin _ (by decide +kernel)) entry_typeCall (wpAny_check_type_call_sub hC (ait X c q hi hf hz k))⟩
end
abbrev rh(C:Addr)(dct:Option Addr)(vs:Array Value):Obj:={cls:=.ref C,dict:=dct,data:=.fields vs}
def Tb(h:Heap)(e:Addr)(vs:Array Value):Prop:=vs[1]? =some .none\/∃ T oT ts,vs[1]? =some (.ref T)/\T≠e/\h.get? T=some oT/\oT.data=.fields ts/\ts[3]? =some .none
theorem Tb.size{h:Heap}{e:Addr}{vs:Array Value}(t:Tb h e vs):1<vs.size:=by
 rcases t with z | ⟨_,_,_,z,_⟩<;>exact(Array.getElem?_eq_some_iff.mp z).1
structure Seen(fs:List Addr)(e:Addr)(h h':Heap):Prop where
 keep:∀ b o,b≠e->b ∉ fs->h.get? b=some o->h'.get? b=some o
 slot:∀ b o,b∈fs->h.get? b=some o->∃ sl,h'.get? b=some {o with slots:=sl}
theorem aau{Q:Unit->Shared->Prop}(hfr:A.frames=some (env::outer))(hl:s.heap.FunFrames base (env::outer))(hf:env.frame=some L)(he:s.heap.get? e=some (rh C dct vs))(tb:Tb s.heap e vs)
  (q:∀ h' vs',h'.get? e=some (rh C dct vs')->Tb h' e vs'->vs'[1]? ≠ some .none->vs'[2]? =vs[2]? -> Seen ((env::outer).filterMap (·.frame)) e s.heap h'->Q () {s with heap:=h'}) :
  wpAny M A (noteFrame (.ref e) env) (λ _ s1=>wpAny M A (setFlight (.ref e) none) Q E s1) E s:=by
 have nfr:∀ b o us,s.heap.get? b=some o->o.data=.fields us->b ∉ (env::outer).filterMap (·.frame):=λ b o us z zd hm=>by obtain⟨_,o',ho,hn⟩:=hl.mem hm;rw[z] at ho;cases ho;exact hn us zd
 have main:∀ (head:Value) (had:Bool),wpAny M A (do let a <- frameOf env;let pl <- entryPlaceOf L had;let b <- EntryCells.newEntry head a .none (rawInt L) .none pl;setField (.ref e) 1 b) (λ _ s1=>wpAny M A (setFlight (.ref e) none) Q E s1) E s:=by
  intro head had;refine wpAny_bind (wpAny_frameOf_fun hfr hl hf λ h1 so=>wpAny_bind (wpAny_entryPlaceOf λ pl hpl=>?_));unfold EntryCells.newEntry newFields;refine wpAny_bind (wpAny_newObj_type ?_ (hpl.sizeOk5 _ _ _ _ _));have e1:h1.get? e=some (rh C dct vs):=(so.2.1 e (nfr e _ vs he rfl)).trans he;generalize hts:([head,Value.ref L,.none,rawInt L,.none]++(if pl.isEmpty then List.replicate 6 Value.none else pl)).toArray=ts;have hts3:3<ts.size:=by rw[<- hts];simp only[List.size_toArray,List.length_append,List.length_cons,List.length_nil]<;>omega
  have e2:=Heap.get?_push_of_some (h:=h1) {cls:=.type "traceback",dict:=none,data:=.fields ts} e1;refine wpAny_setField e2 rfl tb.size ?_;have ne:h1.objs.size≠e:=Nat.ne_of_gt (Heap.lt_size e1);have e3:((h1.push {cls:=.type "traceback",dict:=none,data:=.fields ts}).update e (Obj.mapFields (·.setIfInBounds 1 (Value.ref h1.objs.size)))).get? e=some (rh C dct (vs.setIfInBounds 1 (Value.ref h1.objs.size))):=
   Heap.get?_update_self _ e2 rfl
  have e4:((h1.push {cls:=.type "traceback",dict:=none,data:=.fields ts}).update e (Obj.mapFields (·.setIfInBounds 1 (Value.ref h1.objs.size)))).get? h1.objs.size=some {cls:=.type "traceback",dict:=none,data:=.fields ts}:=
   (Heap.get?_update_other _ _ (Ne.symm ne)).trans (Heap.get?_push_size h1 rfl)
  have v1:(vs.setIfInBounds 1 (Value.ref h1.objs.size))[1]? =some (Value.ref h1.objs.size):=by simp[tb.size]
  unfold setFlight;refine wpAny_bind (wpAny_field e3 rfl v1 ?_);rw[if_pos (show(Value.ref h1.objs.size != Value.none)=true from by simp)];refine wpAny_setField e4 rfl hts3 (q _ (vs.setIfInBounds 1 (Value.ref h1.objs.size)) ?_ (.inr ⟨h1.objs.size,_,ts.setIfInBounds 3 .none,v1,ne,Heap.get?_update_self _ e4 rfl,rfl,by simp[hts3]⟩) (by rw[v1];intro z;cases z) (by simp) ?_)
  ·rw[Heap.get?_update_other _ _ ne];exact e3
  ·have kp:∀ b o,b≠e->h1.get? b=some o->(((h1.push {cls:=.type "traceback",dict:=none,data:=.fields ts}).update e (Obj.mapFields (·.setIfInBounds 1 (Value.ref h1.objs.size)))).update h1.objs.size
     (Obj.mapFields (·.setIfInBounds 3 ((none:Option Addr).elim Value.none λ f=>rawInt f)))).get? b=some o:=λ b o hb z=>by
    rw[Heap.get?_update_other _ _ (Nat.ne_of_gt (Heap.lt_size z)),Heap.get?_update_other _ _ (Ne.symm hb)];exact Heap.get?_push_of_some _ z
   refine⟨λ b o hb hm z=>kp b o hb ((so.2.1 b hm).trans z),λ b o hm z=>?_⟩;obtain⟨sl,z2⟩:=so.2.2 b o z;exact⟨sl,kp b _ (λ w=>nfr e _ vs he rfl (w ▸ hm)) z2⟩
 unfold noteFrame;simp only[hf];rcases tb with z | ⟨T,oT,ts,z1,z2,z3,z4,z5⟩
 ·refine wpAny_bind (wpAny_field he rfl z ?_);rw[if_neg (by decide)];exact main _ _
 ·refine wpAny_bind (wpAny_field he rfl z1 ?_);rw[if_pos (show(Value.ref T != Value.none)=true from by simp)];refine wpAny_bind (wpAny_field z3 z4 z5 ?_);rw[if_neg (show ¬ ((Value.none==rawInt L)=true) from by simp[rawInt])];refine wpAny_bind (wpAny_setField z3 z4 (Array.getElem?_eq_some_iff.mp z5).1 ?_);rw[Heap.update_setField_same s.heap T oT ts 3 .none z3 z4 z5];exact main _ _
end XO
namespace L2
open XO
def XF(e C:Addr)(dct:Option Addr)(cc:Bool):Heap->Prop:=λ h=>∃ vs,h.get? e=some (rh C dct vs)/\(cc=true->vs[2]? =some .none)
def DX(dx:Addr)(l:List (Str×V)):Heap->Prop:=λ h=>∃ mA,h.Ns1 dx mA/\(∀ f,uF (l.lookup f) (mA f))/\PySem.Within mA (l.map (·.1))
def Air(H:Hp)(h:Heap)(e:Addr):Prop:=∃ C dct vs cc,H e=some (.ext (XF e C dct cc))/\h.get? e=some (rh C dct vs)/\Tb h e vs/\(cc=true->vs[2]? =some .none)
theorem afu(z:h.get? e=some (rh C dct vs))(c:cc=true->vs[2]? =some .none):cV P w H h e (.ext (XF e C dct cc)):=
 ⟨⟨vs,z,c⟩,⟨_,z⟩,λ h1 h2 ⟨us,e1,c⟩ k=>⟨us,k _ e1,c⟩⟩
theorem afS(z:DX dx l h):cV P w H h dx (.ext (DX dx l)):=
 ⟨z,let ⟨_,⟨o,_,_,e,_⟩,_⟩:=z; ⟨o,e⟩,λ h1 h2 ⟨mA,n,r⟩ k=>⟨mA,n.at k,r⟩⟩
theorem Inv.seen(I:Inv X pins σ H s)(e:H a=some (.ext (XF a C dct cc)))(he:h'.get? a=some (rh C dct vs))(hc:cc=true->vs[2]? =some .none)(sn:Seen (frs X.stack) a s.heap h'):Inv X pins σ H {s with heap:=h'}:=by
 have nfs:∀ b u,H b=some u->b ∉ frs X.stack:=λ b u z hb=>by rw[I.nI b hb] at z;cases z
 refine I.call (g':=s.gens) (t':=s.toks) (d':=s.drawn) (ch:=[]) ⟨λ b o z n hb _=>sn.keep b o (λ w=>by rw[w,e] at n;cases n) hb z,λ b o z _ hb _=>sn.slot b o hb z,λ _ _ _ n _=>n,λ b o z _=>?_,λ _ _ z=>z,λ _ _ _ z=>z,λ _ ps z=>⟨#[],by rw[z];simp⟩⟩ (λ b o z=>?_) I.bare (λ b z=>absurd z (by simp))
 ·by_cases hb:b=a
  ·subst hb;exact⟨_,he⟩
  ·by_cases hm:b∈frs X.stack
   ·obtain⟨sl,q⟩:=sn.slot b o hm z;exact⟨_,q⟩
   ·exact⟨o,sn.keep b o hb hm z⟩
 ·by_cases hb:b=a
  ·subst hb;rw[e] at z;cases z;exact afu he hc
  ·refine(I.hok b o z).oO (λ c u hc q=>sn.keep c u ?_ ?_ q) (λ _ q=>q) λ _ _ q=>q
   ·rcases hc with w | w
    ·rw[w];exact hb
    ·intro y;rw[y,e] at w;cases w
   ·rcases hc with w | w
    ·rw[w];exact nfs b o z
    ·exact nfs c _ w
theorem Inv.aau(I:Inv X pins σ H s)(hA:A.frames=some X.stack)(hst:X.stack=X.env::X.outer)(hf:X.env.frame=some X.env.locals)(air:Air H s.heap a)
  (q:∀ s',Inv X pins σ H s'->Air H s'.heap a->Q () s'):wpAny (model X.prog X.w) A (noteFrame (.ref a) X.env) (λ _ s1=>wpAny (model X.prog X.w) A (setFlight (.ref a) none) Q E s1) E s:=by
 obtain⟨C,dct,vs,cc,e1,e2,e3,e4⟩:=air;have st:=I.stack;rw[hst] at st hA;refine XO.aau hA st hf e2 e3 λ h' vs' g1 g2 _ g4 g3=>q _ (I.seen e1 g1 (λ z=>by rw[g4];exact e4 z) ?_) ⟨C,dct,vs',cc,e1,g1,g2,λ z=>by rw[g4];exact e4 z⟩;rw[hst];exact g3
def CXE(P:Program)(w:World):CXT:=λ outer H s E e s'=>∃ a H',e=.ref a/\s'.os=s.os/\AllBare s'.gens/\Un (frs outer) [] H H' s.heap s'.heap/\HOk P w H' s'.heap/\Air H' s'.heap a/\E e none H'
theorem ad0(F:cj X.prog X.w X.K X.mg X.base CX k f fd ps sp)(hr:eM k X.A)(hb:Binds X.K fd ps [])(I:Inv X pins σ H s)(r:Vals vs us)(h:sp vs H Q E)(hx:∀ e s',CX X.stack H s E e s'->X.xe e s') :
  wpAny (model X.prog X.w) X.A (call (.ref f) us) (EP X pins σ Q) X.xe s:=by
 have hl:(us++[]).length=ps.length:=by rw[List.append_nil,<- r.length];exact F.len _ _ _ _ h
 have b:=hb s us I.kIn hl;rw[List.append_nil] at b;refine wpAny_call (codeAny_mono (F.run X.A X.stack s H ⟨us,[]⟩ us vs Q E hr I.ahm b r h) λ r s' hq=>?_);cases r with
 | error e=>exact hx e s' hq
 | ok fl=>cases fl<;>first | exact I.after hq | exact False.elim hq
end L2
namespace D
open L2 XO
abbrev XQ:=Addr->MH->Prop
abbrev XE:=Addr->DS->MH->Prop
abbrev SpX:=List W->MH->QD->XQ->Prop
def eL(K:FG)(sp:SpX):Sp:=λ vs H Q E=>∃ ws M Qd Ed,bB K H ws vs/\cX K H M/\sp ws M Qd Ed/\Kont K H Qd Q/\∀ a H' M',Kp H H'->cX K H' M'->Ed a M'->E (.ref a) none H'
def Lk(X:Cx)(E:XE):Prop:=∀ (pins:PN) (σ:St) (H:Hp) (s:Shared) (a:Addr) (τ:DS) (M:MH),Inv X pins σ H s->Air H s.heap a->Abs X.K H σ τ M->E a τ M->X.xe (.ref a) s
section
variable {P:Program}{w:World}{K:FG}{mg:Str->Option Value}{base:Heap}
theorem abP{N:List Str}{qual:Str}{scope:Scope}{cd:Value}{outer:List Env}{Ed:XQ}(he:∀ a H' M',Kp H H'->cX K H' M'->Ed a M'->E (.ref a) none H') :
  Lk (sy (CXE P w) P w K mg base N qual scope f cd A outer s H E) λ a _ M=>Ed a M:=by
 intro pins σ H1 s1 a τ M I air ab e;show wpAny _ _ (leaving _ _) _ _ _;unfold leaving;refine wpAny_bind (I.aau I.ok.frames rfl rfl air λ s2 J air2=>?_);exact⟨a,H1,rfl,J.os,J.bare,J.base,J.hok,air2,he a H1 M (Kp.un J.base) ab.mem e⟩
theorem iI{x qual:Str}{st:Stmt}{N ps:List Str}{k:Nat}{sp:SpX}{t:XE->TSd}(F:Fun K x qual st f fd)(S:aU N ps (aj st))(len:∀ ws M Q E,sp ws M Q E->ws.length=ps.length)
  (hbody:∀ (cdv:Value) (A:Around) (outer:List Env) (s:Shared) (H:Hp) (E:XK) (Ed:XE),eM k (A.deeper (envOfC qual (aj st) s.heap.objs.size f cdv))->Lk (sy (CXE P w) P w K mg base N qual (aj st) f cdv A outer s H E) Ed ->
   PassesOwn (model P w) (A.deeper (envOfC qual (aj st) s.heap.objs.size f cdv)) (envOfC qual (aj st) s.heap.objs.size f cdv) (sy (CXE P w) P w K mg base N qual (aj st) f cdv A outer s H E).xe ->
   md (sy (CXE P w) P w K mg base N qual (aj st) f cdv A outer s H E) (bj st) (t Ed))
  (read:∀ ws M Q E,sp ws M Q E->t (λ a _ M=>E a M) {nx:=λ _ M'=>Q (.d .none) M',rt:=Q} (dg N ws) M):cj P w K mg base (CXE P w) (k+1) f fd ps (eL K sp):=by
 obtain⟨oc,od,kV,doc,pm,an,cdv,ct,osl,rfl,lk,hcd⟩:=F.ex;refine aay lk hcd S (λ vs H Q E h=>?_) λ A outer s H vs Q E hr h=>?_
 ·obtain⟨ws,M,Qd,Ed,r,_,q,_⟩:=h;rw[<- r.length];exact len _ _ _ _ q
 ·obtain⟨ws,M,Qd,Ed,r,m,q,kk,ke⟩:=h;refine⟨_,hbody cdv A outer s H E (λ a _ M=>Ed a M) hr (abP ke) PassesOwn.leaving,dg N ws,M,_,iP r m,read ws M Qd Ed q,λ σ' H' τ' M' kp A' q'=>?_,λ v H' w' M' kp r' m' q'=>?_,λ σ' H' τ' M' kp A' q'=>q'.elim,λ σ' H' τ' M' kp A' q'=>q'.elim⟩
  ·exact kk _ H' _ M' kp (by simp[aO,aG]) A'.mem q'
  ·exact kk v H' w' M' kp r' m' q'
end
theorem yI(L:Lk X E)(I:Inv X pins σ H s)(ab:Abs X.K H σ τ M)(hE:∀ v H',E' v none H'->∃ a M',v=.ref a/\Kp H H'/\cX X.K H' M'/\E a τ M')
  (h:CXE X.prog X.w X.stack H s E' u s'):X.xe u s':=by
 obtain⟨a,H',rfl,os,br,un,hok,air,q⟩:=h;obtain⟨a',M',e,kp,m',q'⟩:=hE _ _ q;cases e;exact L pins σ H' s' a τ M' (I.acD os un hok br (λ b z=>absurd z (by simp))) air (ab.go kp m') q'
def fX(sp:SpX)(E:XE)(t:TAd)(τ:DS)(M:MH)(Q:QD):Prop:=t τ M λ ws M1=>sp ws M1 Q λ a M'=>E a τ M'
end D
namespace XO
open PySem.W
section
variable {prog:Program}{w:World}{A:Around}{E:VP}{s:Shared}{K:Frag}{env:PySem.Env}
theorem aeE(hh:A.handled=none)
  (h:wpAny (model prog w) A x (λ v s1=>∃ e C dct vs,v=.ref e/\K.In s1.heap/\abc K C=true/\typeIn K (.ref C)=some (.type "type")/\s1.heap.get? e=some (rh C dct vs)/\vs[1]? =some .none/\E (.ref e) s1) E s) :
  wpAny (model prog w) A (raiseStmt env (some x) none) Q E s:=by
 unfold raiseStmt;refine wpAny_bind (wpAny_mono h (λ v s1 z=>?_) λ _ _ z=>z);obtain⟨e,C,dct,vs,rfl,X,c,ty,he,h1,q⟩:=z;obtain⟨hp,g,d,tk,os⟩:=s1;have L:Looks (model prog w) hp (isType (.ref e)) false:=λ A' Q' E' s' k q=>by
  unfold isType loadHead;exact wpAny_bind (wpAny_loadPart (k _ _ he) (wpAny_pure q))
 have T:Looks (model prog w) hp (typeOf (.ref e)) (.ref C):=(Looks.ld he).andThen .now;obtain⟨cd,hc,_,hm⟩:=fo c;have S:Looks (model prog w) hp (isInstance (.ref e) (.type "BaseException")) true:=T.andThen (looks_mroIn X (by
  unfold mroIn;rw[hc,Option.bind_some,if_neg (by rw[nj hm];decide),nz "BaseException" (by decide) hm]))
 have N:Looks (model prog w) hp (isExcClass (.ref e)) false:=L.andThen .now;have Y:=looks_typeIn (M:=model prog w) X ty;have R:Looks (model prog w) hp (raisedInstance (.ref e)) (.ref e):=T.andThen (Y.andThen (by rw[if_pos (by decide)];exact .now));have Z:Looks (model prog w) hp (excFromValue (.ref e) "exceptions must derive from BaseException") (.ref e):=by
  unfold excFromValue;refine N.andThen ?_;rw[if_neg Bool.false_ne_true];refine S.andThen ?_;rw[if_pos rfl];exact .now
 refine wpAny_bind (wpAny_pure (wpAny_bind (wpAny_holding (Z.at ?_))));dsimp only;refine wpAny_bind (L.at ?_);rw[if_neg Bool.false_ne_true];refine wpAny_bind (R.at ?_);unfold setFlight;refine wpAny_bind (wpAny_bind (wpAny_field he rfl h1 ?_));rw[if_neg (by decide)];exact wpAny_pure (wpAny_raiseNew_none hh q)
end
end XO
namespace L2
open XO
def XV(e C:Addr)(dct:Option Addr)(vs:Array Value):Heap->Prop:=λ h=>h.get? e=some (rh C dct vs)
theorem agz(z:h.get? e=some (rh C dct vs)):cV P w H h e (.ext (XV e C dct vs)):=⟨z,⟨_,z⟩,λ h1 h2 e1 k=>k _ e1⟩
theorem Inv.wr2(I:Inv X pins σ H s)(e:H a=some (.ext φ))(hp:s.heap.objs.size<=dx)(kp:∀ b o,b≠a->s.heap.get? b=some o->h'.get? b=some o)
  (o1:cV X.prog X.w (upd (upd H dx u) a (.ext φ')) h' a (.ext φ'))(o2:cV X.prog X.w (upd (upd H dx u) a (.ext φ')) h' dx u):Inv X pins σ (upd (upd H dx u) a (.ext φ')) {s with heap:=h',toks:=t'}:=by
 have hn:H dx=none:=I.hok.fresh hp;have ne:dx≠a:=λ z=>by rw[z,e] at hn;cases hn
 have at_:∀ b,b≠a->b≠dx->(upd (upd H dx u) a (.ext φ')) b=H b:=λ b h1 h2=>by rw[ao h1,ao h2]
 have nd:∀ b v,H b=some v->b≠dx:=λ b v z w=>by rw[w,hn] at z;cases z
 have na:∀ b v,H b=some v->(∀ ψ,v ≠ .ext ψ)->b≠a:=λ b v z q w=>by rw[w,e] at z;cases z;exact q _ rfl
 refine I.un ⟨λ b o z n _ _=>kp b o (λ w=>by rw[w,e] at n;cases n) z,λ b o z n _ _=>⟨o.slots,kp b o (λ w=>by rw[w,e] at n;cases n) z⟩,λ b o z n _=>?_,λ b o z _=>?_,λ b xs z=>?_,λ b o v z=>?_,λ b ps z=>⟨#[],?_⟩⟩ (λ b o z=>?_)
 ·rw[at_ b (λ w=>by rw[w,e] at n;cases n) (Nat.ne_of_lt (Nat.lt_of_lt_of_le (Heap.lt_size z) hp))];exact n
 ·by_cases hb:b=a
  ·subst hb;exact o1.2.1
  ·exact⟨o,kp b o hb z⟩
 ·rw[at_ b (na b _ z λ _ w=>nomatch w) (nd b _ z)];exact z
 ·rw[at_ b (na b _ z λ _ w=>nomatch w) (nd b _ z)];exact z
 ·rw[at_ b (na b _ z λ _ w=>nomatch w) (nd b _ z),z];simp
 ·by_cases hb:b=a
  ·subst hb;rw[ar] at z;cases z;exact o1
  ·rw[ao hb] at z
   by_cases hb2:b=dx
   ·subst hb2;rw[ar] at z;cases z;exact o2
   ·rw[ao hb2] at z;refine(I.hok b o z).oO (λ c v hc q=>kp c v ?_ q) (λ c q=>?_) λ c xs q=>?_
    ·rcases hc with w | w
     ·rw[w];exact hb
     ·exact na c _ w λ _ y=>nomatch y
    ·rw[at_ c (na c _ q λ _ w=>nomatch w) (nd c _ q)];exact q
    ·rw[at_ c (na c _ q λ _ w=>nomatch w) (nd c _ q)];exact q
def sX0(C:Addr)(ta tv:TE)(f:Str):TS:=λ D σ H=>tv σ H λ y H1=>ta σ H1 λ x H2=>∃ a vs,x=.ref a/\H2 a=some (.ext (XV a C none vs))/\∀ dx,H2 dx=none->dx≠a->D.nx σ (upd (upd H2 dx (.ext (DX dx [(f,y)]))) a (.ext (XV a C (some dx) vs)))
def sX1(C:Addr)(ta tv:TE)(f:Str):TS:=λ D σ H=>tv σ H λ y H1=>ta σ H1 λ x H2=>∃ a vs dx l,x=.ref a/\H2 a=some (.ext (XV a C (some dx) vs))/\H2 dx=some (.ext (DX dx l))/\l.length<900/\D.nx σ (upd H2 dx (.ext (DX dx (rn f y l))))
theorem agR(c:XC X.K C)(n:fF X.K C f)(ha:PE X o ta)(hv:PE X value tv)(hs:swapsWith value (some (.Attribute o f pos')) pos.line X.env=pure false:=by rfl):PS X (.Assign [.Attribute o f pos'] value pos) (sX0 C ta tv f):=by
 intro pins s σ H D I h;refine plainObj_wpAny_Assign_Attribute (thn (hv pins s σ H _ I h) λ u s1 ⟨y,H1,I1,ry,q⟩=>thn (ha pins s1 σ H1 _ I1 q) λ ov s2 ⟨x,H2,I2,rx,a,vs,ex,ea,q2⟩=>?_) hs;subst ex;obtain rfl:ov=Value.ref a:=rx;have hx:s2.heap.get? a=some (rh C _ vs):=(I2.hok a _ ea).1;refine ahM I2.kIn c.x c.sa n hx λ h' tk dx g1 g2 g3 g4 g5=>?_;refine⟨σ,_,I2.wr2 ea g1 g5 (agz g3) (afS ⟨_,g4,λ g=>?_,λ g hg=>?_⟩),q2 dx (I2.hok.fresh g1) g2⟩
 ·by_cases e:g=f
  ·subst e;simp only[List.lookup,beq_self_eq_true,if_true];exact ry
  ·simp only[List.lookup,beq_eq_false_iff_ne.mpr e,if_neg e];exact True.intro
 ·by_cases e:g=f
  ·rw[e];simp
  ·exact absurd (by show(if g=f then some u else none)=none;rw[if_neg e]) hg
theorem aeS(c:XC X.K C)(n:fF X.K C f)(ha:PE X o ta)(hv:PE X value tv)(hs:swapsWith value (some (.Attribute o f pos')) pos.line X.env=pure false:=by rfl):PS X (.Assign [.Attribute o f pos'] value pos) (sX1 C ta tv f):=by
 intro pins s σ H D I h;refine plainObj_wpAny_Assign_Attribute (thn (hv pins s σ H _ I h) λ u s1 ⟨y,H1,I1,ry,q⟩=>thn (ha pins s1 σ H1 _ I1 q) λ ov s2 ⟨x,H2,I2,rx,a,vs,dx,l,ex,ea,ed,hl,q2⟩=>?_) hs;subst ex;obtain rfl:ov=Value.ref a:=rx;have hx:s2.heap.get? a=some (rh C _ vs):=(I2.hok a _ ea).1;obtain⟨⟨mA,n1,r1,w1⟩,_,_⟩:=I2.hok dx _ ed;refine ahZ I2.kIn c.x c.sa n hx n1 w1 (by rw[List.length_map];omega) λ h' tk g1 g2=>?_;have hd:∃ o,h'.get? dx=some o:=let ⟨o,_,_,e',_⟩:=g1; ⟨o,e'⟩;refine⟨σ,_,I2.write (x:=dx) (e:=dx) (by rw[ed];exact True.intro) (.inl rfl) (λ b q hb z=>g2 b q hb z) hd (afS ⟨_,g1,λ g=>?_,λ g hg=>?_⟩),q2⟩
 ·rw[lA]
  by_cases e:g=f
  ·rw[if_pos e,if_pos e];exact ry
  ·rw[if_neg e,if_neg e];exact r1 g
 ·by_cases e:g=f
  ·rw[e];exact(lM f y l).1
  ·refine(lM f y l).2 g (w1 g λ z=>hg ?_);show(if g=f then some u else mA g)=none;rw[if_neg e];exact z
def nr(C:Addr)(fs:List Str):Sp:=λ vs H Q _=>∃ e ys us,vs=.ref e::ys/\ys.length=fs.length/\H e=some (.ext (XV e C none us))/\∀ dx,H dx=none->dx≠e->Q .non (upd (upd H dx (.ext (DX dx (fs.zip ys)))) e (.ext (XV e C (some dx) us)))
section
variable {P:Program}{w:World}{K:FG}{mg:Str->Option Value}{base:Heap}{C f:Addr}{fd:FuncData}{qual:Str}{st:Stmt}
theorem af2(F:Fun K "__init__" qual st f fd)(S:aU ["self",p] ["self",p] (aj st))(c:XC K C)(n:fF K C g)
  (hb:bj st=[.Assign [.Attribute (.Name "self" p1) g p2] (.Name p p3) p4])(hs:∀ env,swapsWith (.Name p p3) (some (.Attribute (.Name "self" p1) g p2)) p4.line env=pure false)(hp:(p==("__debug__" : Str))=false)(hc:(p==("__classdict__" : Str))=false):cj P w K mg base CX0 1 f fd ["self",p] (nr C [g]):=by
 refine F.ok (k:=0) S (λ vs H Q E ⟨e,ys,us,h1,h2,_⟩=>by rw[h1,List.length_cons,h2];rfl) λ cdv A outer s H vs Q E hr h=>?_;obtain⟨e,ys,us,rfl,h2,h3,q⟩:=h;obtain⟨y,rfl⟩:∃ y,ys=[y]:=by
  match ys,h2 with
  | [y],_=>exact⟨y,rfl⟩
 rw[hb];have v1:=S.par "self" (by simp);have v2:=S.par p (by simp);refine⟨_,si (agR c n (iS (i:=0) rfl (v1.elim .inl λ z=>.inr (.inl z)) (by decide) (by decide)) (iS (i:=1) rfl (v2.elim .inl λ z=>.inr (.inl z)) hp hc) (hs _)),?_⟩;exact⟨y,rfl,.ref e,rfl,e,us,rfl,h3,λ dx hd ne=>q dx hd ne⟩
theorem ahD(F:Fun K "__init__" qual st f fd)(S:aU ["self",p,p',p''] ["self",p,p',p''] (aj st))(c:XC K C)(n:fF K C g)(n':fF K C g')(n'':fF K C g'')
  (hb:bj st=[.Assign [.Attribute (.Name "self" a1) g a2] (.Name p a3) a4,.Assign [.Attribute (.Name "self" b1) g' b2] (.Name p' b3) b4,.Assign [.Attribute (.Name "self" c1) g'' c2] (.Name p'' c3) c4])
  (hs:∀ env,swapsWith (.Name p a3) (some (.Attribute (.Name "self" a1) g a2)) a4.line env=pure false)(hs':∀ env,swapsWith (.Name p' b3) (some (.Attribute (.Name "self" b1) g' b2)) b4.line env=pure false)(hs'':∀ env,swapsWith (.Name p'' c3) (some (.Attribute (.Name "self" c1) g'' c2)) c4.line env=pure false)
  (hp:∀ z∈[p,p',p''],(z==("__debug__" : Str))=false/\(z==("__classdict__" : Str))=false)(hne:g≠g'/\g≠g''/\g'≠g''):cj P w K mg base CX0 1 f fd ["self",p,p',p''] (nr C [g,g',g'']):=by
 refine F.ok (k:=0) S (λ vs H Q E ⟨e,ys,us,h1,h2,_⟩=>by rw[h1,List.length_cons,h2];rfl) λ cdv A outer s H vs Q E hr h=>?_;obtain⟨e,ys,us,rfl,h2,h3,q⟩:=h;obtain⟨y,y',y'',rfl⟩:∃ y y' y'',ys=[y,y',y'']:=by
  match ys,h2 with
  | [y,y',y''],_=>exact⟨y,y',y'',rfl⟩
 rw[hb];have vis:∀ z:Str,z∈(["self",p,p',p'']:List Str)->Vis (aj st) z:=λ z hz=>(S.par z hz).elim .inl λ z=>.inr (.inl z);refine⟨_,oy (agR c n (iS (i:=0) rfl (vis _ (by simp)) (by decide) (by decide)) (iS (i:=1) rfl (vis _ (by simp)) (hp p (by simp)).1 (hp p (by simp)).2) (hs _))
  (oy (aeS c n' (iS (i:=0) rfl (vis _ (by simp)) (by decide) (by decide)) (iS (i:=2) rfl (vis _ (by simp)) (hp p' (by simp)).1 (hp p' (by simp)).2) (hs' _))
  (si (aeS c n'' (iS (i:=0) rfl (vis _ (by simp)) (by decide) (by decide)) (iS (i:=3) rfl (vis _ (by simp)) (hp p'' (by simp)).1 (hp p'' (by simp)).2) (hs'' _)))),?_⟩
 refine⟨y,rfl,.ref e,rfl,e,us,rfl,h3,λ dx hd ne=>⟨y',rfl,.ref e,rfl,e,us,dx,[(g,y)],rfl,ar,by rw[ao ne,ar],by simp,?_⟩⟩;refine⟨y'',rfl,.ref e,rfl,e,us,dx,rn g' y' [(g,y)],rfl,by rw[ao (Ne.symm ne),ar],ar,by simp[rn];split<;>simp,?_⟩;have z:=q dx hd ne;have e1:rn g'' y'' (rn g' y' [(g,y)])=[g,g',g''].zip [y,y',y'']:=by simp[rn,hne.1,hne.2.1,hne.2.2]
 show Q .non _;rw[e1];have e2:upd (upd (upd (upd H dx (.ext (DX dx [(g,y)]))) e (.ext (XV e C (some dx) us))) dx (.ext (DX dx (rn g' y' [(g,y)])))) dx (.ext (DX dx ([g,g',g''].zip [y,y',y''])))=upd (upd H dx (.ext (DX dx ([g,g',g''].zip [y,y',y''])))) e (.ext (XV e C (some dx) us)):=by
  funext b;unfold upd
  by_cases h1:b=dx
  ·subst h1;simp[ne]
  ·by_cases h2:b=e
   ·subst h2;simp[h1]
   ·simp[h1,h2]
 rw[e2];exact z
end
end L2
namespace D
open L2 XO
theorem sV{K:FG}{H:Hp}:∀ (fs:List Str) {ws:List W} {vs:List V},bB K H ws vs->Paired (λ(p:Str×W) (q:Str×V)=>p.1=q.1/\aO K H p.2 q.2) (fs.zip ws) (fs.zip vs)
 | [],_,_,_=>.nil
 | _::_,_,_,.nil=>.nil
 | f::fs,_,_,.cons r t=>.cons ⟨rfl,r⟩ (sV fs t)
def mV(C:Addr)(fs:List Str)(E:XE)(t:TAd)(_:Ed)(τ:DS)(M:MH):Prop:=t τ M λ ws M1=>ws.length=fs.length/\ws.length<=1000/\∀ a,M1 a=none->E a τ (bY M1 a (.exc C (fs.zip ws)))
structure Xm(K:FG)(C f:Addr):Prop where
 xc:XC K C
 xm:xmk K C=true
 ty:W.typeIn K (.ref C)=some (.type "type")
 hi:W.findIn K (.ref C) "__init__" = some (some (.ref f))
 hf:W.typeIn K (.ref f)=some (.type "function")
 kp:W.keepIn K (.ref C)=true
end D
namespace L2
open XO
def rf(H₀ H:Hp):Hp:=λ b=>match H b with
 | some (.tup xs)=>some (.tup xs)
 | some (.frz o u)=>some (.frz o u)
 | _=>H₀ b
theorem wW(h:H b=some (.tup xs)):rf H₀ H b=some (.tup xs):=by unfold rf;rw[h]
theorem yT(h:H b=some (.frz o u)):rf H₀ H b=some (.frz o u):=by unfold rf;rw[h]
theorem xV(h:rf H₀ H b=some v):H₀ b=some v\/H b=some v:=by
 unfold rf at h
 split at h
 ·rename_i e;rw[e];exact .inr h
 ·rename_i e;rw[e];exact .inr h
 ·exact .inl h
theorem oI(h:rf H₀ H b=none):H₀ b=none:=by
 unfold rf at h
 split at h
 ·cases h
 ·cases h
 ·exact h
theorem n8(h:H₀ b=none)(h2:H b=none):rf H₀ H b=none:=by
 unfold rf;rw[h2];exact h
abbrev Cx.mL(X:Cx)(H0:Hp)(pn:PN)(xe:VP):Cx:={X with H₀:=H0,pn:=pn,xe:=xe}
abbrev Cx.gU(X:Cx)(a:Addr):Cx:={X with A:=X.A.mark (some (.ref a)),calm:=false,xe:=λ _ _=>False}
theorem Inv.agc(I:Inv X pins σ H s):∀ b∈X.fs,H b=none:=λ b hb=>by obtain⟨_,o,ho,_⟩:=I.ok.nS.mem hb;exact I.base.free b o ho (I.ok.frf b hb) λ z=>I.ok.exfs b z hb
theorem Inv.aif(I:Inv X pins σ H s):Inv (X.mL (rf X.H₀ H) (X.pn++pins) xe) [] σ H s:=by
 refine⟨⟨I.ok.mod,I.ok.kind,I.ok.glob,I.ok.blt,I.ok.above,I.ok.inj,I.ok.has,I.ok.cab,I.ok.hd,I.ok.frames,I.ok.stk,I.ok.exf,λ b o e=>⟨(I.ok.bs b o e).1,n8 (I.ok.bs b o e).2 (I.bs b o e).2⟩,I.ok.bsz,I.ok.noex,I.ok.exfs,I.ok.nS,λ b hb=>n8 (I.ok.frf b hb) (I.agc b hb)⟩,
  I.os,I.bare,⟨λ b o e n hb hx=>I.base.keep b o e (oI n) hb hx,λ b o e n hb hx=>I.base.slot b o e (oI n) hb hx,λ b o e n hx=>I.base.free b o e (oI n) hx,I.base.there,λ b xs e=>?_,λ b o u e=>?_,λ b ps e=>?_⟩,
  I.loc,I.cell,I.free,I.freeC,λ p hp=>I.pin p (by simpa using hp),I.hok,I.len⟩
 ·rcases xV e with z | z
  ·exact I.base.mS b xs z
  ·exact z
 ·rcases xV e with z | z
  ·exact I.base.frzs b o u z
  ·exact z
 ·rcases xV e with z | z
  ·exact I.base.tbls b ps z
  ·exact⟨#[],by rw[z];simp⟩
theorem Inv.vO(I:Inv X pins σ H s)(J:Inv (X.mL (rf X.H₀ H) (X.pn++pins) xe) pins' σ' H' s'):Inv X pins σ' H' s':=by
 have nn:∀ b o,X.s₀.heap.get? b=some o->X.H₀ b=none->b ∉ X.ex->rf X.H₀ H b=none:=λ b o e n hx=>n8 n (I.base.free b o e n hx);exact⟨I.ok,J.os,J.bare,⟨λ b o e n hb hx=>J.base.keep b o e (nn b o e n hx) hb hx,λ b o e n hb hx=>J.base.slot b o e (nn b o e n hx) hb hx,λ b o e n hx=>J.base.free b o e (nn b o e n hx) hx,J.base.there,λ b xs e=>J.base.mS b xs (wW (I.base.mS b xs e)),λ b o u e=>J.base.frzs b o u (yT (I.base.frzs b o u e)),λ b ps e=>by obtain⟨m1,e1⟩:=I.base.tbls b ps e;refine J.base.tbls b ps ?_;show rf X.H₀ H b=_;unfold rf;rw[e1];exact e⟩,J.loc,J.cell,J.free,J.freeC,λ p hp=>J.pin p (List.mem_append_left _ hp),J.hok,J.len⟩
theorem Inv.gU(I:Inv X pins σ H s)(a:Addr):Inv (X.gU a) pins σ H s:=
 ⟨⟨I.ok.mod,I.ok.kind,I.ok.glob,I.ok.blt,I.ok.above,I.ok.inj,I.ok.has,I.ok.cab,(λ z=>nomatch z),I.ok.frames,I.ok.stk,I.ok.exf,I.ok.bs,I.ok.bsz,I.ok.noex,I.ok.exfs,I.ok.nS,I.ok.frf⟩,I.os,I.bare,I.base,I.loc,I.cell,I.free,I.freeC,I.pin,I.hok,I.len⟩
theorem Inv.uncaught(ok:X.Ok)(I:Inv (X.gU a) pins σ H s):Inv X pins σ H s:=⟨ok,I.os,I.bare,I.base,I.loc,I.cell,I.free,I.freeC,I.pin,I.hok,I.len⟩
theorem Inv.gone(I:Inv X pins σ H s)(hn:h'.Ns X.env.locals m')(sb:Heap.SameBut X.env.locals s.heap h'):Inv X pins (List.replicate σ.length none) H {s with heap:=h',toks:=t'}:=by
 have ne:∀ b o,X.s₀.heap.get? b=some o->b≠X.env.locals:=λ b o e=>Nat.ne_of_lt (Nat.lt_of_lt_of_le (Heap.lt_size e) I.ok.above);refine⟨I.ok,I.os,I.bare,⟨λ b o e n hb hx=>(sb.2 b (ne b o e)).trans (I.base.keep b o e n hb hx),λ b o e n hb hx=>?_,I.base.free,λ b o e hx=>?_,I.base.mS,I.base.frzs,I.base.tbls⟩,⟨m',hn,λ i x v e1 e2 e3=>?_⟩,λ x c e=>?_,I.free,I.freeC,λ p hp=>?_,λ b o e=>?_,by rw[List.length_replicate];exact I.len⟩
 ·obtain⟨sl,z⟩:=I.base.slot b o e n hb hx;exact⟨sl,(sb.2 b (ne b o e)).trans z⟩
 ·obtain⟨o',z⟩:=I.base.there b o e hx;exact⟨o',(sb.2 b (ne b o e)).trans z⟩
 ·rw[List.getElem?_replicate] at e2
  split at e2<;>cases e2
 ·obtain⟨v,z⟩:=I.cell x c e;exact⟨v,z.sameBut sb (I.cne x c e)⟩
 ·obtain⟨z,n,nl,nf,d⟩:=I.pin p hp;exact⟨(sb.2 p.1 nl).trans z,n,nl,nf,d⟩
 ·refine(I.hok b o e).oO (λ c u hc q=>(sb.2 c λ z=>?_).trans q) (λ _ q=>q) λ _ _ q=>q;rcases hc with y | y
  ·rw[z] at y;rw[<- y,I.free] at e;cases e
  ·rw[z,I.free] at y;cases y
theorem Air.agt(air:Air H s.heap a)(q:Q () s):wpAny M A (setFlight (.ref a) none) Q E s:=by
 obtain⟨C,dct,vs,cc,e1,e2,tb,_⟩:=air;unfold setFlight;rcases tb with z | ⟨T,oT,ts,z1,z2,z3,z4,z5⟩
 ·refine wpAny_bind (wpAny_field e2 rfl z ?_);rw[if_neg (by decide)];exact wpAny_pure q
 ·refine wpAny_bind (wpAny_field e2 rfl z1 ?_);rw[if_pos (show(Value.ref T != Value.none)=true from by simp)];refine wpAny_setField z3 z4 (Array.getElem?_eq_some_iff.mp z5).1 ?_;rw[show((none:Option Addr).elim Value.none λ f=>rawInt f)=Value.none from rfl,Heap.update_setField_same s.heap T oT ts 3 .none z3 z4 z5];exact q
end L2
namespace D
open L2 XO
theorem Abs.forget{K:FG}{H:Hp}{σ:St}{τ:DS}{M:MH}(h:Abs K H σ τ M):Abs K H (List.replicate σ.length none) (List.replicate τ.length none) M:=by
 refine⟨by simp[h.len],λ i w e=>?_,h.mem⟩;rw[List.getElem?_replicate] at e
 split at e<;>cases e
section
variable {X:Cx}{pos np hpos:Pos}{body suite:List Stmt}{b0:Stmt}{hs:List ExceptHandler}{h0:ExceptHandler}{tb:XE->TSd}{th rest:Addr->TSd}{ts:TSd}
def PHd(X:Cx)(hs:List ExceptHandler)(th:Addr->TSd):Prop:=∀ (pins:PN) (σ:St) (H:Hp) (s:Shared) (a:Addr) (D:Ends),Inv X pins σ H s->Air H s.heap a->upS X.K (th a) D σ H->wpAny (model X.prog X.w) X.A (handleBy (.ref a) X.env hs) (SP X pins D) X.xe s
def ah1(tb:XE->TSd)(th:Addr->TSd)(D:Ed)(τ:DS)(M:MH):Prop:=tb (λ a τ' M'=>th a D τ' M') D τ M
theorem adv(hst:X.stack=X.env::X.outer)(hf:X.env.frame=some X.env.locals)
  (hb:∀ (H0:Hp) (pn:PN) (xe:VP) (E:XE),Lk (X.mL H0 pn xe) E->PassesOwn (model X.prog X.w) X.A X.env xe->md (X.mL H0 pn xe) body (tb E))(hh:PHd X (h0::hs) th):PSd X (.Try body (h0::hs) [] [] pos) (ah1 tb th):=by
 intro pins s σ H D I h;obtain⟨τ,M,Dd,A,h,k1,k2,k3,k4⟩:=h;refine wpAny_Try_except ?_;refine wpAny_mono (hb (rf X.H₀ H) (X.pn++pins) (λ e s1=>wpAny (model X.prog X.w) X.A (noteFrame e X.env) (λ _ s2=>wpAny (model X.prog X.w) X.A (setFlight e none) (λ _ s3=>wpAny (model X.prog X.w) X.A (handleBy e X.env (h0::hs)) (SP X pins D) X.xe s3) X.xe s2) X.xe s1)
  (λ a τ' M'=>th a Dd τ' M') (λ pins' σ' H' s' a τ' M' J air ab e=>?_) PassesOwn.looking [] s σ H D I.aif ⟨τ,M,Dd,A,h,k1,k2,k3,k4⟩) (λ f s1 q=>?_) λ _ _ z=>z
 ·have J2:=I.vO J;have kp:Kp H H':=⟨λ b xs z=>J.base.mS b xs (wW z),λ b o u z=>J.base.frzs b o u (yT z)⟩;refine J2.aau J2.ok.frames hst hf air λ s3 J3 air3=>hh pins σ' H' s3 a D J3 air3 ⟨τ',M',Dd,ab,e,λ σ2 H2 τ2 M2 k=>k1 σ2 H2 τ2 M2 (kp.trans k),λ v H2 w M2 k=>k2 v H2 w M2 (kp.trans k),λ σ2 H2 τ2 M2 k=>k3 σ2 H2 τ2 M2 (kp.trans k),λ σ2 H2 τ2 M2 k=>k4 σ2 H2 τ2 M2 (kp.trans k)⟩
 ·cases f with
  | next=>obtain⟨σ',H',J,q⟩:=q;exact wpAny_execs_nil ⟨σ',H',I.vO J,q⟩
  | brk=>obtain⟨σ',H',J,q⟩:=q;exact⟨σ',H',I.vO J,q⟩
  | cont=>obtain⟨σ',H',J,q⟩:=q;exact⟨σ',H',I.vO J,q⟩
  | ret u=>obtain⟨v,σ',H',J,r,q⟩:=q;exact⟨v,σ',H',I.vO J,r,q⟩
def adg(tab:Addr->Option Bool)(i:Nat)(ts:TSd)(rest:Addr->TSd)(a:Addr)(D:Ed)(τ:DS)(M:MH):Prop:=∃ C fs b,M a=some (.exc C fs)/\tab C=some b /\
 if b=true then ts {nx:=λ τ2 M2=>D.nx (List.replicate τ2.length none) M2,rt:=D.rt,bk:=λ τ2 M2=>D.bk (List.replicate τ2.length none) M2,ct:=λ τ2 M2=>D.ct (List.replicate τ2.length none) M2} (τ.set i (some (.m a))) M else rest a D τ M
theorem Air.cls{K:FG}{H:Hp}{h:Heap}{a C:Addr}{M:MH}{fs:List (Str×W)}(air:Air H h a)(m:cX K H M)(e:M a=some (.exc C fs)):∃ dct vs,h.get? a=some (rh C dct vs):=by obtain⟨C',dct,vs,cc,e1,e2,_,cd⟩:=air;obtain⟨φ,dct',g1,g2,_⟩:=m a _ e;rw[e1] at g1;cases g1;obtain⟨vs',e3,_⟩:=g2 h ⟨vs,e2,cd⟩;exact⟨_,vs',e3⟩
theorem aee(I:Inv X pins σ H s)(hg:Gl X x)(hm:X.mg x=some (.ref D))(he:s.heap.get? a=some (rh C dct vs))
  (ht:W.exmOne X.K (.ref C) (.ref D)=some b)(hdb:ND x)(q:R (.ok (if b then .brk else .next)) s) :
  codeAny (model X.prog X.w) (X.A.mark (some (.ref a))) (.handlers (.ref a) [.ExceptHandler (some (.Name x np)) none [] hpos] X.env) R s:=by
 refine codeAny_handlers_test (jy (X:=X.gU a) (I.gU a) hg hm ?_ hdb);exact(W.exm_one (M:=model X.prog X.w) I.kIn ((W.Looks.ld he).andThen .now) ht).here q
theorem ahN(hg:Gl X x)(hm:X.mg x=some (.ref Dc))(ht:∀ C b,tab C=some b->W.exmOne X.K (.ref C) (.ref Dc)=some b)(hN:X.N.Nodup)(hi:X.N[i]? =some n)(hl:X.env.scope.names.lookup n=some .local)(hk:X.env.scope.kind=.function)
  (hsu:∀ a,md (X.gU a) (b0::suite) ts)(hr:PHd X hs rest)(hdb:ND x:=by decide):PHd X (.ExceptHandler (some (.Name x np)) (some n) (b0::suite) hpos::hs) (adg tab i ts rest):=by
 intro pins σ H s a Dn I air h;obtain⟨τ,M,Dd,A,⟨C,fs,b,hma,htb,h⟩,k1,k2,k3,k4⟩:=h;obtain⟨dct,vs,he⟩:=Air.cls air A.mem hma;refine wpAny_handleBy_cons (aee I hg hm he (ht C b htb) hdb ?_) (by intro q;cases q);cases b with
 | false=>exact hr pins σ H s a Dn I air ⟨τ,M,Dd,A,h,k1,k2,k3,k4⟩
 | true =>
  rw[if_pos rfl] at h;refine codeAny_handlers_suite_as (air.agt ?_);refine gE (X:=X.gU a) (i:=i) (v:=.ref a) (I.gU a) hN hi (.inl hl) rfl (λ s2 J=>?_) (.inr hl);have gone:∀ {σ3:St} {H3:Hp} {s3:Shared} {Q:Unit->Shared->Prop},Inv (X.gU a) pins σ3 H3 s3->(∀ s4,Inv X pins (List.replicate σ3.length none) H3 s4->Q () s4)->wpAny (model X.prog X.w) X.A (do bindName X.env n .none;unbindBehindTheSuite X.env n hpos) Q X.xe s3:=λ {σ3 H3 s3 Q} J3 q=>by obtain⟨m,hn,_⟩:=J3.loc;refine wpAny_nameGoes hl hn (by rw[hk];rfl) λ h' m' hn' sb=>q _ ((J3.uncaught I.ok).gone hn' sb)
  have ab2:=A.set i (v:=.ref a) (w:=.m a) rfl;refine wpAny_mono (hsu a pins s2 _ H {nx:=λ σ2 H2=>Dn.nx (List.replicate σ2.length none) H2,rt:=Dn.rt,bk:=λ σ2 H2=>Dn.bk (List.replicate σ2.length none) H2,ct:=λ σ2 H2=>Dn.ct (List.replicate σ2.length none) H2} J ⟨_,M,_,ab2,h,λ σ2 H2 τ2 M2 kp A2 q=>?_,λ v H2 w M2 kp r m q=>k2 v H2 w M2 kp r m q,λ σ2 H2 τ2 M2 kp A2 q=>?_,λ σ2 H2 τ2 M2 kp A2 q=>?_⟩) (λ f s3 q=>?_) λ _ _ z=>z.elim
  ·exact k1 _ H2 _ M2 kp A2.forget q
  ·exact k3 _ H2 _ M2 kp A2.forget q
  ·exact k4 _ H2 _ M2 kp A2.forget q
  ·cases f with
   | next=>obtain⟨σ3,H3,J3,q⟩:=q;exact gone J3 λ s4 J4=>⟨_,H3,J4,q⟩
   | brk=>obtain⟨σ3,H3,J3,q⟩:=q;exact gone J3 λ s4 J4=>⟨_,H3,J4,q⟩
   | cont=>obtain⟨σ3,H3,J3,q⟩:=q;exact gone J3 λ s4 J4=>⟨_,H3,J4,q⟩
   | ret u=>obtain⟨v,σ3,H3,J3,r,q⟩:=q;exact gone J3 λ s4 J4=>⟨v,_,H3,J4,r,q⟩
end
theorem ab5(I:Inv X pins σ H s)(m:cX X.K H M)(e:M a=some (.exc C fs)) :
  (∃ ox od,W.InstAt s.heap a ox C od)/\(∀ w,fs.lookup f=some w->∃ v u ox od,aO X.K H w v/\RelV v u/\W.InstAt s.heap a ox C (some od)/\W.lookIn f od=some (some u)):=by
 obtain⟨φ,dct,e1,e2,e3⟩:=m a _ e;obtain⟨vs,hx,_⟩:=e2 s.heap (I.hok a _ e1).1;rcases e3 with ⟨rfl,rfl⟩ | ⟨dx,o,l,rfl,e4,pr⟩
 ·exact⟨⟨_,none,hx,rfl,rfl,True.intro⟩,λ w z=>nomatch z⟩
 ·obtain⟨ho,mA,n1,r1⟩:=I.hok dx _ e4;refine⟨⟨_,some o,hx,rfl,rfl,ho⟩,λ w z=>?_⟩;have g:=qz f pr;rw[z] at g;obtain⟨v,eb,rb⟩:=OR.some_of g;obtain⟨u,hu,ru⟩:=uF.some_of (v:=v) (o:=mA f) (by rw[<- eb];exact r1 f);obtain⟨od,g1,g2⟩:=yX n1;exact⟨v,u,_,od,rb,ru,⟨hx,rfl,rfl,g1⟩,by rw[g2,hu]⟩
def aaU(cs:List Addr)(td:TD)(f:Str)(τ:DS)(M:MH)(Q:QD):Prop:=td τ M λ w M1=>∃ a C fs v,w=.m a/\M1 a=some (.exc C fs)/\C∈cs/\fs.lookup f=some v/\Q v M1
theorem ada(hc:∀ C∈cs,XC X.K C/\fF X.K C f)(he:PD X o td)(hb:attributeBase o f X.env (eval o X.env)=eval o X.env:=by rfl):PD X (.Attribute o f pos) (aaU cs td f):=by
 intro pins s σ H Q I h;obtain⟨τ,M,Qd,A,h,k⟩:=h;refine aej hb (thn (he pins s σ H (λ x H1=>∃ w M1,Kp H H1/\aO X.K H1 w x/\cX X.K H1 M1/\∃ a C fs v,w=.m a/\M1 a=some (.exc C fs)/\C∈cs/\fs.lookup f=some v/\Qd v M1) I ⟨τ,M,_,A,h,λ v H1 w M1 kp r m q=>⟨w,M1,kp,r,m,q⟩⟩)
  λ u s1 ⟨x,H1,I1,rx,w,M1,kp,r1,m1,a,C,fs,v,ew,hma,hC,hl,q⟩=>?_)
 subst ew;cases (show x=.ref a from r1);obtain rfl:u=Value.ref a:=rx;obtain⟨v',u',ox,od,rv,ru,J,lo⟩:=(ab5 (f:=f) I1 m1 hma).2 v hl;obtain⟨xc,na⟩:=hc C hC;obtain⟨cd,hcd,hd,_⟩:=fo xc.x;refine ajj I1.kIn xc J (W.findObj_own (by unfold W.hasDictIn;rw[hcd];exact hd) na rfl lo) (wt ru) ?_;exact⟨v',H1,I1.tok _,ru,k v' H1 v M1 kp rv m1 q⟩
def aew:V->Value
 | .ref a=>.ref a
 | .ty n=>.type n
 | _=>.none
def yM:V->Bool
 | .ref _=>true
 | .ty _=>true
 | _=>false
theorem yE:∀ {v:V} {u:Value},yM v=true->RelV v u->u=aew v
 | .ref _,_,_,r=>r
 | .ty _,_,_,r=>r
 | .non,_,h,_=>nomatch h
 | .bl _,_,h,_=>nomatch h
 | .int _,_,h,_=>nomatch h
 | .str _,_,h,_=>nomatch h
 | .byt _,_,h,_=>nomatch h
 | .flt _,_,h,_=>nomatch h
theorem sY:∀ {cs:List V} {us:List Value},(∀ c∈cs,yM c=true)->Vals cs us->us=cs.map aew
 | _,_,_,.nil=>rfl
 | _,_,h,.cons r t=>by rw[yE (h _ (by simp)) r,sY (λ c hc=>h c (by simp[hc])) t];rfl
def IsC(H:Hp)(v:V)(cs:List V):Prop:=cs=[v]\/∃ t,v=.ref t/\H t=some (.tup cs)
def ajs(K:FG)(xs:List V)(H:Hp)(Q:VK):Prop:=∃ a C c cs b M fs,xs=[.ref a,c]/\cX K H M/\M a=some (.exc C fs)/\IsC H c cs/\(∀ c∈cs,yM c=true)/\XC K C/\W.kitAny K (.ref C) (cs.map aew)=some b/\Q (.bl b) H
theorem aaB:eI X (.builtin "isinstance") (ajs X.K):=by
 intro pins s σ H xs us Q I r h;obtain⟨a,C,c,cs,b,M,fs,rfl,m,e,hc,hcs,xc,kb,q⟩:=h;obtain⟨u,w,rfl,r1,r2⟩:=vals2 r;cases (show u=Value.ref a from r1);obtain⟨⟨ox,od,J⟩,_⟩:=ab5 (f:= "") I m e;have fin:∀ tk,EP X pins σ Q (.bool b) {s with toks:=tk}:=λ tk=>⟨.bl _,H,I.tok _,rfl,q⟩;rcases hc with rfl | ⟨t,rfl,ht⟩
 ·have e1:=yE (hcs c (by simp)) r2;subst e1;have e2:W.kitOne X.K (.ref C) (aew c)=some b:=by
   simp only[List.map_cons,List.map_nil,W.kitAny] at kb
   split at kb
   ·rename_i z;rw[z,kb]
   ·rename_i z;rw[z,kb]
   ·cases kb
  exact W.kia_one (abk xc) I.kIn J e2 (λ z=>nomatch z) fin
 ·cases (show w=Value.ref t from r2);obtain⟨_,its,rv,⟨o,g1,g2,_,n,g3⟩⟩:=I.hok t _ ht;have e1:=sY hcs rv;subst e1;obtain⟨c1,c2,c3,c4⟩:=o;cases g2;cases g3;exact W.kia_tup (abk xc) I.kIn J g1 kb (λ z=>nomatch z) fin
def ab8(tab:Addr->Option Bool)(td:TD)(τ:DS)(M:MH)(Q:QD):Prop:=td τ M λ w M1=>∃ a C fs b,w=.m a/\M1 a=some (.exc C fs)/\tab C=some b/\Q (.d (.bool b)) M1
def CTm(cs:List V)(tc:TE):Prop:=∀ σ H (Q:VK),(∀ v H',(∀ b u,H b=some u->H' b=some u)->IsC H' v cs->Q v H')->tc σ H Q
theorem ac4(v:V):CTm [v] (tC v):=λ σ H Q h=>h v H (λ _ _ z=>z) (.inl rfl)
theorem adY(h:∀ σ H (Q:List V->Hp->Prop),Q cs H->t σ H Q)(hz:cs.length<=1000):CTm cs (aiF t):=λ σ H Q k=>h σ H _ ⟨by have:=s16;omega,λ p hp=>k (.ref p) _ (λ b u z=>by rw[ao (aV z hp)];exact z) (.inr ⟨p,rfl,ar⟩)⟩
theorem abm(ht:∀ C b,tab C=some b->XC X.K C/\W.kitAny X.K (.ref C) (cs.map aew)=some b)(hcs:(cs.all yM)=true)(hg:Gl X "isinstance")(hm:X.mg "isinstance" = none)(ho:PD X o td)(hc:PE X ce tc)(ct:CTm cs tc)
  (h1:gh o=false:=by rfl)(h2:gh ce=false:=by rfl):PD X (.Call (.Name "isinstance" p) [o,ce] [] pos) (ab8 tab td):=by
 refine iA (tu aaB hg hm aW (iG ho (iG hc mX (cR ce [] X.env h2)) (cR o [ce] X.env h1)) (by decide) (by decide) (cR o [ce] X.env h1) (dh pos X.env [ce] (by simp[h2]))) λ σ H Q h=>?_;obtain⟨τ,M,Qd,A,h,k⟩:=h;refine⟨τ,M,_,A,h,λ v H1 w M1 kp r m hq105=>?_⟩;obtain⟨a,C,fs,b,ew,hma,htb,q⟩:=hq105;subst ew;cases (show v=.ref a from r);refine ct σ H1 _ λ c H2 st ic=>?_;obtain⟨xc,kb⟩:=ht C b htb;have kp2:Kp H1 H2:=⟨λ b xs z=>st b _ z,λ b o u z=>st b _ z⟩;have m2:cX X.K H2 M1:=λ b mo z=>(m b mo z).keep kp2 λ u y=>st b u y;exact⟨a,C,c,cs,b,M1,fs,rfl,m2,hma,ic,λ c hc=>List.all_eq_true.mp hcs c hc,xc,kb,k (.bl b) H2 (.d (.bool b)) M1 (kp.trans kp2) rfl m2 q⟩
structure Xi(K:FG)(C:Addr)(qual:Str)(st:Stmt)(ps:List Str)(f:Addr)(fd:FuncData):Prop where
 fn:Fun K "__init__" qual st f fd
 xm:Xm K C f
 bd:L2.Binds K fd ps []
theorem ahE{K:FG}{C:Addr}{qual:Str}{st:Stmt}{ps:List Str}{f:Addr}{oc:Value}{od an:Option Addr}{osl:Array (Option Value)}{kV doc pm cdv ct:Value}(xc:XC K C)(a:W.findIn K (.ref C) "__init__" = some (some (.ref f)))(i:W.typeIn K (.ref f)=some (.type "function"))
  (l:K.lookup f=some ⟨oc,od,.func (W.fnOf "__init__" qual (bH st) (bj st) (aj st) .none kV doc pm an cdv ct),osl⟩)(c:W.codeIn K cdv qual=true)(k:W.keepIn K (.ref f)=true)(m:xmk K C=true)(ty:W.typeIn K (.ref C)=some (.type "type"))(kc:W.keepIn K (.ref C)=true)
  (b:∀ (kV doc pm:Value) (an:Option Addr) (cdv ct:Value) (us:List Value),us.length=ps.length->bindArgs (W.fnOf "__init__" qual (bH st) (bj st) (aj st) .none kV doc pm an cdv ct) ⟨us,[]⟩=pure (ps.zip us)) :
  Xi K C qual st ps f (W.fnOf "__init__" qual (bH st) (bj st) (aj st) .none kV doc pm an cdv ct):=
 have F:=abL (st:=st) l c k
 ⟨F,⟨xc,m,ty,a,i,kc⟩,F.binds b⟩
def zk(l:List (Addr×Bool))(C:Addr):Option Bool:=l.lookup C
inductive jf(P:Addr->Bool->Prop):List (Addr×Bool)->Prop
 | nil:jf P []
 | cons {a:Addr} {b:Bool} {l:List (Addr×Bool)}:P a b->jf P l->jf P ((a,b)::l)
theorem jf.of(h:jf P l):∀ C b,zk l C=some b->P C b:=by
 induction h with
 | nil=>intro C b z;cases z
 | @cons a b l p _ ih =>
  intro C b' z;unfold zk at z ih;rw[List.lookup_cons] at z
  split at z
  ·rename_i e
   cases z;rw[beq_iff_eq.mp e];exact p
  ·exact ih C b' z
inductive vB(P:Addr->Prop):List Addr->Prop
 | nil:vB P []
 | cons {a:Addr} {l:List Addr}:P a->vB P l->vB P (a::l)
theorem vB.of(h:vB P l):∀ C∈l,P C:=by
 induction h with
 | nil=>intro C z;cases z
 | cons p _ ih =>
  intro C z;rcases List.mem_cons.mp z with e | e
  ·rw[e];exact p
  ·exact ih C e
def PCs(X:Cx)(es:List Expr)(cs:List V):Prop:=(∃ t,PA X es t/\∀ σ H (Q:List V->Hp->Prop),Q cs H->t σ H Q)/\(cs.all yM)=true
theorem acC:PCs X [] []:=⟨⟨_,mX,λ σ H Q q=>q⟩,rfl⟩
theorem tj(hg:Gl X x)(hm:X.mg x=some (.ref C))(r:PCs X es cs)(hd:ND x:=by decide):PCs X (.Name x p::es) (.ref C::cs):=by obtain⟨⟨t,h1,h2⟩,h3⟩:=r;exact⟨⟨_,iG (sd (v:=.ref C) hg hm rfl hd) h1,λ σ H Q q=>h2 σ H _ q⟩,by rw[List.all_cons,h3];rfl⟩
section
variable {X:Cx}{pos p p' apos cpos np hpos:Pos}{k:Nat}{f C:Addr}{fd:FuncData}{ps fs:List Str}{sp:SpX}{x m n:Str}{e o:Expr}{es:List Expr}{t:TAd}{td:TD}{E:XE}
theorem xw(L:Lk X E)(F:cj X.prog X.w X.K X.mg X.base (CXE X.prog X.w) k f fd ps (eL X.K sp))(hr:eM k X.A)(hg:Gl X x)(hm:X.mg x=some (.ref f))(hk:W.keepIn X.K (.ref f)=true)(hb:L2.Binds X.K fd ps [])
  (ha:Jd (PAd X (e::es) t))(hdb:ND x:=by decide)(h1:gh e=false:=by rfl)(h2:(es.all λ e=>!gh e)=true:=by rfl) :
  Jd (PD X (.Call (.Name x p) (e::es) [] pos) (fX sp E t)):=⟨have ha:=ha.h;by
 intro pins s σ H Q I h;obtain⟨τ,M,Qd,A,h,k⟩:=h;refine wpAny_Call_Name_kw (jy I hg hm ?_ hdb);refine W.callWith_K (h₀:=X.base) I.ok.mod.kin hk (thn (ha pos pins s σ H (λ vs H1=>∃ ws M1,Kp H H1/\bB X.K H1 ws vs/\cX X.K H1 M1/\sp ws M1 Qd λ a M'=>E a τ M') I ⟨τ,M,_,A,h,λ vs H1 ws M1 kp r m q=>⟨ws,M1,kp,r,m,q⟩⟩) λ us s1 ⟨vs,H1,I1,r,ws,M1,kp,rw,m1,q⟩=>⟨I1.kIn,?_⟩) (cR e es X.env h1) (dh pos X.env es h2);refine ad0 (E:=λ v _ H'=>∃ a M',v=.ref a/\Kp H1 H'/\cX X.K H' M'/\E a τ M') F hr hb I1 r ⟨ws,M1,Qd,_,rw,m1,q,kgo k kp,λ a H' M' kp' m' e'=>⟨a,M',rfl,kp',m',e'⟩⟩ λ u s' hx=>yI L I1 (A.go kp m1) (λ v H' z=>z) hx⟩
theorem fC(L:Lk X E)(c:Xm X.K C f)(F:cj X.prog X.w X.K X.mg X.base CX0 k f fd ps (nr C fs))(hr:eM (k+1) X.A)(hg:Gl X x)(hm:X.mg x=some (.ref C))(hb:L2.Binds X.K fd ps [])(ha:Jd (PAd X (e::es) t))
  (hdb:ND x:=by decide)(h1:gh e=false:=by rfl)(h2:(es.all λ e=>!gh e)=true:=by rfl):Jd (PSd X (.Raise (some (.Call (.Name x p) (e::es) [] cpos)) none pos) (mV C fs E t)):=⟨have ha:=ha.h;by
 intro pins s σ H D I h;obtain⟨τ,M,Dd,A,h,_⟩:=h;rw[arm_exec_Raise];refine wpAny_bind (wpAny_standAt (aeE (K:=X.K) hr.hd (wpAny_bind ?_)));refine wpAny_Call_Name_kw (jy I hg hm ?_ hdb);refine W.callWith_K (h₀:=X.base) I.ok.mod.kin c.kp (thn (ha cpos pins s σ H (λ vs H1=>∃ ws M1,Kp H H1/\bB X.K H1 ws vs/\cX X.K H1 M1/\ws.length=fs.length/\ws.length<=1000/\∀ a,M1 a=none->E a τ (bY M1 a (.exc C (fs.zip ws)))) I
  ⟨τ,M,_,A,h,λ vs H1 ws M1 kp r m q=>⟨ws,M1,kp,r,m,q⟩⟩) λ us s1 ⟨vs,H1,I1,r,ws,M1,kp,rw1,m1,hl,hz,q⟩=>⟨I1.kIn,?_⟩) (cR e es X.env h1) (dh cpos X.env es h2)
 have hlv:vs.length=fs.length:=by rw[<- rw1.length];exact hl
 have e0:H1 (s1.heap.objs.size+1)=none:=I1.hok.fresh (Nat.le_succ _);have J:Inv X pins σ (upd H1 (s1.heap.objs.size+1) (.ext (XV (s1.heap.objs.size+1) C none #[.ref s1.heap.objs.size,.none,.none,.none,.bool false,.none]))) {s1 with heap:=(s1.heap.push {cls:=.type "tuple",data:=.seq us.toArray}).push (vF C s1.heap.objs.size)}:=by
  have I2:=I1.kept (t':=s1.toks) (h':=s1.heap.push {cls:=.type "tuple",data:=.seq us.toArray}) λ b u z=>Heap.get?_push_of_some _ z;refine I2.laid (t':=s1.toks) (λ b u z=>Heap.get?_push_of_some _ z) (by show(s1.heap.push _).objs.size<=_;rw[Heap.size_push];exact Nat.le_refl _) (agz ?_);have:=Heap.get?_push_size (s1.heap.push {cls:=.type "tuple",data:=.seq us.toArray}) (o:=vF C s1.heap.objs.size) rfl
  rwa[Heap.size_push] at this
 have r2:Vals (V.ref (s1.heap.objs.size+1)::vs) (Value.ref (s1.heap.objs.size+1)::us):=.cons rfl r;refine ahw (h:=s1.heap) (g:=s1.gens) (d:=s1.drawn) (t:=s1.toks) (os:=s1.os) I1.kIn c.xc c.xm c.hi c.hf (by show us.length<=_;have:=r.length;have:=rw1.length;have:=s16;omega) ?_;have hq:=F.len (V.ref (s1.heap.objs.size+1)::vs) (upd H1 (s1.heap.objs.size+1) (.ext (XV (s1.heap.objs.size+1) C none #[.ref s1.heap.objs.size,.none,.none,.none,.bool false,.none])))
  (λ v H3=>v=.non/\∃ dx,(upd H1 (s1.heap.objs.size+1) (.ext (XV (s1.heap.objs.size+1) C none #[.ref s1.heap.objs.size,.none,.none,.none,.bool false,.none]))) dx=none/\dx≠s1.heap.objs.size+1 /\
   H3=upd (upd (upd H1 (s1.heap.objs.size+1) (.ext (XV (s1.heap.objs.size+1) C none #[.ref s1.heap.objs.size,.none,.none,.none,.bool false,.none]))) dx (.ext (DX dx (fs.zip vs)))) (s1.heap.objs.size+1) (.ext (XV (s1.heap.objs.size+1) C (some dx) #[.ref s1.heap.objs.size,.none,.none,.none,.bool false,.none]))) E0
  ⟨_,vs,_,rfl,hlv,ar,λ dx hd ne=>⟨rfl,dx,hd,ne,rfl⟩⟩
 have bnd:=hb {s1 with heap:=(s1.heap.push {cls:=.type "tuple",data:=.seq us.toArray}).push (vF C s1.heap.objs.size)} (Value.ref (s1.heap.objs.size+1)::us) J.kIn (by rw[List.append_nil,<- r2.length];exact hq);rw[List.append_nil] at bnd;refine wpAny_call (codeAny_mono (F.run _ X.stack {s1 with heap:=(s1.heap.push {cls:=.type "tuple",data:=.seq us.toArray}).push (vF C s1.heap.objs.size)} _ ⟨Value.ref (s1.heap.objs.size+1)::us,[]⟩ _ _ (λ v H3=>v=.non/\∃ dx,(upd H1 (s1.heap.objs.size+1) (.ext (XV (s1.heap.objs.size+1) C none #[.ref s1.heap.objs.size,.none,.none,.none,.bool false,.none]))) dx=none/\dx≠s1.heap.objs.size+1 /\
   H3=upd (upd (upd H1 (s1.heap.objs.size+1) (.ext (XV (s1.heap.objs.size+1) C none #[.ref s1.heap.objs.size,.none,.none,.none,.bool false,.none]))) dx (.ext (DX dx (fs.zip vs)))) (s1.heap.objs.size+1) (.ext (XV (s1.heap.objs.size+1) C (some dx) #[.ref s1.heap.objs.size,.none,.none,.none,.bool false,.none]))) E0
  (hr.make C us []) (J.ahm.make C us []) bnd r2 ⟨_,vs,_,rfl,hlv,ar,λ dx hd ne=>⟨rfl,dx,hd,ne,rfl⟩⟩) λ rr s' hq'=>?_)
 cases rr with
 | error e=>exact False.elim hq'
 | ok fl =>
  cases fl with
  | next=>exact False.elim hq'
  | brk=>exact False.elim hq'
  | cont=>exact False.elim hq'
  | ret u =>
   obtain⟨v,H3,I3,rv,ev,dx,hd,ne,eH⟩:=J.after hq';subst ev;refine⟨rv,wpAny_bind (wpAny_standAt (wpAny_pure ?_))⟩;generalize ha0:s1.heap.objs.size+1=a at *;generalize hu0:(#[.ref s1.heap.objs.size,.none,.none,.none,.bool false,.none]:Array Value)=u0 at *;have e3a:H3 a=some (.ext (XV a C (some dx) u0)):=by rw[eH,ar]
   have e3d:H3 dx=some (.ext (DX dx (fs.zip vs))):=by rw[eH,ao ne,ar]
   have oa:s'.heap.get? a=some (rh C (some dx) u0):=(I3.hok a _ e3a).1;obtain⟨⟨mA,n1,r1,w1⟩,⟨od,hod⟩,_⟩:=I3.hok dx _ e3d;have I4:=I3.write (x:=dx) (e:=dx) (o:=.frz od (.xd (fs.zip vs))) (h':=s'.heap) (t':=s'.toks) (by rw[e3d];exact True.intro) (.inl rfl) (λ b q _ z=>z) ⟨od,hod⟩ ⟨hod,mA,n1,r1⟩;have e4a:(upd H3 dx (.frz od (.xd (fs.zip vs)))) a=some (.ext (XV a C (some dx) u0)):=by rw[ao (Ne.symm ne)];exact e3a
   have I5:=I4.write (x:=a) (e:=a) (o:=.ext (XF a C (some dx) true)) (h':=s'.heap) (t':=s'.toks) (by rw[e4a];exact True.intro) (.inl rfl) (λ b q _ z=>z) ⟨_,oa⟩ (afu oa λ _=>by rw[<- hu0];rfl);have hdx:H1 dx=none:=by rw[ao ne] at hd;exact hd
   have at5:∀ b,b≠a->b≠dx->(upd (upd H3 dx (.frz od (.xd (fs.zip vs)))) a (.ext (XF a C (some dx) true))) b=H1 b:=λ b z1 z2=>by rw[ao z1,ao z2,eH,ao z1,ao z2,ao z1]
   have st:∀ b u,H1 b=some u->(upd (upd H3 dx (.frz od (.xd (fs.zip vs)))) a (.ext (XF a C (some dx) true))) b=some u:=λ b u z=>by rw[at5 b (λ y=>by rw[y,e0] at z;cases z) (λ y=>by rw[y,hdx] at z;cases z)];exact z
   have k5:Kp H1 (upd (upd H3 dx (.frz od (.xd (fs.zip vs)))) a (.ext (XF a C (some dx) true))):=⟨λ b xs z=>st b _ z,λ b o u z=>st b _ z⟩;have m5:cX X.K (upd (upd H3 dx (.frz od (.xd (fs.zip vs)))) a (.ext (XF a C (some dx) true))) (bY M1 a (.exc C (fs.zip ws))):=λ b mo z=>by
    by_cases hb:b=a
    ·subst hb;rw[ak] at z;cases z;exact⟨_,some dx,ar,λ h ⟨vs,y,c⟩=>⟨vs,y,λ _=>c rfl⟩,.inr ⟨dx,od,fs.zip vs,rfl,by rw[ao ne,ar],sV fs (rw1.keep k5)⟩⟩
    ·rw[aF hb] at z;exact(m1 b mo z).keep k5 λ u y=>st b u y
   refine⟨a,C,some dx,u0,rfl,I5.kIn,c.xc.x,c.ty,oa,by rw[<- hu0];rfl,?_⟩;exact L pins σ _ s' a τ _ I5 ⟨C,some dx,u0,true,ar,oa,.inl (by rw[<- hu0];rfl),λ _=>by rw[<- hu0];rfl⟩ (A.go (kp.trans k5) m5) (q a (m1.free e0))⟩
variable {body suite:List Stmt}{b0:Stmt}{hs:List ExceptHandler}{h0:ExceptHandler}{tb:XE->TSd}{th rest:Addr->TSd}{ts:TSd}
theorem aaR(hst:X.stack=X.env::X.outer)(hf:X.env.frame=some X.env.locals)
  (hb:∀ (H0:Hp) (pn:PN) (xe:VP) (E:XE),Lk (X.mL H0 pn xe) E->PassesOwn (model X.prog X.w) X.A X.env xe->Jd (md (X.mL H0 pn xe) body (tb E)))(hh:Jd (PHd X (h0::hs) th)):Jd (PSd X (.Try body (h0::hs) [] [] pos) (ah1 tb th)):=
 ⟨D.adv hst hf (λ H0 pn xe E l p=>(hb H0 pn xe E l p).h) hh.h⟩
theorem aa2:Jd (PHd X hs (λ _ _ _ _=>False)):=⟨λ pins σ H s a D I air ⟨τ,M,Dd,_,h,_⟩=>h.elim⟩
theorem afq(hg:Gl X x)(hm:X.mg x=some (.ref Dc))(ht:jf (λ C b=>W.exmOne X.K (.ref C) (.ref Dc)=some b) l)(hN:X.N.Nodup)(hi:X.N[i]? =some n)(hl:X.env.scope.names.lookup n=some .local)(hk:X.env.scope.kind=.function)
  (hsu:∀ a,Jd (md (X.gU a) (b0::suite) ts))(hr:Jd (PHd X hs rest))(hdb:ND x:=by decide):Jd (PHd X (.ExceptHandler (some (.Name x np)) (some n) (b0::suite) hpos::hs) (adg (zk l) i ts rest)):=
 ⟨D.ahN hg hm ht.of hN hi hl hk (λ a=>(hsu a).h) hr.h hdb⟩
theorem tE{f:Str}{cs:List Addr}(hc:vB (λ C=>XC X.K C/\fF X.K C f) cs)(he:Jd (PD X o td))(hb:attributeBase o f X.env (eval o X.env)=eval o X.env:=by rfl):Jd (PD X (.Attribute o f pos) (aaU cs td f)):=⟨D.ada hc.of he.h hb⟩
theorem nR(hm:X.mg "isinstance" = none)(ht:jf (λ C b=>XC X.K C/\W.kitAny X.K (.ref C) [.ref Dc]=some b) l)(hg:Gl X x)(hx:X.mg x=some (.ref Dc))(ho:Jd (PD X o td))(hgi:Gl X "isinstance":= by rfl)
  (hdb:ND x:=by decide)(h1:gh o=false:=by rfl):Jd (PD X (.Call (.Name "isinstance" p) [o,.Name x p'] [] pos) (ab8 (zk l) td)):=
 ⟨D.abm (cs:=[.ref Dc]) ht.of rfl hgi hm ho.h (sd (v:=.ref Dc) hg hx rfl hdb) (ac4 _) h1 rfl⟩
theorem aa1{x1}(hm:X.mg "isinstance" = none)(ht:jf (λ C b=>XC X.K C/\W.kitAny X.K (.ref C) (cs.map aew)=some b) l)(hc:PCs X es cs)(ho:Jd (PD X o td))(hz:cs.length<=1000:=by decide)(hgi:Gl X "isinstance":= by rfl)
  (h1:gh o=false:=by rfl):Jd (PD X (.Call (.Name "isinstance" p) [o,.Tuple es x1 p'] [] pos) (ab8 (zk l) td)):=by
 obtain⟨⟨t,g1,g2⟩,g3⟩:=hc;exact⟨D.abm (cs:=cs) ht.of g3 hgi hm ho.h (abb g1) (adY g2 hz) h1 rfl⟩
end
section
variable {X:Cx}{K:FG}
end
section
variable {X:Cx}{K:FG}
def ahf(d:PyData)(ds:List PyData):Bool:=vD d&&vD (.list ds)
def inA(d:PyData)(ds:List PyData):Bool:=ds.any λ y=>PyData.eqv y d
theorem yN(hr:iB k A)(h:SeqAt.shaped d=true):A.units+1+min (PyData.depthAll ds) d.depth<cLine:=by have h1:=SeqAt.depth_of_shaped h;have h2:min (PyData.depthAll ds) d.depth<=d.depth:=Nat.min_le_right _ _;have:=hr.un;omega
theorem afn(hr:iB k X.A):OpR X (compareOp .In) (λ x y H Q=>∃ d ds,lY X.K H d x/\(lY X.K H (.list ds) y\/aG X.K H (.tuple ds) y)/\ahf d ds=true/\Q (.bl (inA d ds)) H):=by
 intro pins s σ H x y v u Q I rx ry h;obtain⟨d,ds,h1,h2,o,q⟩:=h;simp only[ahf,vD,Bool.and_eq_true,Bool.not_eq_true'] at o;obtain⟨⟨o1,o2⟩,o3,o4⟩:=o;obtain⟨as,r1⟩:=fE I d h1 rx o2;have c3:=SeqAt.canLay_of_shaped o3;rcases h2 with h2 | h2
 ·obtain⟨bs,r2⟩:=fE I (.list ds) h2 ry o4;exact SeqAt.in_list_reads r2 r1 c3 (SeqAt.canLay_of_shaped o1) (yN hr o1) ⟨.bl _,H,I,rfl,q⟩
 ·obtain⟨bs,r2⟩:=eZ I (.tuple ds) h2 ry o4;exact SeqAt.in_tuple_reads r2 r1 c3 (SeqAt.canLay_of_shaped o1) (yN hr o1) ⟨.bl _,H,I,rfl,q⟩
def agj(neg:Bool)(w w':W)(M:MH)(Q:QD):Prop:=∃ d ds,vG M w d/\(vG M w' (.list ds)\/w'=.d (.tuple ds))/\ahf d ds=true/\Q (.d (.bool (xor neg (inA d ds)))) M
theorem acy:OpD K (λ x y H Q=>∃ d ds,lY K H d x/\(lY K H (.list ds) y\/aG K H (.tuple ds) y)/\ahf d ds=true/\Q (.bl (inA d ds)) H) (agj false):=by
 intro x y H w w' M Qd Q r1 r2 m ⟨d,ds,g1,g2,o,q⟩ k;refine⟨d,ds,g1.sound r1 m,?_,o,k _ H (.d (.bool _)) M (Kp.refl H) (by simp[aO,aG]) m q⟩;rcases g2 with g2 | rfl
 ·exact .inl (g2.sound r2 m)
 ·exact .inr r2
end
end D
namespace PySem.SeqAt
open MeetsSeq MeetsSeq2 MeetsSeq3 SeqRoads2
end PySem.SeqAt
namespace ZT
end ZT
namespace D
open L2
section
variable {X:Cx}{K:FG}{a b:Expr}{p pos:Pos}{t:TAd}
end
section
variable {X:Cx}{K:FG}
end
section
variable {X:Cx}{K:FG}
end
section
variable {X:Cx}{e st:Expr}{te:TE}{ts:TO}{pos p2:Pos}
end
section
variable {X:Cx}{K:FG}{e st:Expr}{te:TD}{ts:TOd}{pos p2:Pos}
end
section
variable {X:Cx}{e st:Expr}{a:Addr}{x:Str}{kvs:List (Str×PyData)}{pos p p2:Pos}{te:TD}{ts:TOd}
end
end D
namespace XO
open PySem.W
section
variable {prog:Program}{w:World}{A:Around}{E:VP}{K:Frag}{C:Addr}{h:Heap}{g:Array GenState}{d:Drawn}{t:Nat}{os:OsState}
end
end XO
namespace D
open L2 XO
section
variable {X:Cx}{pos p cpos np hpos:Pos}{k:Nat}{f C:Addr}{x:Str}{e:Expr}{es:List Expr}{t:TAd}{E:XE}
variable {body suite:List Stmt}{b0:Stmt}{hs:List ExceptHandler}{th rest:Addr->TSd}{ts:TSd}
end
section
variable {X:Cx}{K:FG}
variable {o e:Expr}{td te:TD}{apos cpos:Pos}
end
section
variable {X:Cx}{e st:Expr}{te:TE}{ts:TO}{pos p2:Pos}
end
section
variable {X:Cx}{e st:Expr}{te:TD}{ts:TOd}{pos p2:Pos}
end
section
variable {X:Cx}{K:FG}
end
section
variable {X:Cx}{pos p cpos apos np hpos p2:Pos}{k:Nat}{f C:Addr}{x y:Str}{e o st:Expr}{es:List Expr}{t:TAd}{E:XE}{body suite:List Stmt}{b0:Stmt}{hs:List ExceptHandler}{rest:Addr->TSd}{ts:TSd}{fd:FuncData}{ps:List Str}{sp:SpX}{td te:TD}{to:TOd}
end
end D
namespace ZS
end ZS
namespace D
open L2
section
variable {X:Cx}{K:FG}
def agO(x y:Str):Bool:=!inS x y
def abd(w w':W)(M:MH)(Q:QD):Prop:=rdS agO w w' M Q
theorem zz:OpD K (rS agO) abd:=afF
theorem ad9:OpR X (compareOp .NotIn) (rS agO):=by intro pins s σ H x y v u Q I rx ry h;obtain⟨i,j,rfl,rfl,q⟩:=h;obtain⟨t,rfl⟩:=rx;obtain⟨t',rfl⟩:=ry;exact SB.notContains (bO I q rfl)
end
end D
namespace RT
end RT
namespace D
open L2
mutual
def gS:PyData->Bool
 | .list ds=>ij ds
 | .tuple ds=>ij ds
 | .dict kvs=>kvs.all λ p=>uO p.2
 | _=>true
def ij:List PyData->Bool
 | []=>true
 | d::ds=>gS d&&ij ds
end
def eP(d:PyData):Bool:=d.showable&&decide (d.shown.length<=sizeLine)&&decide (d.depth<=60)&&gS d
theorem s4m:(4000000:Nat)<=sizeLine:=by rw[sizeLine_eq];decide
theorem aae(h:eX d=true)(hb:big d<=4000000)(hd:d.depth<=60)(hk:gS d=true):eP d=true:=by have h1:=iQ d h;have h2:=shown_le d h;have h3:=s4m;simp only[eP,h1,hk,Bool.true_and,Bool.and_true,Bool.and_eq_true,decide_eq_true_eq];exact⟨by omega,hd⟩
theorem aeF(I:Inv X pins σ H s)(e:s.heap.get? a=some o)(c:o.data=.seq its n):sysModules≠a:=by intro h;subst h;obtain⟨_,mm,o',es,ep,h1,h2,_⟩:=I.ok.mod.bm;have e2:=I.bk _ _ h1;rw[e] at e2;cases e2;rw[c] at h2;cases h2
mutual
theorem gL(I:Inv X pins σ H s):∀ (d:PyData) {x:V} {u:Value},aG X.K H d x->RelV x u->gS d=true->∃ as,Reads s.heap u d as/\sysModules ∉ as
 | .none,x,u,h,r,_=>⟨[],fI rfl h r,List.not_mem_nil⟩
 | .bool b,x,u,h,r,_=>⟨[],fI rfl h r,List.not_mem_nil⟩
 | .int i,x,u,h,r,_=>⟨[],fI rfl h r,List.not_mem_nil⟩
 | .str z,x,u,h,r,_=>⟨[],fI rfl h r,List.not_mem_nil⟩
 | .list ds,x,u,h,r,hd=>by simp only[aG] at h;obtain⟨a,vs,e,hs,ra⟩:=h;subst e;cases (show u=Value.ref a from r);obtain⟨its,rv,⟨o,n,e1,e2,e3,e4⟩,hz⟩:=I.list hs.sq;obtain⟨as,q,hn⟩:=ik I ds ra rv (by simpa only[gS] using hd);exact⟨_,.list e1 e2 e4 q,λ hm=>(List.mem_cons.mp hm).elim (aeF I e1 e4) hn⟩
 | .tuple ds,x,u,h,r,hd=>by simp only[aG] at h;obtain⟨a,vs,e,hs,ra⟩:=h;subst e;cases (show u=Value.ref a from r);obtain⟨its,rv,⟨o,e1,e2,n,e4⟩,hz⟩:=I.tuple hs;obtain⟨as,q,hn⟩:=ik I ds ra rv (by simpa only[gS] using hd);exact⟨_,.tuple e1 e2 e4 q,hn⟩
 | .dict kvs,x,u,h,r,hd=>by simp only[aG] at h;obtain⟨a,o,l,e,ha,rk⟩:=h;subst e;cases (show u=Value.ref a from r);obtain⟨z,hs,vs,kv,o',es,ep,e1,e2,e3,e4,e5,e6⟩:=rE I.hok (.inr ⟨o,ha⟩);obtain⟨q1,q2⟩:=iC (h:=s.heap) (by simpa only[gS] using hd) rk kv e5;refine⟨_,.dict e1 e2.1 e3 q1 q2,λ hm=>?_⟩;simp only[List.append_nil,List.mem_singleton] at hm;rw[<- hm] at hs;exact absurd hs (by decide)
theorem ik(I:Inv X pins σ H s):∀ (ds:List PyData) {xs:List V} {us:List Value},bt X.K H ds xs->Vals xs us->ij ds=true->∃ as,ReadsAll s.heap us ds as/\sysModules ∉ as
 | [],xs,us,h,r,_=>by simp only[bt] at h;subst h;cases r;exact⟨_,.nil,List.not_mem_nil⟩
 | d::ds,xs,us,h,r,hd=>by
  simp only[bt] at h;obtain⟨v,vr,e,h1,h2⟩:=h;subst e;simp only[ij,Bool.and_eq_true] at hd;cases r with
  | cons r1 r2 =>
   obtain⟨as,q1,n1⟩:=gL I d h1 r1 hd.1;obtain⟨bs,q2,n2⟩:=ik I ds h2 r2 hd.2;exact⟨_,.cons q1 q2,λ hm=>(List.mem_append.mp hm).elim n1 n2⟩
end
theorem rT(hf:uO d=true)(ok:eP d=true):k8 d=true:=by
 simp only[eP,Bool.and_eq_true] at ok;have hn:d.hasDict=false:=by cases d<;>first | (simp only[PyData.hasDict];done) | cases hf
 simp only[k8,ok.1.1.1,ok.1.1.2,ok.1.2,hn];rfl
theorem mU(hr:iB k X.A):eI X (.builtin "repr") (λ xs H Q=>∃ x d,xs=[x]/\lY X.K H d x/\eP d=true/\Q (.str d.shown) H):=by
 intro pins s σ H xs us Q I r h;obtain⟨x,d,rfl,rd,ok,q⟩:=h;cases hf:uO d with
 | true=>exact uD hr pins s σ H [x] us Q I r ⟨x,d,rfl,rd,rT hf ok,q⟩
 | false =>
  obtain⟨u,rfl,rx⟩:=vals1 r;have ok':=ok;simp only[eP,Bool.and_eq_true,decide_eq_true_eq] at ok';obtain⟨⟨⟨hs,hz⟩,hd⟩,hfl⟩:=ok';obtain⟨H',I',rd'⟩:=ahy I rd;obtain⟨as,rr,hsm⟩:=gL I' d rd' rx hfl;have hu:=hr.units;have go:∀ a,Reads s.heap (.ref a) d as->wpAny (model X.prog X.w) X.A (call (.builtin "repr") [.ref a]) (EP X pins σ Q) X.xe s:=λ a rr=>repr_of_reads' rr hs (λ _=>hsm) hr.gd (by omega) (λ _ _ z=>z) (λ h' u tk hk=>⟨.str _,H,I.kept hk,⟨_,rfl⟩,q⟩) hz;cases rr with
  | none=>cases hf
  | bool b=>cases hf
  | int i t=>cases hf
  | str i t=>cases hf
  | list e1 e2 e3 e4=>exact go _ (.list e1 e2 e3 e4)
  | tuple e1 e2 e3 e4=>exact go _ (.tuple e1 e2 e3 e4)
  | dict e1 e2 e3 e4 e5=>exact go _ (.dict e1 e2 e3 e4 e5)
section
variable {X:Cx}{K:FG}
def rZ(ws:List W)(M:MH)(Q:QD):Prop:=∃ w d,ws=[w]/\vG M w d/\eP d=true/\Q (.d (.str d.shown)) M
theorem sW:fH K (λ xs H Q=>∃ x d,xs=[x]/\lY K H d x/\eP d=true/\Q (.str d.shown) H) rZ:=by intro vs H ws M Qd Q r m ⟨w,d,e,g,ok,q⟩ k;subst e;obtain⟨v,e1,r1⟩:=eU r;exact⟨v,d,e1,g.sound r1 m,ok,k _ H (.d (.str _)) M (Kp.refl H) (by simp[aO,aG]) m q⟩
variable {o e:Expr}{td:TD}{apos cpos:Pos}
variable {a:Expr}{ta:TA}{p p2 pos pos2:Pos}
end
end D
namespace L2
open PySem.W (envX kla_obj kla_fn)
def zq(X:Cx)(q:Str)(sc:Scope)(N':List Str)(cl:List (Str×Addr))(f c:Addr)(s:Shared)(H:Hp)(pins:PN):Cx:=
 {X with A:=X.A.deeper (envX q sc s.heap.objs.size f (.ref c) cl),N:=N',s₀:=s,H₀:=H,env:=envX q sc s.heap.objs.size f (.ref c) cl,outer:=X.stack,stack:=envX q sc s.heap.objs.size f (.ref c) cl::X.stack,ex:=[],fn:=λ _=>false,calm:=true,pn:=X.pn++pins,xe:=λ _ _=>False}
structure qh(X:Cx)(sc:Scope)(x:Str)(fr:List Nat):Prop where
 kind:sc.kind=.function
 co:sc.isCoroutine=false
 gen:sc.isGenerator=false
 cell:∀ y∈sc.names,y.2 ≠ .cell
 free:∀ y∈sc.names,y.2=.free->(X.env.kindOf y.1=some .cell\/X.env.kindOf y.1=some .free)
 own:sc.names.lookup x=some .local
 fr:afN X.N sc fr=true
def vQ(X:Cx)(x:Str)(fr:List Nat):List Str:=x::fr.map λ j=>X.N.getD j Str.empty
def agq(v:V)(fr:List Nat)(σ:St):St:=some v::fr.map λ j=>(σ[j]?).getD none
section
variable {X:Cx}{pins:PN}{σ:St}{H:Hp}{s:Shared}{sc:Scope}{x q:Str}{fr:List Nat}{cl:List (Str×Addr)}{f c:Addr}
theorem agv(L:qh X sc x fr)(hc:X.calm=true)(I:Inv X pins σ H s)(c1:∀ n c,cl.lookup n=some c->X.env.cells.lookup n=some c)(c2:∀ n,(n,NameKind.free)∈sc.names->∃ c,cl.lookup n=some c):(zq X q sc (vQ X x fr) cl f c s H pins).Ok where
 mod:=I.ok.mod
 kind:=L.kind
 glob:=rfl
 blt:=rfl
 above:=Nat.le_refl _
 inj:=λ x y c a b=>I.ok.inj x y c (c1 _ _ a) (c1 _ _ b)
 has:=λ y hy=>by
  have hy:sc.names.lookup y=some .cell\/sc.names.lookup y=some .free:=hy;rcases hy with hy | hy
  ·exact absurd rfl (L.cell _ (PySem.mem_of_lookup hy))
  ·exact c2 y (PySem.mem_of_lookup hy)
 cab:=λ x c z=>absurd (show false=true from z) Bool.false_ne_true
 hd:=λ _=>I.ok.hd hc
 frames:=Around.frames_deeper I.ok.frames
 stk:=.inr ⟨rfl,rfl⟩
 exf:=λ b z=>nomatch z
 bs:=I.bs
 bsz:=Nat.le_trans I.ok.bsz I.sz
 noex:=λ b o e z=>nomatch z
 exfs:=λ b z=>nomatch z
 nS:=I.stack
 frf:=I.nI
theorem aeg(L:qh X sc x fr)(hc:X.calm=true)(I:Inv X pins σ H s)(c1:∀ n c,cl.lookup n=some c->X.env.cells.lookup n=some c)(c2:∀ n,(n,NameKind.free)∈sc.names->∃ c,cl.lookup n=some c)
  {h1:Heap}{tk:Nat}{v:V}{u:Value}(rv:RelV v u)(hn:h1.Ns s.heap.objs.size (λ y=>[(x,u)].reverse.lookup y))(k:∀ b o,s.heap.get? b=some o->h1.get? b=some o) :
  Inv (zq X q sc (vQ X x fr) cl f c s H pins) [] (agq v fr σ) H {s with heap:=h1,toks:=tk}:=by
 have ok:=agv (q:=q) (f:=f) (c:=c) L hc I c1 c2;refine⟨ok,rfl,I.bare,Un.kept k,⟨_,hn,λ i y v' e1 e2 e3=>?_⟩,λ y c e=>?_,I.hok.fresh (Nat.le_refl _),λ y c e=>I.freeC y c (c1 _ _ e),λ p hp=>?_,I.hok.kept k,?_⟩
 ·cases i with
  | zero =>
   have e1':some x=some y:=e1;have e2':some (some v)=some (some v'):=e2;cases e1';cases e2';exact⟨u,rv,.inl ⟨L.own,by simp⟩⟩
  | succ i =>
   have e1':(fr.map λ j=>X.N.getD j Str.empty)[i]? =some y:=e1;have e2':(fr.map λ j=>(σ[j]?).getD none)[i]? =some (some v'):=e2;rw[List.getElem?_map] at e1' e2';cases hq:fr[i]? with
   | none=>rw[hq] at e1';cases e1'
   | some j =>
    rw[hq] at e1' e2';obtain⟨z,hz,hzf⟩:=tW L.fr (List.mem_of_getElem? hq);have ex:z=y:=by have:=Option.some.inj e1';rw[<- this];simp[List.getD,hz]
    subst ex;have ev:σ[j]? =some (some v'):=by
     have z':(σ[j]?).getD none=some v':=Option.some.inj e2';cases w:σ[j]? with
     | none=>rw[w] at z';cases z'
     | some o=>rw[w] at z';exact congrArg some z'
    have hm:(z,NameKind.free)∈sc.names:=PySem.mem_of_lookup hzf;have hk:=L.free _ hm rfl;have vis:Vis X.env.scope z:=by
     rcases hk with w | w
     ·exact .inr (.inl w)
     ·exact .inr (.inr w)
    obtain⟨m0,hn0,hl⟩:=I.loc;obtain⟨u',r,l⟩:=hl j z v' hz ev vis;refine⟨u',r,.inr ⟨.inr hzf,?_⟩⟩;obtain⟨c',hc'⟩:=c2 z hm;rcases l with ⟨w,_⟩ | ⟨_,c'',hc'',hcell⟩
    ·rcases hk with q' | q'
     ·exact absurd (show X.env.kindOf z=some .local from w) (by rw[q'];decide)
     ·exact absurd (show X.env.kindOf z=some .local from w) (by rw[q'];decide)
    ·have:c'=c'':=Option.some.inj ((c1 _ _ hc').symm.trans hc'');subst this;obtain⟨o,ho,hd⟩:=hcell;exact⟨c',hc',o,k _ _ ho,hd⟩
 ·obtain⟨w,o,ho,hd⟩:=I.cell y c (c1 _ _ e);exact⟨w,o,k _ _ ho,hd⟩
 ·have hp':p∈X.pn++pins:=by simpa [zq] using hp
  obtain⟨a1,a2,a3,a4,a5⟩:=I.pin p hp';refine⟨k _ _ a1,a2,Nat.ne_of_lt (Heap.lt_size a1),λ z=>?_,a5⟩;rcases List.mem_cons.mp (I.jR _ z) with e | e
  ·exact a3 e
  ·exact a4 e
 ·show(agq v fr σ).length=(vQ X x fr).length;simp[agq,vQ]
def aex(H:Hp)(q x:Str)(params:Arguments)(body:Expr)(sc:Scope)(cl:List (Str×Addr))(pm:Value)(f:Addr):Prop:=
 ∃ c ctv oc vs t,H f=some (.frz (kla_obj "<lambda>" q params body sc cl pm c ctv) (.own 0))/\H c=some (.frz oc (.own 0))/\oc.data=.fields vs/\vs[1]? =some (.str q t)
theorem ack{k:Nat}{E:VP}{params:Arguments}{body:Expr}{pm:Value}{te:TE}{v:V}{u:Value}{Q:VK}(hr:eM (k+1) X.A)(hc:X.calm=true)(L:qh X sc x fr)(c1:∀ n c,cl.lookup n=some c->X.env.cells.lookup n=some c)(c2:∀ n,(n,NameKind.free)∈sc.names->∃ c,cl.lookup n=some c)
  (hb:∀ cdv ctv u,bindArgs (kla_fn "<lambda>" q params body sc cl pm cdv ctv) ⟨[u],[]⟩=pure [(x,u)])
  (he:∀ c s H pl,eM k (zq X q sc (vQ X x fr) cl f c s H pl).A->PE (zq X q sc (vQ X x fr) cl f c s H pl) body te)
  (I:Inv X pins σ H s)(hf:aex H q x params body sc cl pm f)(rv:RelV v u)(h:te (agq v fr σ) H Q):wpAny (model X.prog X.w) X.A (call (.ref f) [u]) (EP X pins σ Q) E s:=by
 obtain⟨c,ctv,oc,vs,t,h1,h2,h3,h4⟩:=hf;obtain⟨g1,_⟩:=I.hok f _ h1;obtain⟨g2,_⟩:=I.hok c _ h2;refine wpAny_call (W.kla_callFunE hr.depth g1 rfl L.co L.gen rfl ⟨c,oc,vs,t,rfl,g2,h3,h4⟩ ?_);rw[hb];refine wpAny_pure (wpAny_newFunctionEnv L.cell (λ y hy=>by rw[List.mem_singleton.mp hy];exact L.own) (λ h₁ hns hsb=>⟨(I.nolimit).fresh _ hsb,?_⟩) L.kind);have hk₁:∀ b o,s.heap.get? b=some o->h₁.get? b=some o:=λ b o e=>hsb.extBut b o (Nat.ne_of_lt (Heap.lt_size e)) (Heap.get?_push_of_some _ e);have J:=aeg (q:=q) (f:=f) (c:=c) (tk:=s.toks+1) L hc I c1 c2 rv hns hk₁;have hr':eM k (zq X q sc (vQ X x fr) cl f c s H pins).A:=hr.deeper _;refine W.kla_codeExpr (wpAny_mono (he c s H pins hr' [] _ _ _ _ J h) (λ u' s' hh=>?_) λ _ _ z=>z.elim);obtain⟨v',H',J',r',q'⟩:=hh;exact I.after ⟨v',H',J'.os,J'.bare,J'.base,J'.hok,r',q'⟩
end
section
variable {X:Cx}{pins:PN}{σ:St}{H:Hp}{s:Shared}
theorem Inv.ad6{P:Addr}{ps more:Array Value}{h':Heap}{t':Nat}(I:Inv X pins σ H s)(hP:H P=some (.tbl ps))(k:∀ b u,b≠P->s.heap.get? b=some u->h'.get? b=some u)(e:h'.get? P=some {cls:=.none,data:=.fields (ps++more)}) :
  Inv X pins σ (upd H P (.tbl (ps++more))) {s with heap:=h',toks:=t'}:=by
 have nn:∀ b,H b=none->b≠P:=λ b n=>Ne.symm (aV hP n);have nt:∀ b xs,H b=some (.tup xs)->b≠P:=λ b xs q=>vp q hP (λ z=>nomatch z);have nf:∀ b o u,H b=some (.frz o u)->b≠P:=λ b o u q=>vp q hP (λ z=>nomatch z);have no:∀ b y,H b=some (.own y)->b≠P:=λ b y q=>vp q hP (λ z=>nomatch z);refine I.un ⟨λ b o q n _ _=>k b o (nn b n) q,λ b o q n _ _=>⟨o.slots,k b o (nn b n) q⟩,λ b o _ n _=>by rw[ao (nn b n)];exact n,λ b o q _=>?_,λ b xs q=>by rw[ao (nt b xs q)];exact q,λ b o u q=>by rw[ao (nf b o u q)];exact q,λ b qs q=>?_⟩ λ b u q=>?_
 ·by_cases hb:b=P
  ·subst hb;exact⟨_,e⟩
  ·exact⟨o,k b o hb q⟩
 ·by_cases hb:b=P
  ·subst hb;rw[hP] at q;cases q;exact⟨more,ar⟩
  ·exact⟨#[],by rw[ao hb,q];simp⟩
 ·by_cases hb:b=P
  ·subst hb;rw[ar] at q;cases q;exact e
  ·rw[ao hb] at q;exact(I.hok b u q).oO (λ c v hc r=>k c v (by rcases hc with z | z;rw[z];exact hb;exact no c _ z) r) (λ c r=>by rw[ao (no c _ r)];exact r) λ c xs r=>by rw[ao (nt c xs r)];exact r
theorem Inv.hold{D:Addr}{ob:Obj}(I:Inv X pins σ H s)(e:s.heap.get? D=some ob)(hn:H D=none)
  (h0:X.s₀.heap.objs.size<=D)(hL:D≠X.env.locals)(hc:∀ x c,X.env.cells.lookup x=some c->c≠D)(hp:∀ p∈X.pn++pins,p.1≠D):Inv X pins σ (upd H D (.frz ob (.own 0))) s:=by
 have ne:∀ b u,H b=some u->b≠D:=λ b u q=>aV q hn;refine I.step (h':=s.heap) (g':=s.gens) (d':=s.drawn) (t':=s.toks) (ch:=[D]) (λ b hb=>?_) (λ b o _ _ _ q _=>q) (λ b o _ _ _ q _=>⟨o.slots,q⟩) (λ b o hb q n=>?_) (λ b o _ q=>⟨o,q⟩)
  (λ b xs q=>by rw[ao (ne b _ q)];exact q) (λ b o u q=>by rw[ao (ne b _ q)];exact q) (λ b ps q=>⟨#[],by rw[ao (ne b _ q),q];simp⟩) (λ m hm=>hm) (λ b u q=>?_) I.bare
 ·have e:b=D:=by simpa using hb
  subst e;exact⟨.inr h0,hL,hc,hp⟩
 ·rw[ao (λ z=>hb (by simp[z]))];exact n
 ·by_cases hb:b=D
  ·subst hb;rw[ar] at q;cases q;exact⟨e,ob,e⟩
  ·rw[ao hb] at q;exact(I.hok b u q).oO (λ _ _ _ q=>q) (λ c r=>by rw[ao (ne c _ r)];exact r) λ c xs r=>by rw[ao (ne c _ r)];exact r
def ah3(X:Cx)(sc:Scope)(cl:List (Str×Addr)):Prop:=(∀ n c,cl.lookup n=some c->X.env.cells.lookup n=some c)/\∀ n,(n,NameKind.free)∈sc.names->∃ c,cl.lookup n=some c
abbrev nF(ps:Array Value)(lpos:Pos)(c:Addr):Array Value:=ps ++ #[rawInt lpos.line,rawInt lpos.col,.ref c]
def ai5(X:Cx)(P:Addr)(q:Str)(params:Arguments)(body:Expr)(sc:Scope)(lpos:Pos):TE:=λ σ H Q=>∃ ps,H P=some (.tbl ps)/\TriplesOk ps.toList /\
 ((codeAmong lpos ps.toList=none/\∀ c f oc vs t ctv cl,ah3 X sc cl->H c=none->H f=none->c≠f->oc.data=.fields vs->vs[1]? =some (.str q t) ->
   Q (.ref f) (upd (upd (upd H c (.frz oc (.own 0))) P (.tbl (nF ps lpos c))) f (.frz (kla_obj "<lambda>" q params body sc cl ((X.mg "__name__").getD .none) c ctv) (.own 0)))) \/
∃ c o vs t,codeAmong lpos ps.toList=some (.ref c)/\H c=some (.frz o (.own 0))/\o.data=.fields vs/\vs[1]? =some (.str q t)/\∀ f ctv cl,ah3 X sc cl->H f=none ->
   Q (.ref f) (upd H f (.frz (kla_obj "<lambda>" q params body sc cl ((X.mg "__name__").getD .none) c ctv) (.own 0))))
theorem aeZ{P cd:Addr}{params:Arguments}{body:Expr}{sc:Scope}{lpos:Pos}{x:Str}{fr:List Nat}(L:qh X sc x fr)(hcode:X.env.code=.ref cd)(hcd:W.codeHdIn X.K cd P=true)(hdef:defaultsOf params X.env=([],[]):=by rfl) :
  PE X (.Lambda params body sc lpos) (ai5 X P (X.env.qual ++ "<lambda>") params body sc lpos):=by
 intro pins s σ H Q I h;obtain⟨ps,hP,ht,h⟩:=h;obtain⟨cl,hcl,c1,c2⟩:=jV (scope:=sc) (env:=X.env) λ y hy hf=>I.ok.has y.1 (L.free y hy hf);refine W.kla_eval hdef ?_;have hg:=I.ok.mod.glob.keeps I.bk;obtain⟨⟨bm,ob,b1,b2,b3,b4,b5,b6⟩,_⟩:=I.ok.mod.bm;have b3':=I.bk _ _ b3;have hPo:s.heap.get? P=some {cls:=.none,data:=.fields ps}:=I.hok P _ hP;have hgP:mainGlobals≠P:=λ z=>by obtain⟨o,es,ep,e,hd,_⟩:=hg;rw[z,hPo] at e;cases e;cases hd
 have hbP:bm≠P:=λ z=>by rw[z,hPo] at b3';cases b3';cases b4
 have hbG:bm≠mainGlobals:=λ z=>by obtain⟨o,es,ep,e,hd,_⟩:=hg;rw[z,e] at b3';cases b3';rw[hd] at b6;cases b6
 have C:=W.codeHd_of_K I.kIn hcd;rcases h with ⟨hnf,h⟩ | ⟨c,o,vs,t,hf,hc,hd,hv,h⟩
 ·refine W.kla_makeFunction (mg:=X.mg) hcl I.ok.glob hg hcode C hPo ht hnf hgP ⟨bm,ob,b1,b2,hbG,hbP,b3',b4,b5,b6⟩ λ c' ctv h' tk hx hge hlt hrec htb=>?_;obtain⟨c₂,oc,vs,t,e2,hoc,hd,hv⟩:=hrec;cases e2;have hcn:H c'=none:=I.hok.fresh hge;have hfn:H h'.objs.size=none:=I.hok.fresh (Nat.le_trans hge (Nat.le_of_lt hlt));have cP:c'≠P:=Ne.symm (aV hP hcn);have I1:=I.ad6 (t':=tk) hP (λ b u hb e=>hx b u hb e) htb;have I2:=I1.hold hoc (by rw[ao cP];exact hcn) (Nat.le_trans I.sz hge) (λ z=>by obtain⟨m,hn,_⟩:=I.loc;exact absurd (Nat.lt_of_lt_of_le hn.lt hge) (by rw[z];exact Nat.lt_irrefl _))
   (λ y c hy z=>by obtain⟨w,o,ho,_⟩:=I.cell y c hy;exact absurd (Nat.lt_of_lt_of_le (Heap.lt_size ho) hge) (by rw[z];exact Nat.lt_irrefl _))
   (λ p hp z=>by obtain⟨ho,_⟩:=I.pin p hp;exact absurd (Nat.lt_of_lt_of_le (Heap.lt_size ho) hge) (by rw[z];exact Nat.lt_irrefl _))
  have hsw:upd (upd H P (.tbl (nF ps lpos c'))) c' (.frz oc (.own 0))=upd (upd H c' (.frz oc (.own 0))) P (.tbl (nF ps lpos c')):=by
   funext b;unfold upd
   by_cases e1:b=c'
   ·rw[if_pos e1,if_neg (by rw[e1];exact cP),if_pos e1]
   ·rw[if_neg e1,if_neg e1]
  rw[hsw] at I2;have I3:=I2.laid (t':=tk) (o:=.frz (kla_obj "<lambda>" (X.env.qual ++ "<lambda>") params body sc cl ((X.mg "__name__").getD .none) c' ctv) (.own 0)) (h':=h'.push (kla_obj "<lambda>" (X.env.qual ++ "<lambda>") params body sc cl ((X.mg "__name__").getD .none) c' ctv)) (λ b u e=>Heap.get?_push_of_some _ e) (Nat.le_refl _) ⟨Heap.get?_push_size _ rfl,_,Heap.get?_push_size _ rfl⟩;exact⟨.ref _,_,I3,rfl,h c' h'.objs.size oc vs t ctv cl ⟨c1,c2⟩ hcn hfn (Nat.ne_of_lt hlt) hd hv⟩
 ·refine W.kla_makeFunctionHit (mg:=X.mg) hcl I.ok.glob hg hcode C hPo ht hf ⟨bm,ob,b1,b2,hbG,hbP,b3',b4,b5,b6⟩ λ ctv h' tk hk hsz=>?_;have I3:=(I.kept (t':=tk) hk).laid (t':=tk) (o:=.frz (kla_obj "<lambda>" (X.env.qual ++ "<lambda>") params body sc cl ((X.mg "__name__").getD .none) c ctv) (.own 0)) (h':=h'.push (kla_obj "<lambda>" (X.env.qual ++ "<lambda>") params body sc cl ((X.mg "__name__").getD .none) c ctv)) (λ b u e=>Heap.get?_push_of_some _ e) (Nat.le_refl _) ⟨Heap.get?_push_size _ rfl,_,Heap.get?_push_size _ rfl⟩;exact⟨.ref _,_,I3,rfl,h _ ctv cl ⟨c1,c2⟩ (I.hok.fresh hsz)⟩
end
def ahe(X:Cx):Cx:={X with A:=X.A.in1}
theorem Inv.in1(I:Inv X pins σ H s):Inv (ahe X) pins σ H s:=
 ⟨⟨I.ok.mod,I.ok.kind,I.ok.glob,I.ok.blt,I.ok.above,I.ok.inj,I.ok.has,I.ok.cab,I.ok.hd,I.ok.frames,I.ok.stk,I.ok.exf,I.ok.bs,I.ok.bsz,I.ok.noex,I.ok.exfs,I.ok.nS,I.ok.frf⟩,I.os,I.bare,I.base,I.loc,I.cell,I.free,I.freeC,I.pin,I.hok,I.len⟩
theorem Inv.aiX(I:Inv (ahe X) pins σ H s):Inv X pins σ H s:=
 ⟨⟨I.ok.mod,I.ok.kind,I.ok.glob,I.ok.blt,I.ok.above,I.ok.inj,I.ok.has,I.ok.cab,I.ok.hd,I.ok.frames,I.ok.stk,I.ok.exf,I.ok.bs,I.ok.bsz,I.ok.noex,I.ok.exfs,I.ok.nS,I.ok.frf⟩,I.os,I.bare,I.base,I.loc,I.cell,I.free,I.freeC,I.pin,I.hok,I.len⟩
theorem Inv.zL(I:Inv X pins σ H s)(f:jg X pins H it)(k:∀ b o,b≠it->s.heap.get? b=some o->h'.get? b=some o):Inv X pins σ H {s with heap:=h',toks:=t'}:=
 I.turned k f.1 f.2.1 f.2.2.2.1 f.2.2.2.2.1 f.2.2.2.2.2
theorem Inv.ajB(I:Inv X pins σ H s)(fa:jg X pins H a)(fb:jg X pins H b)(ea:s.heap.get? a=some oa)(eb:s.heap.get? b=some ob)(ca:∀ v,oa.data ≠ .cell v)(cb:∀ v,ob.data ≠ .cell v):Inv X ((a,oa)::(b,ob)::pins) σ H s:=
 I.fm λ p hp=>by
  rcases List.mem_cons.mp hp with e | hp
  ·subst e;exact⟨ea,fa.1,fa.2.1,fa.2.2.1,ca⟩
  rcases List.mem_cons.mp hp with e | hp
  ·subst e;exact⟨eb,fb.1,fb.2.1,fb.2.2.1,cb⟩
  ·exact I.pin p (List.mem_append_right _ hp)
theorem Inv.ae1(I:Inv X ((a,oa)::(b,ob)::pins) σ H s):Inv X pins σ H s/\(s.heap.get? a=some oa/\H a=none)/\s.heap.get? b=some ob/\H b=none:=
 have pa:=I.pin (a,oa) (List.mem_append_right _ (.head _));have pb:=I.pin (b,ob) (List.mem_append_right _ (.tail _ (.head _)))
 ⟨I.fm λ p hp=>I.pin p (List.mem_append_right _ (.tail _ (.tail _ hp))),⟨pa.1,pa.2.1⟩,pb.1,pb.2.1⟩
end L2
namespace D
open L2
open PySem.W (kla_obj kla_fn)
def adb(w:W)(fr:List Nat)(τ:DS):DS:=some w::fr.map λ j=>(τ[j]?).getD none
section
variable {X:Cx}{K:FG}
theorem adh{H:Hp}{σ:St}{τ:DS}{M:MH}{v:V}{w:W}(A:Abs K H σ τ M)(r:aO K H w v)(fr:List Nat):Abs K H (agq v fr σ) (adb w fr τ) M:=(tK A 1 fr).set 0 r
theorem adl{M:MH}{a:Addr}{o:MO}(h:M a=some o):bY M a o=M:=by
 funext b
 by_cases e:b=a
 ·rw[e,ak,h]
 ·rw[aF e]
theorem uK{H:Hp}{M:MH}{P c:Addr}{ps:Array Value}{q:Str}{lpos:Pos}{oc:Obj}{vs:Array Value}{t:Tok}(m:cX K H M)(hP:M P=some (.code q lpos))(hT:H P=some (.tbl ps))(ht:TriplesOk ps.toList)(hn:codeAmong lpos ps.toList=none)(hc:H c=none)(hd:oc.data=.fields vs)(hv:vs[1]? =some (.str q t)) :
  Kp H (upd (upd H c (.frz oc (.own 0))) P (.tbl (nF ps lpos c)))/\cX K (upd (upd H c (.frz oc (.own 0))) P (.tbl (nF ps lpos c))) M:=by
 have cP:c≠P:=Ne.symm (aV hT hc);have hT':upd H c (.frz oc (.own 0)) P=some (.tbl ps):=by rw[ao (Ne.symm cP)];exact hT
 have k2:Kp (upd H c (.frz oc (.own 0))) (upd (upd H c (.frz oc (.own 0))) P (.tbl (nF ps lpos c))):=Kp.set hT' (λ _ z=>nomatch z) (λ _ _ z=>nomatch z);refine⟨(Kp.new hc).trans k2,?_⟩;have e:(nF ps lpos c).toList=ps.toList++[rawInt lpos.line,rawInt lpos.col,.ref c]:=by simp[nF]
 have:=(m.new (o:=.frz oc (.own 0)) hc).put (mo:=.code q lpos) k2 ⟨_,ar,by rw[e];exact TriplesOk_snoc _ _ _ _ ht,.inr ⟨c,oc,vs,t,by rw[e];exact codeAmong_snoc _ ht hn,by rw[ao cP,ar],hd,hv⟩⟩;rw[adl hP] at this;exact this
variable {P cd:Addr}{q x:Str}{lpos pos p kpos:Pos}{params:Arguments}{body o:Expr}{sc:Scope}{fr:List Nat}{to tb:TD}{k:Nat}
theorem aex.keep{H H':Hp}{q x:Str}{params:Arguments}{body:Expr}{sc:Scope}{cl:List (Str×Addr)}{pm:Value}{f:Addr}(h:aex H q x params body sc cl pm f)(kp:Kp H H'):aex H' q x params body sc cl pm f:=by obtain⟨c,ctv,oc,vs,t,h1,h2,h3,h4⟩:=h;exact⟨c,ctv,oc,vs,t,kp.frz _ _ _ h1,kp.frz _ _ _ h2,h3,h4⟩
end
end D
namespace L2
def zY(ts:List Addr)(H:Hp):Prop:=∀ b,H b=none\/(∃ o xs,H b=some (.frz o (.lst xs)))\/(b∈ts/\H b=some (.tbl #[]))
theorem yf{P:Program}{w:World}{K:FG}{mg mb:Str->Option Value}{CX:CXT}{k:Nat}{fa a:Addr}{fd:FuncData}{x:Str}{sp:Sp}{s₁:Shared}{vs:List Value}{ns:List Int}
  (KX:K.In s₁.heap)(hns:s₁.heap.Ns mainGlobals mg)(hb:s₁.heap.Ns builtinsNs mb)(hbb:∀ x:Str,x ≠ "__name__" -> mb x=bootBuiltins x)(hlim:s₁.heap.NoLimit)(hbm:BM mg s₁.heap)(hg:s₁.gens = #[])
  (ha:s₁.heap.get? a=some {cls:=.type "list",data:=.seq vs.toArray})(hi:IntsAre vs ns)(hl:ns.length<=sizeLine)(hr:eM k callerA)(ts:List Addr)(hts:∀ T∈ts,(∃ c,W.codeHdIn K c T=true)/\K.lookup T=none/\s₁.heap.get? T=some {cls:=.none,data:=.fields #[]})
  (F:∀ base:Heap,K.In base->base.Ns mainGlobals mg->cj P w K mg base CX k fa fd [x] sp)(hbind:∀ (s:Shared) (u:Value),BindsTo s fd ⟨[u],[]⟩ [(x,u)])
  (hsp:∀ H:Hp,zY ts H->(∀ T∈ts,H T=some (.tbl #[]))->SqL K H a (ns.map V.int)->sp [.ref a] H (λ v _=>v=.bl true) λ _ _ _=>False)
  (hCX:∀ H e s',CX [] H s₁ (λ _ _ _=>False) e s'->False) :
  codeAny (model P w) callerA (.call (.ref fa) ⟨[.ref a],[]⟩) (λ r s'=>r=.ok (.ret (.bool true))/\OldK s₁.heap s'.heap/\s'.os=s₁.os/\AllBare s'.gens) s₁:=by
 have rv:=gz hi;have lenV:=hi.length;have at':∀ T∈ts,T≠a:=λ T hT e=>by have h:=(hts T hT).2.2;rw[e,ha] at h;cases h
 have core:∀ H:Hp,zY ts H->(∀ T∈ts,H T=some (.tbl #[]))->SqL K H a (ns.map V.int)->HOk P w H s₁.heap->(∀ b,H b≠none->b=a\/b∈ts)->(H a≠none->K.lookup a=none) ->
   codeAny (model P w) callerA (.call (.ref fa) ⟨[.ref a],[]⟩) (λ r s'=>r=.ok (.ret (.bool true))/\OldK s₁.heap s'.heap/\s'.os=s₁.os/\AllBare s'.gens) s₁:=by
  intro H hO hTb hS hok hA hK;have jD:∀ {b:Addr} {o:Obj},s₁.heap.get? b=some o->H b=none->(aaJ s₁.heap H).get? b=some o:=λ e n=>aaH e n;have noA:∀ {b:Addr} {o:Obj} {es:Array DictEntry} {ep:Nat},s₁.heap.get? b=some o->o.data=.dict es ep->H b=none:=λ {b o es ep} e d=>by
   cases q:H b with
   | none=>rfl
   | some u =>
    rcases hA b (by rw[q];simp) with e' | e'
    ·subst e';rw[ha] at e;cases e;have d':Data.seq vs.toArray _=Data.dict es ep:=d;cases d'
    ·rw[(hts b e').2.2] at e;cases e;have d':Data.fields _=Data.dict es ep:=d;cases d'
  have nsK:∀ {b:Addr} {m:Str->Option Value},s₁.heap.Ns b m->(aaJ s₁.heap H).Ns b m:=λ {b m} ⟨o,es,ep,e,d,r⟩=>⟨o,es,ep,jD e (noA e d),d,r⟩;have hKb:K.In (aaJ s₁.heap H):=λ b o e=>jD (KX b o e) (by
   cases q:H b with
   | none=>rfl
   | some u =>
    rcases hA b (by rw[q];simp) with e' | e'
    ·subst e';rw[hK (by rw[q];simp)] at e;cases e
    ·rw[(hts b e').2.1] at e;cases e)
  have hM:Mod K mg (aaJ s₁.heap H):=⟨hKb,nsK hns,⟨mb,nsK hb,hbb⟩,let ⟨mc,h1,h2⟩:=hlim; ⟨mc,nsK h1,h2⟩,let ⟨⟨b,o,h1,h2,h3,h4,h5,h6⟩,mm,hmm⟩:=hbm; ⟨⟨b,o,h1,h2,jD h3 (by cases q:H b with | none=>rfl | some u=>(rcases hA b (by rw[q];simp) with e' | e'; (subst e';rw[ha] at h3;cases h3;cases h6); (rw[(hts b e').2.2] at h3;cases h3;cases h6))),h4,h5,h6⟩,mm,nsK hmm⟩⟩;have e0:acA P w K mg (aaJ s₁.heap H) callerA [] s₁ H:=⟨rfl,hM,λ b o e=>adZ e,Nat.le_of_eq (xF _ _),trivial,λ b hb=>absurd (show b∈([]:List Addr) from hb) (by simp),hok,.of_eq hg⟩;refine codeAny_mono ((F _ hKb (nsK hns)).run callerA [] s₁ H ⟨[.ref a],[]⟩ [.ref a] [.ref a] _ _ hr e0 (hbind s₁ (.ref a)) (.cons rfl .nil) (hsp H hO hTb hS)) λ r s' h=>?_;cases r with
  | error e=>exact(hCX H e s' h).elim
  | ok fl =>
   cases fl with
   | next=>exact False.elim h
   | brk=>exact False.elim h
   | cont=>exact False.elim h
   | ret u =>
    obtain⟨v,H',os,bare,un,hok',r',q⟩:=h;have q':v=.bl true:=q;subst q';obtain rfl:u=Value.bool true:=r';have old:∀ b o,s₁.heap.get? b=some o->s'.heap.get? b=some o\/∃ more,b∈ts/\s'.heap.get? b=some {cls:=.none,data:=.fields (#[]++more)}:=λ b o e=>?_;refine⟨rfl,⟨λ b o e=>?_,λ b o e=>(old b o e).elim (λ z=>⟨_,z⟩) λ⟨_,_,z⟩=>⟨_,z⟩⟩,os,bare⟩
    ·rcases old b o e with z | ⟨more,hb,z⟩
     ·exact .inl z
     ·obtain⟨⟨c,hc⟩,_,h3⟩:=hts b hb;rw[h3] at e;cases e;exact .inr (.inl ⟨((W.codeHd_of_K KX hc).tab h3).isCodeTable,rfl,#[],more,rfl,z⟩)
    cases q:H b with
    | none=>exact .inl <| un.keep b o e q (by intro z;exact absurd (show b∈([]:List Addr) from z) (by simp)) (by simp)
    | some u =>
     rcases hO b with z | ⟨ob,xs,z⟩ | ⟨hb,z⟩
     ·rw[q] at z;cases z
     ·refine .inl ?_;have z2:=un.frzs b ob _ z;obtain⟨e1,_⟩:=hok b _ z;obtain⟨e2,_⟩:=hok' b _ z2;rw[e] at e1;cases e1;exact e2
     ·obtain⟨more,z2⟩:=un.tbls b _ z;exact .inr ⟨more,hb,hok' b _ z2⟩
 cases hk:K.lookup a with
 | some o =>
  have e:=KX a o hk;rw[ha] at e;cases e;refine core (λ b=>if b∈ts then some (.tbl #[]) else none) (λ b=>?_) (λ T hT=>if_pos hT) (.inr ⟨_,vs.toArray,_,hk,rfl,rfl,rfl,by rw[List.size_toArray,lenV];exact hl,by simpa using rv⟩) (λ b u z=>?_) (λ b z=>?_) λ z=>absurd (if_neg λ h=>at' a h rfl) z
  ·by_cases hb:b∈ts
   ·exact .inr (.inr ⟨hb,if_pos hb⟩)
   ·exact .inl (if_neg hb)
  ·by_cases hb:b∈ts
   ·have z':=(if_pos hb).symm.trans z;cases z';exact(hts b hb).2.2
   ·have z':=(if_neg hb).symm.trans z;cases z'
  ·by_cases hb:b∈ts
   ·exact .inr hb
   ·exact absurd (if_neg hb) z
 | none =>
  refine core (λ b=>if b=a then some (.frz {cls:=.type "list",data:=.seq vs.toArray} (.lst (ns.map V.int))) else if b∈ts then some (.tbl #[]) else none) (λ b=>?_) (λ T hT=>(if_neg (at' T hT)).trans (if_pos hT)) (.inl (.inr ⟨{cls:=.type "list",data:=.seq vs.toArray},if_pos rfl⟩)) (λ b u z=>?_) (λ b z=>?_) λ _=>hk
  ·by_cases hb:b=a
   ·exact .inr (.inl ⟨_,_,if_pos hb⟩)
   ·by_cases hb2:b∈ts
    ·exact .inr (.inr ⟨hb2,(if_neg hb).trans (if_pos hb2)⟩)
    ·exact .inl ((if_neg hb).trans (if_neg hb2))
  ·by_cases hb:b=a
   ·have z':=(if_pos hb).symm.trans z;cases z';subst hb;exact⟨ha,by rw[List.length_map];exact hl,vs,_,rv,ha⟩
   ·have z0:=(if_neg hb).symm.trans z
    by_cases hb2:b∈ts
    ·have z':=(if_pos hb2).symm.trans z0;cases z';exact(hts b hb2).2.2
    ·have z':=(if_neg hb2).symm.trans z0;cases z'
  ·by_cases hb:b=a
   ·exact .inl hb
   ·by_cases hb2:b∈ts
    ·exact .inr hb2
    ·exact absurd ((if_neg hb).trans (if_neg hb2)) z
theorem aak{l:W.OpenLaw}{n k:Nat}{q:Program}{loose:List Str}{XP:(Str->Option Value)->Heap->Prop}{YP:World->Heap->Prop}{d:DefRec}{K:Params->FG}{CX:World->CXT}{sp:World->Sp}{x:Str}
  (hq:importsNone q=true)(hn:l.most=some n)(hn2:n<=sizeLine)(hdf:d.params.defaults=[])(hr:eM k callerA)
  (ts:List Addr)(hT:∀ w:World,∀ T∈ts,(∃ c,W.codeHdIn (K w.params) c T=true)/\(K w.params).lookup T=none)(hY:∀ (w:World) (h:Heap),YP w h->(K w.params).In h/\∀ T∈ts,h.get? T=some {cls:=.none,data:=.fields #[]})
  (F:∀ (w:World) (mg:Str->Option Value) (fa:Addr) (h:Heap),(K w.params).In h->h.Ns mainGlobals mg->mg d.name=some (.ref fa) ->
   ∃ fd:FuncData,(∀ (s:Shared) (u:Value),BindsTo s fd ⟨[u],[]⟩ [(x,u)]) /\
    ∀ base:Heap,(K w.params).In base->base.Ns mainGlobals mg->cj l.prog w (K w.params) mg base (CX w) k fa fd [x] (sp w))
  (hsp:∀ (w:World) (H:Hp) (a:Addr) (ns:List Int),ns.length<=n->zY ts H->(∀ T∈ts,H T=some (.tbl #[]))->SqL (K w.params) H a (ns.map V.int)->sp w [.ref a] H (λ v _=>v=.bl true) λ _ _ _=>False)
  (hCX:∀ (w:World) (H:Hp) (s:Shared) (e:Value) (s':Shared),CX w [] H s (λ _ _ _=>False) e s'->False) :
  W.WalkO q loose XP YP l.row.toRowW d [] (λ f vs=>PySem.call f vs):=by
 refine Att.su hn hdf λ w s₀ s₁ mg mb fa o pm cd doc a vs ns G Y ho hd hcd hmg hobj hints hlen hg=>?_;obtain⟨KX,hTb⟩:=hY w _ Y;obtain⟨fd,hb,hF⟩:=F w mg fa _ KX G.T.g hmg;exact yf KX G.T.g G.T.b G.T.builtins G.T.nolimit (let ⟨bm,ob,b1,b2,b3,b4,b5,b6⟩:=G.T.bmain;let ⟨mm,hmm,_⟩:=(G.T.seer hq).mods; ⟨⟨bm,ob,b1,b2,b3,b4,b5,b6⟩,mm,hmm⟩) hg hobj hints (Nat.le_trans hlen hn2) hr ts (λ T h=>⟨(hT w T h).1,(hT w T h).2,hTb T h⟩) hF hb (λ H hO hB hS=>hsp w H a ns hlen hO hB hS) λ H e s'=>hCX w H s₁ e s'
end L2
namespace D
open L2
section
variable {P:Program}{w:World}{K:FG}{mg:Str->Option Value}{base:Heap}
theorem adj{x qual:Str}{st:Stmt}{f cd:Addr}{N ps:List Str}{k:Nat}{sp:SpD}{t:TSd}(F:Fun K x qual st f fd)(hcd:fd.code=.ref cd)(S:aU N ps (aj st))(len:∀ ws M Q,sp ws M Q->ws.length=ps.length)
  (hbody:∀ (A:Around) (outer:List Env) (s:Shared) (H:Hp) (E:XK),eM k (A.deeper (envOfC qual (aj st) s.heap.objs.size f (.ref cd)))->md (sy CX0 P w K mg base N qual (aj st) f (.ref cd) A outer s H E).nox (bj st) t)
  (read:∀ ws M Q,sp ws M Q->t {nx:=λ _ M'=>Q (.d .none) M',rt:=Q} (dg N ws) M):cj P w K mg base CX0 (k+1) f fd ps (dX K sp):=by
 obtain⟨oc,od,kV,doc,pm,an,cdv,ct,osl,e,lk,hcdv⟩:=F.ex;subst e;have e2:cdv=.ref cd:=hcd;subst e2;refine aay lk hcdv S (λ vs H Q E h=>?_) (λ A outer s H vs Q E hr h=>?_)
 ·obtain⟨ws,M,Qd,r,_,q,_⟩:=h;rw[<- r.length];exact len _ _ _ q
 ·obtain⟨ws,M,Qd,r,m,q,kk⟩:=h;refine⟨_,(hbody A outer s H E hr).nox,dg N ws,M,_,iP r m,read ws M Qd q,λ σ' H' τ' M' kp A' q'=>?_,λ v H' w' M' kp r' m' q'=>?_,λ σ' H' τ' M' kp A' q'=>q'.elim,λ σ' H' τ' M' kp A' q'=>q'.elim⟩
  ·exact kk _ H' _ M' kp (by simp[aO,aG]) A'.mem q'
  ·exact kk v H' w' M' kp r' m' q'
end
def M1T(T:Addr)(q:Str)(lpos:Pos):MH:=λ b=>if b=T then some (.code q lpos) else none
theorem vm{K:FG}{H:Hp}{a T:Addr}{q:Str}{lpos:Pos}{ns:List Int}{sp:SpD}(hl:ns.length<=63)(hO:L2.zY [T] H)(hT:∀ x∈[T],H x=some (.tbl #[]))(hS:L2.SqL K H a (ns.map V.int))(h:∀ ns:List Int,ns.length<=63->sp [.d (.list (ns.map PyData.int))] (M1T T q lpos) (λ w _=>w=.d (.bool true))) :
  dX K sp [.ref a] H (λ v _=>v=.bl true) λ _ _ _=>False:=by
 refine⟨[.d (.list (ns.map PyData.int))],M1T T q lpos,_,.cons ?_ .nil,λ a o z=>?_,h ns hl,λ v H' w M' kp r m q=>?_⟩
 ·simp only[aO,aG];refine⟨a,_,rfl,?_,bt.ints ns⟩;rcases hS with (h | h) | h
  ·rcases hO a with z | ⟨ob,xs,z⟩ | ⟨_,z⟩
   ·rw[h] at z;cases z
   ·rw[h] at z;cases z
   ·rw[h] at z;cases z
  ·exact .inl h
  ·exact .inr h
 ·unfold M1T at z
  split at z
  ·cases z
   rename_i e
   subst e;exact⟨#[],hT _ (by simp),trivial,.inl rfl⟩
  ·cases z
 ·subst q;simp only[aO,aG] at r;exact r
def abZ(sc scX:Scope)(x:Str)(N:List Str)(fr:List Nat):Bool:=
 (sc.kind==.function)&&!sc.isCoroutine&&!sc.isGenerator&&sc.names.all (λ y=>!(y.2==.cell))&&sc.names.all (λ y=>!(y.2==.free) || scX.names.lookup y.1==some .cell || scX.names.lookup y.1==some .free) &&
  (sc.names.lookup x==some .local)&&afN N sc fr
theorem ahW(h:abZ sc X.env.scope x X.N fr=true):qh X sc x fr:=by
 simp only[abZ,Bool.and_eq_true,Bool.not_eq_true'] at h;obtain⟨⟨⟨⟨⟨⟨h1,h2⟩,h3⟩,h4⟩,h5⟩,h6⟩,h7⟩:=h;refine⟨eq_of_beq h1,h2,h3,λ y hy e=>?_,λ y hy e=>?_,eq_of_beq h6,h7⟩
 ·have:=List.all_eq_true.mp h4 y hy;simp[e] at this
 ·have:=List.all_eq_true.mp h5 y hy;simp only[e,beq_self_eq_true,Bool.not_true,Bool.false_or,Bool.or_eq_true] at this;rcases this with z | z
  ·exact .inl (eq_of_beq z)
  ·exact .inr (eq_of_beq z)
theorem get_dict(hu:X.A.units+1<cLine):aib X (λ o i H Q=>∃ a kvs k v,o=.ref a/\i=kV k/\H a=some (.dK kvs)/\tq kvs k=some v/\Q v H):=by intro pins s σ H o i ov iv Q I ro ri h;obtain⟨a,kvs,k,v,eo,ei,e,l,q⟩:=h;subst eo ei;cases (show ov=Value.ref a from ro);exact(mE hu I (.inl (.inl e)) l ri λ w' s' I' r'=>⟨v,H,I',r',q⟩).2
def afM(to ti te:TD)(f:Int->Int->Int)(D:Ed)(τ:DS)(M:MH):Prop:=to τ M λ w M1=>ti τ M1 λ w' M2=>∃ a kvs k n,w=.m a/\w'=kW k/\M2 a=some (.dic kvs)/\fY kvs k=some (.d (.int n))/\kvs.length<sizeLine /\
 te τ M2 λ y M3=>∃ n',y=.d (.int n')/\M3=M2/\D.nx τ (bY M3 a (.dic (mD kvs k (.d (.int (f n n'))))))
theorem wg(hu:X.A.units+1<cLine)(ho:Jd (PD X o to))(hi:Jd (PD X i ti))(he:Jd (PD X e te))(hp:PIp X op (ipI f))
  (ha:∀ ov iv new,augStore i ov iv new=(do holding [new,ov,iv] (setItem ov iv new);release [new,ov,iv] [];pure .next):=by intros;rfl):Jd (PSd X (.AugAssign (.Subscript o i tpos) op e pos) (afM to ti te f)):=⟨have ho:=ho.h;have hi:=hi.h;have he:=he.h;
 u7 (wk ho hi (get_dict hu) he hp (set_dict hu) ha) λ D σ H h=>by
  obtain⟨τ,M,Dd,A,h,k1,_⟩:=h;refine⟨τ,M,_,A,h,λ x H1 wo M1 kp1 r1 m1 q1=>⟨τ,M1,_,A.go kp1 m1,q1,λ y H2 wi M2 kp2 r2 m2 q2=>?_⟩⟩;obtain⟨a,kvs,key,n,e1,e2,hm,hn,hl,q⟩:=q2;subst e1;subst e2;simp only[aO] at r1;obtain⟨l,e3,pr⟩:=m2 a _ hm;have g:=lE key pr;rw[hn] at g;obtain⟨b,eb,rb⟩:=OR.some_of g;simp only[aO,aG] at rb;refine⟨a,l,key,b,r1,jW r2,e3,eb,?_⟩;refine⟨τ,M2,_,A.go (kp1.trans kp2) m2,q,λ z H3 wz M3 kp3 r3 m3 q3=>?_⟩;obtain⟨n',e5,e6,qn⟩:=q3;subst e5;subst e6;simp only[aO,aG] at r3;refine⟨n,n',rb,r3,?_⟩;obtain⟨l',e3',pr'⟩:=m3 a _ hm;have kp:=(kp1.trans kp2).trans kp3;have kp4:Kp H3 (upd H3 a (.dK (putK l' key (.int (f n n'))))):=Kp.set e3' (λ _ z=>nomatch z) (λ _ _ z=>nomatch z);refine⟨a,_,r1,.inl ⟨l',key,e3',jW r2,by rw[<- ux pr'];exact hl,rfl⟩,?_⟩;have rv':aO X.K H3 (.d (.int (f n n'))) (.int (f n n')):=by simp[aO,aG]
  refine k1 σ _ τ _ (kp.trans kp4) (A.go (kp.trans kp4) (m3.put (mo:=.dic (mD kvs key (.d (.int (f n n'))))) kp4 ⟨_,ar,?_⟩)) qn;exact Paired.jL (xE key rv' pr') λ p q z=>⟨z.1,z.2.keep kp4⟩⟩
section
variable {X:Cx}{K:FG}
variable {o e:Expr}{to:TE}{td te:TD}{apos cpos p pos:Pos}
end
end D
set_option maxHeartbeats 0
namespace D
open L2
section
variable {X:Cx}{a b:Expr}{rest:List Expr}{pos:Pos}{ta tb:TE}
end
section
variable {X:Cx}{K:FG}{e:Expr}{te:TE}{p pos kpos kp:Pos}{j:Nat}
end
section
variable {X:Cx}{a b o e:Expr}{rest:List Expr}{ta tb td te:TD}{apos cpos p pos kpos kp:Pos}{j:Nat}
end
section
variable {X:Cx}{K:FG}{pins:PN}{σ:St}{H:Hp}{s:Shared}
end
section
variable {K:FG}
def la(w w':W)(M:MH)(Q:QD):Prop:=∃ a b xs ys,w=.m a/\w'=.m b/\M a=some (.lst xs)/\M b=some (.lst ys)/\xs.length+ys.length<=sizeLine/\∀ p,M p=none->Q (.m p) (bY M p (.lst (xs++ys)))
theorem bB.app:∀ {xs:List W} {vs:List V} {ys:List W} {us:List V},bB K H xs vs->bB K H ys us->bB K H (xs++ys) (vs++us)
 | _,_,_,_,.nil,h=>h
 | _,_,_,_,.cons a b,h=>.cons a (bB.app b h)
theorem ny:OpD K (afP K) la:=by intro x y H w w' M Qd Q r1 r2 m ⟨a,b,xs,ys,e1,e2,ha,hb,hz,q⟩ k;subst e1 e2;obtain⟨vs,e3,p1⟩:=m _ _ ha;obtain⟨us,e4,p2⟩:=m _ _ hb;have l1:=bB.length p1;have l2:=bB.length p2;refine⟨a,b,vs,us,r1,r2,.of e3,.of e4,by omega,λ p hp=>?_⟩;have kp:Kp H (upd H p (.lst (vs++us))):=Kp.new hp;exact k _ _ (.m p) _ kp rfl (m.put (mo:=.lst (xs++ys)) kp ⟨_,ar,bB.keep kp (bB.app p1 p2)⟩) (q p (m.free hp))
end
abbrev PFn(K:FG)(x:Str)(st:Stmt):Prop:=∃ (f:Addr) (oc kV dc pm cd ct:Value) (od an:Option Addr) (sl:Array (Option Value)),W.nsIn K mainGlobals x=some (some (.ref f))/\K.lookup f=some ⟨oc,od,.func (W.fnOf x x (bH st) (bj st) (aj st) .none kV dc pm an cd ct),sl⟩/\W.codeIn K cd x=true/\W.keepIn K (.ref f)=true
abbrev PMf(K:FG)(C:Addr)(m x:Str)(st:Stmt):Prop:=∃ (f:Addr) (oc kV dc pm cd ct:Value) (od an:Option Addr) (sl:Array (Option Value)),W.findIn K (.ref C) m=some (some (.ref f))/\W.isFn K (.ref f)=true/\K.lookup f=some ⟨oc,od,.func (W.fnOf m x (bH st) (bj st) (aj st) .none kV dc pm an cd ct),sl⟩/\W.codeIn K cd x=true/\W.keepIn K (.ref f)=true
theorem ae3{K:FG}{x:Str}{st:Stmt}{f:Addr}{oc kV dc pm cd ct:Value}{od an:Option Addr}{sl:Array (Option Value)}(a:W.nsIn K mainGlobals x=some (some (.ref f)))(l:K.lookup f=some ⟨oc,od,.func (W.fnOf x x (bH st) (bj st) (aj st) .none kV dc pm an cd ct),sl⟩)(c:W.codeIn K cd x=true)(k:W.keepIn K (.ref f)=true):PFn K x st:=⟨_,_,_,_,_,_,_,_,_,_,a,l,c,k⟩
theorem aeQ{K:FG}{C:Addr}{m x:Str}{st:Stmt}{f:Addr}{oc kV dc pm cd ct:Value}{od an:Option Addr}{sl:Array (Option Value)}(a:W.findIn K (.ref C) m=some (some (.ref f)))(i:W.isFn K (.ref f)=true)(l:K.lookup f=some ⟨oc,od,.func (W.fnOf m x (bH st) (bj st) (aj st) .none kV dc pm an cd ct),sl⟩)(c:W.codeIn K cd x=true)(k:W.keepIn K (.ref f)=true):PMf K C m x st:=⟨_,_,_,_,_,_,_,_,_,_,a,i,l,c,k⟩
theorem PFn.fn{K:FG}{h:Heap}{mg:Str->Option Value}{x:Str}{st:Stmt}{ps:List Str}(p:PFn K x st)(X:K.In h)(G:h.Ns mainGlobals mg)
  (b:∀ (kV doc pm:Value) (an:Option Addr) (cdv ct:Value) (us:List Value),us.length=ps.length->bindArgs (W.fnOf x x (bH st) (bj st) (aj st) .none kV doc pm an cdv ct) ⟨us,[]⟩=pure (ps.zip us)):∃ f fd,Fn K mg x st ps f fd:=
 let ⟨f,_,_,_,_,_,_,_,_,_,a,l,c,k⟩:=p; ⟨f,_,adJ X G a l c k b⟩
abbrev ZZ(P:Program)(w:World)(K:FG)(mg:Str->Option Value)(base:Heap)(F:Addr->FuncData->Prop)(n:Nat)(ps:List Str)(sp:SpD):Prop:=∃ f fd,F f fd/\cj P w K mg base CX0 n f fd ps (dX K sp)
end D
namespace L2
section
variable {P:Program}{w:World}{K:FG}{mg:Str->Option Value}{base:Heap}
end
end L2
namespace D
open L2
section
variable {P:Program}{w:World}{K:FG}{mg:Str->Option Value}{base:Heap}
end
open XO
section
variable {X:Cx}{K:FG}
end
end D
namespace PySem.AutoSeq1
open PySem.MeetsSeq PySem.MeetsSeq2 PySem.MeetsSeq3 PyProof.Rows
end PySem.AutoSeq1
namespace D
open L2
section
variable {P:Program}{w:World}{K:FG}{mg:Str->Option Value}{base:Heap}
theorem aa7{x qual:Str}{st:Stmt}{N ps:List Str}{k:Nat}{sp:SpX}{t:XE->TSd}(F:aiJ K x qual st f fd)(S:aU N ps (aj st))(len:∀ ws M Q E,sp ws M Q E->ws.length=ps.length)
  (hbody:∀ (cdv:Value) (A:Around) (outer:List Env) (s:Shared) (H:Hp) (E:XK) (Ed:XE),eM k (A.deeper (envOfC qual (aj st) s.heap.objs.size f cdv))->Lk (sy (CXE P w) P w K mg base N qual (aj st) f cdv A outer s H E) Ed ->
   PassesOwn (model P w) (A.deeper (envOfC qual (aj st) s.heap.objs.size f cdv)) (envOfC qual (aj st) s.heap.objs.size f cdv) (sy (CXE P w) P w K mg base N qual (aj st) f cdv A outer s H E).xe ->
   md (sy (CXE P w) P w K mg base N qual (aj st) f cdv A outer s H E) (bj st) (t Ed))
  (read:∀ ws M Q E,sp ws M Q E->t (λ a _ M=>E a M) {nx:=λ _ M'=>Q (.d .none) M',rt:=Q} (dg N ws) M):cj P w K mg base (CXE P w) (k+1) f fd ps (eL K sp):=by
 obtain⟨oc,od,dV,kV,doc,pm,an,cdv,ct,osl,rfl,lk,hcd⟩:=F.ex;refine aay lk hcd S (λ vs H Q E h=>?_) λ A outer s H vs Q E hr h=>?_
 ·obtain⟨ws,M,Qd,Ed,r,_,q,_⟩:=h;rw[<- r.length];exact len _ _ _ _ q
 ·obtain⟨ws,M,Qd,Ed,r,m,q,kk,ke⟩:=h;refine⟨_,hbody cdv A outer s H E (λ a _ M=>Ed a M) hr (abP ke) PassesOwn.leaving,dg N ws,M,_,iP r m,read ws M Qd Ed q,λ σ' H' τ' M' kp A' q'=>?_,λ v H' w' M' kp r' m' q'=>?_,λ σ' H' τ' M' kp A' q'=>q'.elim,λ σ' H' τ' M' kp A' q'=>q'.elim⟩
  ·exact kk _ H' _ M' kp (by simp[aO,aG]) A'.mem q'
  ·exact kk v H' w' M' kp r' m' q'
end
end D
namespace PySem.AutoSeq1
open PySem.MeetsSeq PySem.MeetsSeq2 PySem.MeetsSeq3 PyProof.Rows
end PySem.AutoSeq1
namespace D
open L2
section
variable {X:Cx}{K:FG}
end
end D
namespace XO
open PySem.W
section
variable {prog:Program}{w:World}{A:Around}{E:VP}{s:Shared}{K:Frag}{env:PySem.Env}{e h0 C0:Addr}{dct0:Option Addr}{vs0:Array Value}
end
end XO
namespace L2
open XO
section
variable {P:Program}{w:World}{K:FG}{mg:Str->Option Value}{base:Heap}{C f:Addr}{fd:FuncData}{qual:Str}{st:Stmt}
end
end L2
namespace D
open L2 XO
section
variable {X:Cx}{pos p cpos:Pos}{k:Nat}{f C:Addr}{fd:FuncData}{ps fs:List Str}{x:Str}{e:Expr}{es:List Expr}{t:TAd}{E:XE}
variable {body suite:List Stmt}{b0:Stmt}{hs:List ExceptHandler}{th rest:Addr->TSd}{np hpos:Pos}
end
section
variable {X:Cx}{pos p cpos:Pos}{k:Nat}{f C:Addr}{fd:FuncData}{ps fs:List Str}{x:Str}{e:Expr}{es:List Expr}{t:TAd}{E:XE}
variable {suite:List Stmt}{b0:Stmt}{hs:List ExceptHandler}{rest:Addr->TSd}{np hpos:Pos}
end
section
variable {X:Cx}{K:FG}
variable {o e:Expr}{td te:TD}{apos cpos:Pos}
end
section
variable {X:Cx}{o i:Expr}{td ti:TD}{tpos pos:Pos}
end
end D
namespace L2
section
variable {X:Cx}{CX:CXT}{k:Nat}{f C:Addr}{fd:FuncData}{ps:List Str}{sp:Sp}{E:XK}{pins:PN}{σ:St}{H:Hp}{s:Shared}{Q:VK}{us:List Value}{vs:List V}{dvs:List V}{ds:List Value}
end
end L2
namespace D
open L2 XO
section
variable {X:Cx}{pins:PN}{σ:St}{H:Hp}{s:Shared}{a:Addr}{kvs:List (Str×Addr)}
end
section
variable {X:Cx}{e:Expr}{a:Addr}{x:Str}{kvs:List (Str×Addr)}{pos p apos cpos:Pos}{ty:TE}{te:TD}
end
section
variable {X:Cx}{pos p apos:Pos}{k:Nat}{f C:Addr}{fd:FuncData}{ps:List Str}{sp:SpX}{x m dz:Str}{e o:Expr}{es:List Expr}{t:TAd}{td:TD}{E:XE}
end
section
variable {X:Cx}{e o i:Expr}{a:Addr}{x m dz:Str}{kvs:List (Str×Addr)}{pos p apos cpos tpos:Pos}{te td ti:TD}{k:Nat}{f C:Addr}{fd:FuncData}{ps:List Str}{sp:SpX}{es:List Expr}{t:TAd}{E:XE}
end
end D
namespace L2
section
variable {X:Cx}{CX:CXT}{k:Nat}{f C:Addr}{fd:FuncData}{ps:List Str}{sp:Sp}{E:XK}{pins:PN}{σ:St}{H:Hp}{s:Shared}{Q:VK}{us:List Value}{vs:List V}{v:V}{u:Value}{kn:Str}
end
end L2
namespace D
open L2 XO
section
variable {X:Cx}{pos p apos kpos:Pos}{k:Nat}{f C:Addr}{fd:FuncData}{ps:List Str}{sp:SpX}{m kn:Str}{e o g:Expr}{es:List Expr}{t:TAd}{td tk:TD}{E:XE}
end
section
variable {X:Cx}{pos p apos kpos:Pos}{k:Nat}{f C:Addr}{fd:FuncData}{ps:List Str}{sp:SpX}{m kn:Str}{e o g:Expr}{es:List Expr}{t:TAd}{td tk:TD}{E:XE}
end
open S
section
variable {X:Cx}{pins:PN}{σ:St}{H H':Hp}{s:Shared}{h':Heap}
end
section
variable {X:Cx}{o:Expr}{to:TE}{apos cpos p pos:Pos}
end
section
variable {X:Cx}{o:Expr}{td:TD}{apos cpos p pos:Pos}
end
end D
namespace L2
theorem eM.m{j k:Nat}{A:PySem.Around}(r:eM k A)(h:j<=k:=by decide):eM j A:=r.mono h
end L2
namespace D
open L2
abbrev PXi(K:FG)(C:Addr)(x:Str)(st:Stmt):Prop:=∃ (f:Addr) (oc kV dc pm cd ct:Value) (od an:Option Addr) (sl:Array (Option Value)),W.findIn K (.ref C) "__init__" = some (some (.ref f))/\W.typeIn K (.ref f)=some (.type "function")/\K.lookup f=some ⟨oc,od,.func (W.fnOf "__init__" x (bH st) (bj st) (aj st) .none kV dc pm an cd ct),sl⟩/\W.codeIn K cd x=true/\W.keepIn K (.ref f)=true/\XO.xmk K C=true/\W.typeIn K (.ref C)=some (.type "type")/\W.keepIn K (.ref C)=true
theorem agN{K:FG}{C:Addr}{x:Str}{st:Stmt}{f:Addr}{oc kV dc pm cd ct:Value}{od an:Option Addr}{sl:Array (Option Value)}(a:W.findIn K (.ref C) "__init__" = some (some (.ref f)))(i:W.typeIn K (.ref f)=some (.type "function"))(l:K.lookup f=some ⟨oc,od,.func (W.fnOf "__init__" x (bH st) (bj st) (aj st) .none kV dc pm an cd ct),sl⟩)(c:W.codeIn K cd x=true)(k:W.keepIn K (.ref f)=true)(m:XO.xmk K C=true)(t:W.typeIn K (.ref C)=some (.type "type"))(n:W.keepIn K (.ref C)=true):PXi K C x st:=⟨_,_,_,_,_,_,_,_,_,_,a,i,l,c,k,m,t,n⟩
theorem PXi.xi{K:FG}{C:Addr}{x:Str}{st:Stmt}{ps:List Str}(p:PXi K C x st)(e:XO.XC K C)
  (b:∀ (kV doc pm:Value) (an:Option Addr) (cdv ct:Value) (us:List Value),us.length=ps.length->bindArgs (W.fnOf "__init__" x (bH st) (bj st) (aj st) .none kV doc pm an cdv ct) ⟨us,[]⟩=pure (ps.zip us)):∃ f fd,Xi K C x st ps f fd:=
 let ⟨f,_,_,_,_,_,_,_,_,_,a,i,l,c,k,m,t,n⟩:=p; ⟨f,_,ahE e a i l c k m t n b⟩
abbrev PXc(K:FG)(C:Addr):Prop:=XO.abc K C=true/\W.findIn K (.ref C) "__setattr__" = some (some (.builtin "object.__setattr__"))/\W.findIn K (.ref C) "__getattribute__" = some (some (.builtin "BaseException.__getattribute__"))/\W.findIn K (.ref C) "__getattr__" = some none/\W.findIn K (.ref C) "__class__" = some (some (.builtin "object.__class__"))
theorem PXc.xc{K:FG}{C:Addr}(p:PXc K C)(g1:W.specialIn K (.builtin "object.__class__") "__get__" = some (some (.builtin "getset_descriptor.__get__")))(g2:W.takesIn K (.builtin "object.__class__")=some true):XO.XC K C:=⟨p.1,p.2.1,p.2.2.1,p.2.2.2.1,p.2.2.2.2,g1,g2⟩
abbrev EdQ(Q:QD):Ed:={nx:=λ _ M'=>Q (.d .none) M',rt:=Q}
abbrev Ln(sp:SpD)(n:Nat):Prop:=∀ ws M Q,sp ws M Q->ws.length=n
abbrev LnX(sp:SpX)(n:Nat):Prop:=∀ ws M Q E,sp ws M Q E->ws.length=n
abbrev Rd(sp:SpD)(t:TSd)(N:List Str):Prop:=∀ ws M Q,sp ws M Q->t (EdQ Q) (dg N ws) M
abbrev RdX(sp:SpX)(t:XE->TSd)(N:List Str):Prop:=∀ ws M Q E,sp ws M Q E->t (λ a _ M=>E a M) (EdQ Q) (dg N ws) M
abbrev dS(z:Str):TD:=dC (.d (.str z))
abbrev dI(n:Int):TD:=dC (.d (.int n))
section
variable {prog:Program}{w:World}{A:Around}{E:VP}{s:Shared}{x y:Str}{t u v:Tok}{k:Int}{Q:VP}
end
section
variable {X:Cx}{K:FG}
variable {o e e':Expr}{td te tn:TD}{apos cpos:Pos}
end
section
variable {X:Cx}{e f:Expr}{a:Addr}{x:Str}{kvs:List (Str×PyData)}{pos p apos cpos:Pos}{ty tx:TE}{te tf:TD}
end
end D
namespace XO
open PySem.W
section
variable {M:Model}{A:Around}{E:VP}{s:Shared}{base:Heap}{env:PySem.Env}{outer:List PySem.Env}{L e C T:Addr}{dct:Option Addr}{vs:Array Value}
end
end XO
namespace D
open L2 XO
section
variable {X:Cx}{pins:PN}{σ:St}{H:Hp}{s:Shared}{a T:Addr}
end
section
variable {P:Program}{w:World}{K:FG}{mg:Str->Option Value}{base:Heap}
end
end D
namespace L2
open XO D
section
variable {prog:Program}{w:World}{A:Around}{E:VP}{R:Result->Shared->Prop}{s:Shared}
end
section
variable {X:Cx}{pins:PN}{σ:St}{H:Hp}{s:Shared}
end
section
variable {X:Cx}{pins:PN}{σ:St}{H:Hp}{s:Shared}{sc:Scope}{own:List Str}{fr:List Nat}{cl:List (Str×Addr)}{fp:List Addr}{it:Addr}{J:It}{tn:Nat->Heap->Prop}{g:TG}{tt:TT}{te:TE}{W:LcW}{Fin:List V->Hp->Prop}
 {elt tg iter:Expr}{ifs:List Expr}{pos:Pos}{E:VP}
end
end L2
namespace D
open L2 XO
section
variable {K:FG}
end
section
variable {X:Cx}{sc:Scope}{own:List Str}{fr:List Nat}{tg elt iter:Expr}{ifs:List Expr}{pos:Pos}{di:TId}{g:TGd}{tt:TTd}{te:XE->TD}{E:XE}
end
section
variable {P:Program}{w:World}{K:FG}{mg:Str->Option Value}{base:Heap}
end
variable {X:Cx}{sc:Scope}{own:List Str}{fr:List Nat}{tg elt iter:Expr}{ifs:List Expr}{pos:Pos}{di:TId}{g:TGd}{tt:TTd}{te:XE->TD}{E:XE}
end D
namespace D
open L2 S PySem.W
def tG(X:Cx):Cx:=ahe (ahe X)
section
variable {X:Cx}{pins:PN}{σ:St}{f a kS:Addr}{xs:List V}{us:List Value}{e1:Nat}
theorem Inv.acO{H:Hp}{s:Shared}{D:Addr}{vs:List V}{its:List Value}{n:Nat}(I:Inv X pins σ H s)(e:s.heap.get? D=some (seqObj "list" its.toArray n))(f:jg X pins H D)(hl:vs.length<=sizeLine)(rv:Vals vs its):Inv X pins σ (upd H D (.lst vs)) s:=by
 have hn:=f.1;have ne:∀ b u,H b=some u->b≠D:=λ b u q=>aV q hn;refine I.step (h':=s.heap) (g':=s.gens) (d':=s.drawn) (t':=s.toks) (ch:=[D]) (λ b hb=>?_) (λ b o _ _ _ q _=>q) (λ b o _ _ _ q _=>⟨o.slots,q⟩) (λ b o hb q n=>?_) (λ b o _ q=>⟨o,q⟩)
  (λ b xs q=>by rw[ao (ne b _ q)];exact q) (λ b o u q=>by rw[ao (ne b _ q)];exact q) (λ b ps q=>⟨#[],by rw[ao (ne b _ q),q];simp⟩) (λ m hm=>hm) (λ b u q=>?_) I.bare
 ·have e:b=D:=by simpa using hb
  subst e;exact⟨f.2.2.2.1,f.2.1,f.2.2.2.2.1,f.2.2.2.2.2⟩
 ·rw[ao (λ z=>hb (by simp[z]))];exact n
 ·by_cases hb:b=D
  ·subst hb;rw[ar] at q;cases q;exact⟨hl,its,n,rv,e⟩
  ·rw[ao hb] at q;exact(I.hok b u q).oO (λ _ _ _ q=>q) (λ c r=>by rw[ao (ne c _ r)];exact r) λ c xs r=>by rw[ao (ne c _ r)];exact r
theorem tJ{E:VP}(Wt:Nat->List V->Hp->Prop)(hak:a≠kS)(fA:∀ H:Hp,H a=none->jg X pins H a)(fS:∀ H:Hp,H kS=none->jg X pins H kS)(rx:Vals xs us)(h64:us.length<64)
  (turn:∀ (i:Nat) (ys:List V) (v:V) (u:Value) (pl:PN) (H:Hp) (s:Shared),xs[i]? =some v->RelV v u->Wt i ys H->Inv X pl σ H s->wpAny (model X.prog X.w) X.A (call (.ref f) [u]) (EP X pl σ λ y H'=>Wt (i+1) (ys++[y]) H') (λ _ _=>False) s)
  {body:Value->PUnit->Sem (ForInStep PUnit)}
  (hb:∀ x ks e (s:Shared) (C:VP),List.length ks<64->wpAny (model X.prog X.w) X.A (call (.ref f) [x]) (λ k s2=>s2.heap.get? kS=some (seqObj "list" (List.toArray ks) e)/\∀ h' c,Heap.SameBut kS s2.heap h'->h'.get? kS=some (seqObj "list" (List.toArray (ks++[k])) c)->C k {s2 with heap:=h'}) (λ _ _=>False) s ->
   wpAny (model X.prog X.w) X.A (body x ⟨⟩) (λ r s'=>r=.yield ⟨⟩/\∃ k c,s'.heap.get? kS=some (seqObj "list" (List.toArray (ks++[k])) c)/\C k s') E s) :
  ∀ (r:List Value) (i:Nat) (ys:List V) (ks:List Value) (e:Nat) (H:Hp) (s:Shared),us.drop i=r->i<=us.length->Vals ys ks->ks.length=i->Wt i ys H->Inv X pins σ H s->H a=none->H kS=none->s.heap.get? a=some (seqObj "list" #[] e1)->s.heap.get? kS=some (seqObj "list" (List.toArray ks) e) ->
   wpAny (model X.prog X.w) X.A (forIn r PUnit.unit body) (λ _ s'=>∃ ys ks e H,Vals ys ks/\ks.length=us.length/\Wt us.length ys H/\Inv X pins σ H s'/\H a=none/\H kS=none/\s'.heap.get? a=some (seqObj "list" #[] e1)/\s'.heap.get? kS=some (seqObj "list" (List.toArray ks) e)) E s
 | [],i,ys,ks,e,H,s,hr,hi,rv,hl,hW,I,na,nk,ga,gk=>by
  rw[List.forIn_nil];have:us.length<=i:=by have:=congrArg List.length hr;rw[List.length_drop] at this;simp at this;omega
  have ei:i=us.length:=by omega
  exact wpAny_pure ⟨ys,ks,e,H,rv,by omega,by rw[<- ei];exact hW,I,na,nk,ga,gk⟩
 | x::r,i,ys,ks,e,H,s,hr,hi,rv,hl,hW,I,na,nk,ga,gk=>by
  have hlt:i<us.length:=by have:=congrArg List.length hr;rw[List.length_drop] at this;simp at this;omega
  have hx:us[i]? =some x:=by
   have:=congrArg (·[0]?) hr
   simpa using this
  have hr':us.drop (i+1)=r:=by
   have:=congrArg List.tail hr
   simpa using this
  obtain⟨v,hv,ru⟩:∃ v,xs[i]? =some v/\RelV v x:=by obtain⟨v,hv⟩:∃ v,xs[i]? =some v:=⟨_,List.getElem?_eq_getElem (show i<xs.length by rw[rx.length];exact hlt)⟩;obtain⟨u,hu,ru⟩:=rx.get hv;rw[hx] at hu;cases hu;exact⟨v,hv,ru⟩
  rw[List.forIn_cons];have JP:=I.ajB (fA H na) (fS H nk) ga gk (λ _ z=>nomatch z) (λ _ z=>nomatch z);refine wpAny_bind (wpAny_mono (hb x ks e s (λ k s'=>∃ y H',RelV y k/\Wt (i+1) (ys++[y]) H'/\Inv X pins σ H' s'/\H' a=none/\H' kS=none/\s'.heap.get? a=some (seqObj "list" #[] e1)) (by omega) (wpAny_mono (turn i ys v x _ H s hv ru hW JP) (λ k s2 he=>?_) λ _ _ z=>z)) (λ q s' hq=>?_) λ _ _ z=>z)
  ·obtain⟨y,H2,J2,ry,hW2⟩:=he;obtain⟨J3,⟨ga2,na2⟩,gk2,nk2⟩:=J2.ae1;refine⟨gk2,λ h' c s1 gk3=>⟨y,H2,ry,hW2,J3.zL (t':=s2.toks) (fS H2 nk2) λ b o hb e=>(s1.2 b hb).trans e,na2,nk2,(s1.2 a hak).trans ga2⟩⟩
  ·obtain⟨rfl,k,c,gk3,y,H2,ry,hW2,J3,na2,nk2,ga2⟩:=hq;show wpAny (model X.prog X.w) X.A (forIn r PUnit.unit body) _ E s';refine tJ Wt hak fA fS rx h64 turn hb r (i+1) (ys++[y]) (ks++[k]) c H2 s' hr' hlt ?_ (by simp[hl]) hW2 J3 na2 nk2 ga2 gk3;exact Vals.append rv (.cons ry .nil)
theorem sZ{H:Hp}{s:Shared}{st:SortSt}{ks out:List Value}{e:Nat}{P:PySem.Fin->Shared->Prop}{E:VP}(hak:a≠kS)(fA:∀ H:Hp,H a=none->jg X pins H a)(fS:∀ H:Hp,H kS=none->jg X pins H kS)(I:Inv X pins σ H s)(na:H a=none)(nk:H kS=none)(ga:s.heap.get? a=some (seqObj "list" #[] e1))(gk:s.heap.get? kS=some (seqObj "list" (List.toArray ks) e))
  (hout:(arrOf st).map (·.2)=List.toArray out)(hz:out.length<64)(hkz:ks.length<64)(hf:failedOf st=none)
  (fin:∀ s' c,Inv X pins σ H s'->s'.heap.get? a=some (seqObj "list" (List.toArray out) c)->P (.done (.ret .none)) s'):wpAny (model X.prog X.w) X.A (ksk_tail a false e1 (.ref kS) st) P E s:=by
 have s1:=Heap.SameBut.update s.heap kS (Obj.mapSeq λ _=>(#[]:Array Value));have ga1:(s.heap.update kS (Obj.mapSeq λ _=>(#[]:Array Value))).get? a=some (seqObj "list" #[] e1):=(s1.2 a hak).trans ga;have s2:=Heap.SameBut.update (s.heap.update kS (Obj.mapSeq λ _=>(#[]:Array Value))) a (Obj.mapSeq λ _=>List.toArray out);obtain⟨c2,hc2⟩:∃ c2,((s.heap.update kS (Obj.mapSeq λ _=>(#[]:Array Value))).update a (Obj.mapSeq λ _=>List.toArray out)).get? a=some (seqObj "list" (List.toArray out) c2):=⟨_,get?_update_seq ga1 λ _=>List.toArray out⟩;have I1:=I.zL (t':=s.toks) (h':=s.heap.update kS (Obj.mapSeq λ _=>(#[]:Array Value))) (fS H nk) λ b o hb e=>(s1.2 b hb).trans e;have I2:=I1.zL (t':=s.toks) (h':=(s.heap.update kS (Obj.mapSeq λ _=>(#[]:Array Value))).update a (Obj.mapSeq λ _=>List.toArray out)) (fA H na) λ b o hb e=>(s2.2 b hb).trans e;unfold ksk_tail
 try dsimp only
 rw[hout];refine wpAny_bind (listUpdate_at gk rfl ?_ (by rw[List.size_toArray,sizeLine_eq];omega) (Nat.zero_le _));refine wpAny_bind (wpAny_letGo ?_);refine wpAny_bind (seqEpoch_at ga1 rfl ?_);simp only[Bool.false_eq_true,if_false];refine wpAny_bind (listUpdate_at ga1 rfl ?_ (Nat.zero_le _) (by rw[List.size_toArray,sizeLine_eq];omega));rw[hf];simp only[bne_self_eq_false,Bool.false_eq_true,if_false];exact wpAny_pure (fin _ c2 I2 hc2)
theorem aaX{H:Hp}{s:Shared}{n:Nat}{lt:Nat->Nat->Bool}{P:PySem.Fin->Shared->Prop}{E:VP}(Wt:Nat->List V->Hp->Prop)(I:Inv X pins σ H s)(hW:Wt 0 [] H)(ho:s.heap.get? a=some (seqObj "list" us.toArray n))(na:H a=none)(fA:∀ H:Hp,H a=none->jg X pins H a)(rx:Vals xs us)(h64:us.length<64)
  (turn:∀ (i:Nat) (ys:List V) (v:V) (u:Value) (pl:PN) (H:Hp) (s:Shared),xs[i]? =some v->RelV v u->Wt i ys H->Inv X pl σ H s->wpAny (model X.prog X.w) X.A (call (.ref f) [u]) (EP X pl σ λ y H'=>Wt (i+1) (ys++[y]) H') (λ _ _=>False) s)
  (cmp:∀ (ys:List V) (ks:List Value) (H:Hp) (s:Shared),Wt us.length ys H->Vals ys ks->Inv X pins σ H s->ks.length=us.length->2<=us.length->∃ κ,(∀ (Q:SortKind->Shared->Prop),Q κ s->wpAny (model X.prog X.w) X.A (keyKind' ks.toArray) Q (λ _ _=>False) s)/\∀ i j,i<us.length->j<us.length->∀ C:Bool->Shared->Prop,C (lt i j) s->kas_ask X.prog X.w X.A κ ks i j C s)
  (fin:∀ (ys:List V) (H:Hp) (s:Shared) (c:Nat),Wt us.length ys H->Inv X pins σ H s->H a=none->s.heap.get? a=some (seqObj "list" (List.toArray ((iO lt us.length).map λ i=>us.getD i Value.none)) c)->P (.done (.ret .none)) s) :
  wpAny (model X.prog X.w) X.A (ksk_tree a (.ref f) false) P E s:=by
 have ha:a<s.heap.objs.size:=Heap.lt_size ho;have s1:=Heap.SameBut.update s.heap a (Obj.mapSeq λ _=>(#[]:Array Value));obtain⟨e1,ho1⟩:∃ e1,(s.heap.update a (Obj.mapSeq λ _=>(#[]:Array Value))).get? a=some (seqObj "list" #[] e1):=⟨_,get?_update_seq ho λ _=>#[]⟩;have I1:=I.zL (t':=s.toks) (h':=s.heap.update a (Obj.mapSeq λ _=>(#[]:Array Value))) (fA H na) λ b o hb e=>(s1.2 b hb).trans e;generalize hk:((s.heap.update a (Obj.mapSeq λ _=>(#[]:Array Value))).push (seqObj "tuple" us.toArray 0)).objs.size=kS;have hkS:kS=s.heap.objs.size+1:=by rw[<- hk,size_push',Heap.size_update]
 have hge:s.heap.objs.size<=kS:=by rw[hkS];exact Nat.le_succ _
 have nk:H kS=none:=I.hok.fresh hge;have fS:∀ H:Hp,H kS=none->jg X pins H kS:=λ H h=>I.oz hge h;have hak:a≠kS:=by rw[hkS];exact Nat.ne_of_lt (Nat.lt_succ_of_lt ha)
 unfold ksk_tree;refine wpAny_bind (listItems_at ho rfl ?_);refine wpAny_bind (listUpdate_at ho rfl ?_ (by rw[List.size_toArray,sizeLine_eq];omega) (Nat.zero_le _));refine wpAny_bind (seqEpoch_at ho1 rfl ?_);refine wpAny_bind (wpAny_newTuple ?_ (by show us.length<=_;rw[sizeLine_eq];omega));refine wpAny_bind (wpAny_newList ?_ (Nat.zero_le _));refine wpAny_holding ?_;have kp:∀ b o,(s.heap.update a (Obj.mapSeq λ _=>(#[]:Array Value))).get? b=some o->(((s.heap.update a (Obj.mapSeq λ _=>(#[]:Array Value))).push (seqObj "tuple" us.toArray 0)).push (seqObj "list" #[] 0)).get? b=some o:=λ b o e=>Heap.get?_push_of_some _ (Heap.get?_push_of_some _ e);have I2:=I1.kept (t':=s.toks) kp;have gk:(((s.heap.update a (Obj.mapSeq λ _=>(#[]:Array Value))).push (seqObj "tuple" us.toArray 0)).push (seqObj "list" #[] 0)).get? kS=some (seqObj "list" (List.toArray []) 0):=by rw[<- hk];exact Heap.get?_push_size _ rfl
 have ga:=kp a _ ho1;show wpAny _ _ (ksk_rest a (.ref f) false us.toArray e1 (.ref ((s.heap.update a (Obj.mapSeq λ _=>(#[]:Array Value))).push (seqObj "tuple" us.toArray 0)).objs.size)) _ _ _;rw[hk];unfold ksk_rest;refine wpAny_bind (wpAny_rule ?_)
 first
  | rw[List.forIn_toArray]
  | (rw[<- Array.forIn_toList];simp only[List.toList_toArray])
  | rw[<- Array.forIn_toList]
 refine wpAny_bind (wpAny_mono (tJ (e1:=e1) Wt hak fA fS rx h64 turn (λ x ks e s' C hz hx=>?_) us 0 [] [] 0 H _ rfl (Nat.zero_le _) .nil rfl hW I2 na nk ga gk) (λ _ s' hd=>?_) λ _ _ x=>x)
 ·refine wpAny_bind (wpAny_attempt (wpAny_mono hx (λ k s2 hk2=>?_) λ _ _ hF=>hF.elim));obtain⟨gk2,c⟩:=hk2;have s3:=Heap.SameBut.update s2.heap kS (Obj.mapSeq (·.push k));have ea:(List.toArray ks).push k=List.toArray (ks++[k]):=by simp
  obtain⟨c2,hc2⟩:∃ c2,(s2.heap.update kS (Obj.mapSeq (·.push k))).get? kS=some (seqObj "list" (List.toArray (ks++[k])) c2):=⟨_,by rw[<- ea];exact get?_update_seq gk2 (·.push k)⟩
  try dsimp only
  refine wpAny_bind (listUpdate_at gk2 rfl ?_ (by rw[List.size_toArray,sizeLine_eq];omega) (Nat.le_trans (Nat.le_of_eq (Array.size_push ..)) (by rw[List.size_toArray,sizeLine_eq];omega)));exact wpAny_pure ⟨rfl,k,c2,hc2,c _ c2 s3 hc2⟩
 ·obtain⟨ys,ks,e,H',rv,hl,hW',J,na',nk',ga',gk'⟩:=hd
  try dsimp only
  refine wpAny_bind (listItems_at gk' rfl ?_);have hz:us.toArray.size=us.length:=by simp
  unfold ksk_end
  try dsimp only
  simp only[Bool.false_eq_true,if_false]
  by_cases h2:us.length<2
  ·rw[if_pos (by rw[hz];exact h2),if_pos (by rw[hz];exact h2)];refine wpAny_bind (wpAny_pure ?_);rw[StateT.run_pure];refine wpAny_bind (wpAny_pure ?_);dsimp only;have out:=kat_snds (ks:=ks) (vs:=us) hl (st:=SortSt.mk' general' (ks.toArray.zip us.toArray) #[] 7 none) (p:=List.toArray (List.range us.length)) (by have e:=kas_range (ks.toArray.zip us.toArray);rw[show(ks.toArray.zip us.toArray).size=us.length by simp[hl]] at e;exact e.symm)
   refine sZ hak fA fS J na' nk' ga' gk' out (by simp;omega) (by omega) rfl λ s3 c J3 g3=>fin ys H' s3 c hW' J3 na' ?_;unfold iO;rw[if_pos h2]
   simpa using g3
  ·rw[if_neg (by rw[hz];exact h2),if_neg (by rw[hz];exact h2)];obtain⟨κ,hk',hc'⟩:=cmp ys ks H' s' hW' rv J hl (by omega);refine wpAny_bind (wpAny_mono (hk' (λ κ' s3=>κ'=κ/\s3=s') ⟨rfl,rfl⟩) (λ κ' s3 e3=>?_) λ _ _ z=>z.elim);obtain⟨rfl,rfl⟩:=e3;refine wpAny_bind (wpAny_mono (kat_run (ks:=ks) (vs:=us) (Q:=λ st' s4=>s4=s3/\failedOf st'=none/\(arrOf st').map (·.2)=List.toArray ((iO lt us.length).map λ i=>us.getD i Value.none)/\(iO lt us.length).length=us.length) (G:=λ p s4=>s4=s3/\p=go lt (kas_sort us.length)) hl (by omega) h64 (λ p st' s4 a1 a2 a3 a4=>⟨a4.1,a3,?_,?_⟩) (abQ hc' _ (zf (by omega)) ⟨rfl,rfl⟩)) ?_ λ _ _ e=>e)
   ·unfold iO;rw[if_neg h2,<- a4.2];exact kat_snds hl a2
   ·unfold iO;rw[if_neg h2,<- a4.2,Array.length_toList,a1]
   ·rintro⟨⟨⟩,st'⟩ s4 ⟨rfl,hf,har,hln⟩;dsimp only;exact sZ hak fA fS J na' nk' ga' gk' har (by rw[List.length_map,hln];exact h64) (by omega) hf λ s4 c J4 g4=>fin ys H' s4 c hW' J4 na' g4
end
section
variable {X:Cx}{pins:PN}{σ:St}{f d:Addr}
theorem adE{H:Hp}{s:Shared}{t:Bool}{sh:List Bool}{rows:List (List PyData)}{ys:List V}{ks:List Value}(I:Inv X pins σ H s)(hs:∀ r∈rows,Shape (t::sh) r)(ra:bt X.K H (rows.map PyData.tuple) ys)(rv:Vals ys ks)(h2:2<=rows.length) :
  ∃ κ,(∀ (Q:SortKind->Shared->Prop),Q κ s->wpAny (model X.prog X.w) X.A (keyKind' ks.toArray) Q (λ _ _=>False) s)/\∀ i j,i<rows.length->j<rows.length->∀ C:Bool->Shared->Prop,C (yx (rowAt rows i) (rowAt rows j)) s->kas_ask X.prog X.w X.A κ ks i j C s:=by
 have hl:=rv.length;have hl2:=ra.length;rw[List.length_map] at hl2;have R:=wD I hs ra rv;refine⟨tuples' true,λ Q q'=>?_,λ i j hi hj C c=>?_⟩
 ·obtain⟨fs,t1,t2,t3⟩:=jN.mS R;cases t with
  | true=>exact W.kat_kind (T:=.type "str") t1 (by omega) (λ v hv=>by rcases t3 v hv with ⟨_,x,k,rfl⟩ | ⟨e,_⟩;exact .now;cases e) rfl q'
  | false=>exact W.kat_kind (T:=.type "int") t1 (by omega) (λ v hv=>by rcases t3 v hv with ⟨e,_⟩ | ⟨_,x,k,rfl⟩;cases e;exact .now) rfl q'
 ·obtain⟨a,oa,xa,na,e1,g1,c1,d1,s1,w1⟩:=R.get i hi;obtain⟨b,ob,xb,nb,e2,g2,c2,d2,s2,w2⟩:=R.get j hj;unfold W.kas_ask;rw[e1,e2];refine W.kat_lt g1 d1 g2 d2 ?_;have hn:decide (xa.size<xb.size)=false:=by have z1:=zj.len w1;have z2:=zj.len w2;rw[jc s1] at z1;rw[jc s2] at z2;simp only[Array.length_toList] at z1 z2;simp;omega
  rw[hn];exact vZ 0 _ s1 s2 w1 w2 c
theorem aa6{lt:Nat->Nat->Bool}{xs:List V}{us:List Value}(rx:Vals xs us):Vals ((iO lt us.length).map λ i=>xs.getD i .non) ((iO lt us.length).map λ i=>us.getD i Value.none):=by
 have hl:=rx.length;have main:∀ is:List Nat,(∀ i∈is,i<us.length)->Vals (is.map λ i=>xs.getD i .non) (is.map λ i=>us.getD i Value.none):=by
  intro is
  induction is with
  | nil=>intro _;exact .nil
  | cons i is ih =>
   intro hi;refine .cons ?_ (ih λ j hj=>hi j (by simp[hj]));have h1:=hi i (by simp);obtain⟨u,e1,e2⟩:=Vals.get (i:=i) (x:=xs.getD i .non) rx (by simp[List.getD_eq_getElem?_getD,List.getElem?_eq_getElem (show i<xs.length by omega)]);have e3:us.getD i Value.none=u:=by rw[List.getD_eq_getElem?_getD,e1];rfl
   show RelV (xs.getD i .non) (us.getD i Value.none);rw[e3];exact e2
 refine main _ λ i hi=>?_
 simpa using (km _ _).mem_iff.mp hi
theorem sQ{H:Hp}{s:Shared}{kvs:List (Key×V)}{zs:List Str}{lt:Nat->Nat->Bool}{Q:VK}{E:VP}(hc:X.calm=true)(Wt:Nat->List V->Hp->Prop)(I:Inv X pins σ H s)(hW:Wt 0 [] H)(hq:L2.Rd H d (.dK kvs))(hk:kvs.map (·.1)=zs.map Sum.inr)(hz:zs.length<64)
  (turn:∀ (i:Nat) (ys:List V) (z:Str) (u:Value) (pl:PN) (H:Hp) (s:Shared),zs[i]? =some z->RelV (.str z) u->Wt i ys H->Inv (tG X) pl σ H s->wpAny (model X.prog X.w) (tG X).A (call (.ref f) [u]) (EP (tG X) pl σ λ y H'=>Wt (i+1) (ys++[y]) H') (λ _ _=>False) s)
  (cmp:∀ (ys:List V) (ks:List Value) (H:Hp) (s:Shared),Wt zs.length ys H->Vals ys ks->Inv (tG X) pins σ H s->ks.length=zs.length->2<=zs.length->∃ κ,(∀ (Q:SortKind->Shared->Prop),Q κ s->wpAny (model X.prog X.w) (tG X).A (keyKind' ks.toArray) Q (λ _ _=>False) s)/\∀ i j,i<zs.length->j<zs.length->∀ C:Bool->Shared->Prop,C (lt i j) s->kas_ask X.prog X.w (tG X).A κ ks i j C s)
  (fin:∀ (ys:List V) (H':Hp),Wt zs.length ys H'->∀ l,H' l=none->Q (.ref l) (upd H' l (.lst ((iO lt zs.length).map λ i=>(zs.map V.str).getD i .non)))) :
  wpAny (model X.prog X.w) X.A (call (.builtin "sorted") [.ref d] [(Str.ofString "key",.ref f)]) (EP X pins σ Q) E s:=by
 obtain⟨hsz,hsys,vs,rel,o,es,ep,hd⟩:=hq.ok I.hok;have hvs:vs.map (·.1)=zs.map Sum.inr:=by
  rw[<- hk];clear hk hd hq hsz
  induction rel with
  | nil=>rfl
  | cons r t ih=>simp only[List.map_cons,ih,r.1]
 have hln:vs.length=zs.length:=by simpa using congrArg List.length hvs
 refine call_function_entry_kw kind_sorted plain_sorted entry_sorted (ksk_s1 _ _) ?_;unfold Builtin.«sorted»;have at1:∀ (h':Heap) (l:List Value),(h'.push (seqObj "list" l.toArray 0)).get? h'.objs.size=some (seqObj "list" l.toArray 0):=λ h' l=>Heap.get?_push_size _ rfl;refine wpAny_bind (m:=checkCount "sorted" 1 1 _) (wpAny_pure (wpAny_bind (W.kdu_collect (A:=X.A.in1) (W.kdl_dict (knd:=bu X.prog X.w) (kvs:=vs) (ep:=ep) hsys) (I.ok.hd hc) ⟨o,es,hd⟩ (by rw[sizeLine_eq];omega) λ h' tk acc old hacc=>?_)));have hla:acc.toList.length=vs.length:=by rw[Array.length_toList];exact hacc.1
 have hS:StrsAre acc.toList zs:=qx hvs hla λ j v hj=>hacc.2 j v (by rw[<- Array.getElem?_toList];exact hj);have rx:Vals (zs.map V.str) acc.toList:=k6 hS;have hlz:acc.toList.length=zs.length:=by omega
 refine wpAny_bind (wpAny_newList ?_ (by rw[hla,sizeLine_eq];omega));have I1:=I.kept (t':=tk) old;have I2:=I1.kept (t':=tk) (h':=h'.push (seqObj "list" acc.toList.toArray 0)) λ b o e=>Heap.get?_push_of_some _ e;have na:H h'.objs.size=none:=I1.hok.fresh (Nat.le_refl _);have fA:∀ H:Hp,H h'.objs.size=none->jg X pins H h'.objs.size:=λ H h=>I1.oz (Nat.le_refl _) h;refine wpAny_bind (wpAny_holding (wpAny_call_entry_kw slot_list_sort ⟨_,at1 h' acc.toList,rfl⟩ entry_list_sort ?body (ksk_l1 _ _)))
 case body =>
  show wpAny (model X.prog X.w) X.A.in1.in1 (Builtin.«list.sort» ⟨[.ref h'.objs.size],[(Str.ofString "key",.ref f)]⟩) _ _ _;rw[ksk_t1];refine aaX (X:=tG X) (lt:=lt) Wt (Inv.in1 (Inv.in1 I2)) hW (at1 h' acc.toList) na fA rx (by omega) (λ i ys v u pl H s hv ru hW' J=>?_) (λ ys ks H s hW' rv J hl h2=>?_) λ ys H' s' c hW' J na' g=>?_
  ·rw[List.getElem?_map] at hv;cases hzi:zs[i]? with
   | none=>rw[hzi] at hv;cases hv
   | some z =>
    rw[hzi] at hv;cases hv;exact turn i ys z u pl H s hzi ru hW' J
  ·rw[hlz] at hW' hl h2 ⊢;exact cmp ys ks H s hW' rv J hl h2
  ·have J':Inv X pins σ H' s':=Inv.aiX (Inv.aiX J);have ov:=aa6 (lt:=lt) rx;have hov:((iO lt acc.toList.length).map λ i=>(zs.map V.str).getD i .non).length<=sizeLine:=by rw[List.length_map];have:=(km lt acc.toList.length).length_eq;rw[List.length_range] at this;have:=s16;omega
   have J2:=Inv.acO J' g (fA H' na') hov ov;refine⟨_,rfl,wpAny_pure ⟨_,rfl,.ref _,_,J2,rfl,?_⟩⟩;rw[hlz] at hW' ⊢;exact fin ys H' hW' _ na'
end
open PySem.W (kla_obj kla_fn)
section
variable {X:Cx}{K:FG}
def abX(rows:List (List PyData))(zs:List Str):List Str:=(iO (λ i j=>yx (rowAt rows i) (rowAt rows j)) zs.length).map λ i=>zs.getD i Str.empty
theorem w5(rows:List (List PyData))(zs:List Str):(abX rows zs).Perm zs:=by
 unfold abX;have h:=(km (λ i j=>yx (rowAt rows i) (rowAt rows j)) zs.length).map λ i=>zs.getD i Str.empty;have e:(List.range zs.length).map (λ i=>zs.getD i Str.empty)=zs:=by refine List.ext_getElem (by simp) λ i h1 h2=>?_;simp[List.getD_eq_getElem?_getD,List.getElem?_eq_getElem h2]
 rw[e] at h;exact h
def yu(P:Addr)(q:Str)(lpos:Pos)(to tb:TD)(fr:List Nat)(τ:DS)(M:MH)(Q:QD):Prop:=to τ M λ w M1=>∃ a kvs,∃ zs:List Str,w=.m a/\M1 a=some (.dic kvs)/\kvs.map (·.1)=zs.map Sum.inr/\zs.length<64/\M1 P=some (.code q lpos) /\
 ∃ t sh,∃ rows:List (List PyData),rows.length=zs.length/\(∀ r∈rows,Shape (t::sh) r)/\(∀ (i:Nat) z r,zs[i]? =some z->rows[i]? =some r->tb (adb (.d (.str z)) fr τ) M1 λ y M2=>y=.d (.tuple r)/\M2=M1)/\∀ p,M1 p=none->Q (.m p) (bY M1 p (.lst (gQ (abX rows zs))))
variable {P cd:Addr}{q x:Str}{lpos pos p kpos:Pos}{params:Arguments}{body o:Expr}{sc:Scope}{fr:List Nat}{to tb:TD}{k:Nat}
theorem wu(hr:eM (k+3) X.A)(hc:X.calm=true)(hg:Gl X "sorted")(hm:X.mg "sorted" = none)(L:qh X sc x fr)(hcode:X.env.code=.ref cd)(hcd:W.codeHdIn X.K cd P=true)(hq:X.env.qual ++ "<lambda>" = q)
  (hb:∀ cl pm cdv ctv u,bindArgs (kla_fn "<lambda>" q params body sc cl pm cdv ctv) ⟨[u],[]⟩=pure [(x,u)])(ho:PD X o to)
  (he:∀ cl f c s H pl,eM k (zq (tG X) q sc (vQ X x fr) cl f c s H pl).A->PD (zq (tG X) q sc (vQ X x fr) cl f c s H pl) body tb)(hso:gh o=false:=by rfl)(hdef:defaultsOf params X.env=([],[]):=by rfl) :
  PD X (.Call (.Name "sorted" p) [o] [⟨some "key",.Lambda params body sc lpos,kpos⟩] pos) (yu P q lpos to tb fr):=by
 intro pins s σ H Q I h;subst hq;have hst:starEach [o] X.env=(false,eval o X.env)::starEach [] X.env:=cR o [] X.env hso;have pa:PA X [o] (qC (up X.K to) abH):=iG ho mX hst;have pk:PK X [⟨some "key",.Lambda params body sc lpos,kpos⟩] (qC (ai5 X P (X.env.qual ++ "<lambda>") params body sc lpos) abH):=rX (aeZ L hcode hcd hdef) wC;obtain⟨τ,M,Qd,A,h,kk⟩:=h;refine wpAny_Call_Name_kw (g6 I hg hm iN (callWith_kw (he:=by rw[hst];rfl) (hplain:=dh pos X.env [o] (by simp[hso])) ?_));refine thn (pa pos pins s σ H (λ vs H1=>∃ v w M1,vs=[v]/\Kp H H1/\aO X.K H1 w v/\cX X.K H1 M1/\∃ a kvs,∃ zs:List Str,w=.m a/\M1 a=some (.dic kvs)/\kvs.map (·.1)=zs.map Sum.inr/\zs.length<64/\M1 P=some (.code (X.env.qual ++ "<lambda>") lpos) /\
  ∃ t sh,∃ rows:List (List PyData),rows.length=zs.length/\(∀ r∈rows,Shape (t::sh) r)/\(∀ (i:Nat) z r,zs[i]? =some z->rows[i]? =some r->tb (adb (.d (.str z)) fr τ) M1 λ y M2=>y=.d (.tuple r)/\M2=M1)/\∀ p,M1 p=none->Qd (.m p) (bY M1 p (.lst (gQ (abX rows zs))))) I
  ⟨τ,M,_,A,h,λ x H1 w M1 kp r m z=>⟨x,w,M1,rfl,kp,r,m,z⟩⟩) λ us s1 ⟨vs,H1,I1,r1,hx⟩=>?_
 obtain⟨v,w,M1,ev,kp1,rw1,m1,a,kvs,zs,ew,hMa,hkeys,hz,hP,t,sh,rows,hrl,hsh,hkey,hfin⟩:=hx;subst ev ew;have ea:v=.ref a:=rw1;subst ea;obtain⟨u,rfl,ru⟩:=vals1 r1;cases (show u=Value.ref a from ru);obtain⟨ps,hT,ht,hcA⟩:=m1 P _ hP;refine thn (pk pos pins s1 σ H1 (λ ks H2=>∃ f cl,ks=[.ref f]/\Kp H1 H2/\cX X.K H2 M1/\ah3 X sc cl/\aex H2 (X.env.qual ++ "<lambda>") x params body sc cl ((X.mg "__name__").getD .none) f) I1 ?_) λ kus s2 ⟨ks,H2,I2,r2,f,cl,ek,kp2,m2,hcl,hlam⟩=>?_
 ·refine⟨ps,hT,ht,?_⟩;rcases hcA with hn | ⟨c,oc,vs,t,e1,e2,e3,e4⟩
  ·refine .inl ⟨hn,λ c f oc vs t ctv cl hcl hc0 hf0 hcf hd hv=>?_⟩;obtain⟨k3,m3⟩:=uK m1 hP hT ht hn hc0 hd hv;have fP:f≠P:=Ne.symm (aV hT hf0);have cP:c≠P:=Ne.symm (aV hT hc0);have hf1:upd (upd H1 c (.frz oc (.own 0))) P (.tbl (nF ps lpos c)) f=none:=by rw[ao fP,ao (Ne.symm hcf)];exact hf0
   exact⟨f,cl,rfl,k3.trans (Kp.new hf1),m3.new hf1,hcl,c,ctv,oc,vs,t,ar,by rw[ao hcf,ao cP,ar],hd,hv⟩
  ·exact .inr ⟨c,oc,vs,t,e1,e2,e3,e4,λ f ctv cl hcl hf0=>⟨f,cl,rfl,Kp.new hf0,m1.new hf0,hcl,c,ctv,oc,vs,t,ar,by rw[ao (aV e2 hf0)];exact e2,e3,e4⟩⟩
 subst ek;obtain⟨ku,rfl,rk⟩:=vals1 r2;cases (show ku=Value.ref f from rk);show wpAny _ _ (call (.builtin "sorted") [.ref a] [(Str.ofString "key",.ref f)]) _ _ s2;have L':qh (tG X) sc x fr:=⟨L.kind,L.co,L.gen,L.cell,L.free,L.own,L.fr⟩;have A2:∀ {H'},Kp H2 H'->cX X.K H' M1->Abs X.K H' σ τ M1:=λ kp m=>A.go (kp1.trans (kp2.trans kp)) m;obtain⟨l,hl,pr⟩:=m2 _ _ hMa;have hkl:l.map (·.1)=zs.map Sum.inr:=by
  rw[<- hkeys];clear hkeys hl hMa hkey hfin
  induction pr with
  | nil=>rfl
  | cons r t ih=>simp only[List.map_cons,ih,r.1]
 refine sQ (lt:=λ i j=>yx (rowAt rows i) (rowAt rows j)) hc (λ i ys H'=>Kp H2 H'/\cX X.K H' M1/\bt X.K H' ((rows.take i).map PyData.tuple) ys) I2 ⟨Kp.refl _,m2,by simp[bt]⟩ (.inl hl) hkl hz (λ i ys z u pl H' s' hzi ru hW J=>?_) (λ ys ks H' s' hW rv J hlk h2=>?_) λ ys H' hW l hln=>?_
 ·obtain⟨r,hri⟩:∃ r,rows[i]? =some r:=⟨_,List.getElem?_eq_getElem (show i<rows.length by rw[hrl];exact(List.getElem?_eq_some_iff.mp hzi).1)⟩;refine ack (X:=tG X) (k:=k) (hr.in1.in1) hc L' hcl.1 hcl.2 (hb cl _) (te:=up X.K tb) (λ c s H pl hr'=>he cl f c s H pl hr') J (D.aex.keep hlam hW.1) ru ?_;refine⟨_,M1,_,adh (A2 hW.1 hW.2.1) (w:=.d (.str z)) (by simp[aO,aG]) fr,hkey i z r hzi hri,λ y H3 w3 M3 kp3 r3 m3 z'=>?_⟩;obtain⟨e1,e2⟩:=z';subst e1 e2;refine⟨hW.1.trans kp3,m3,?_⟩;have e3:(rows.take (i+1)).map PyData.tuple=(rows.take i).map PyData.tuple++[.tuple r]:=by rw[List.take_succ,hri];simp
  rw[e3];refine bt.append (hW.2.2.keep kp3) ?_;simp only[bt];exact⟨y,[],rfl,r3,rfl⟩
 ·have ra:=hW.2.2;rw[<- hrl,List.take_length] at ra;rw[<- hrl] at h2 ⊢;exact adE (X:=tG X) J hsh ra rv h2
 ·have kp:Kp H' (upd H' l (.lst ((abX rows zs).map V.str))):=Kp.new hln;have e:(iO (λ i j=>yx (rowAt rows i) (rowAt rows j)) zs.length).map (λ i=>(zs.map V.str).getD i .non)=(abX rows zs).map V.str:=by
   unfold abX;rw[List.map_map];refine List.map_congr_left λ i hi=>?_;have hi':i<zs.length:=by simpa using (km _ _).mem_iff.mp hi
   simp[List.getD_eq_getElem?_getD,List.getElem?_eq_getElem hi']
  rw[e];exact kk _ _ (.m l) _ (kp1.trans (kp2.trans (hW.1.trans kp))) rfl (hW.2.1.put (mo:=.lst (gQ (abX rows zs))) kp ⟨_,ar,kX _⟩) (hfin l (hW.2.1.free hln))
end
theorem yy{X:Cx}{P cd:Addr}{q x:Str}{lpos pos p kpos:Pos}{params:Arguments}{body o:Expr}{sc:Scope}{fr:List Nat}{to tb:TD}{k:Nat}(hr:eM (k+3) X.A)(hc:X.calm=true)(hg:Gl X "sorted")(hm:X.mg "sorted" = none)(L:qh X sc x fr)(hcode:X.env.code=.ref cd)(hcd:W.codeHdIn X.K cd P=true)(hq:X.env.qual ++ "<lambda>" = q)
  (hb:∀ cl pm cdv ctv u,bindArgs (kla_fn "<lambda>" q params body sc cl pm cdv ctv) ⟨[u],[]⟩=pure [(x,u)])(ho:Jd (PD X o to))
  (he:∀ cl f c s H pl,eM k (zq (tG X) q sc (vQ X x fr) cl f c s H pl).A->Jd (PD (zq (tG X) q sc (vQ X x fr) cl f c s H pl) body tb))(hso:gh o=false:=by rfl)(hdef:defaultsOf params X.env=([],[]):=by rfl) :
  Jd (PD X (.Call (.Name "sorted" p) [o] [⟨some "key",.Lambda params body sc lpos,kpos⟩] pos) (yu P q lpos to tb fr)):=⟨D.wu hr hc hg hm L hcode hcd hq hb ho.h (λ cl f c s H pl h=>(he cl f c s H pl h).h) hso hdef⟩
theorem j5:fillsNumberSlot (.type "tuple") "mul" = pure false:=
 PySem.fillsNumberSlot_seq (id:= "tuple.__mul__") (r:=some (.builtin "tuple.__rmul__")) F.slot_tuple_mul.lookup (by decide +kernel) F.slot_tuple_rmul.lookup (by decide +kernel)
theorem pR:seqRepeat? (.type "tuple")=pure (some (.builtin "tuple.__mul__")):=by
 unfold seqRepeat?;rw[PySem.seqSlot_of (T:= "tuple") (name:= "__mul__") (id:= "tuple.__mul__") F.slot_tuple_mul.lookup (by decide +kernel),PySem.seqSlot_of (T:= "tuple") (name:= "__rmul__") (id:= "tuple.__rmul__") F.slot_tuple_rmul.lookup (by decide +kernel)];rfl
theorem qB(a:Int)(t:Tok)(l:Addr)(items:Array Value)(n:Nat)(dd:Option Addr)(sl:Array (Option Value)) :
  Meets (Builtin.«int.__rmul__» ⟨[.int a t,.ref l],[]⟩) (λ _ R s=>s.heap.get? l=some {cls:=.type "tuple",dict:=dd,data:=.seq items n,slots:=sl}/\R (.ok (.ret Value.notImplemented)) s):=
 .of_wp λ prog w A R s h=>by obtain⟨hp,g,d,tk,os⟩:=s;obtain⟨hl,h⟩:=h;wp_walk;exact⟨_,rfl,h⟩
theorem aaF(l:Addr)(t:Tok)(items:Array Value)(n:Nat)(dd:Option Addr)(sl:Array (Option Value)) :
  Meets (Builtin.«tuple.__mul__» ⟨[.ref l,.int 1 t],[]⟩) (λ _ R s=>s.heap.get? l=some {cls:=.type "tuple",dict:=dd,data:=.seq items n,slots:=sl}/\R (.ok (.ret (.ref l))) s):=
 .of_wp λ prog w A R s h=>by obtain⟨hp,g,d,tk,os⟩:=s;obtain⟨hl,h⟩:=h;have f1:=AutoSeq1.idx_int;have f2:=AutoSeq1.sub_tuple_tuple;have f3:=AutoSeq1.sub_list_list;have f4:=AutoSeq1.sub_tuple_list;have f5:=AutoSeq1.sub_list_tuple;wp_walk using wpAny_loadPart' hl;exact⟨_,rfl,h⟩
theorem aaf(l:Addr)(t:Tok)(items:Array Value)(n:Nat)(dd:Option Addr)(sl:Array (Option Value))(hne:items.isEmpty=false) :
  Meets (Builtin.«tuple.__mul__» ⟨[.ref l,.int 0 t],[]⟩) (λ _ R s=>s.heap.get? l=some {cls:=.type "tuple",dict:=dd,data:=.seq items n,slots:=sl}/\R (.ok (.ret (.ref s.heap.objs.size))) {s with heap:=s.heap.push {cls:=.type "tuple",data:=.seq #[]}}):=
 .of_wp λ prog w A R s h=>by obtain⟨hp,g,d,tk,os⟩:=s;obtain⟨hl,h⟩:=h;have f1:=AutoSeq1.idx_int;have f2:=AutoSeq1.sub_tuple_tuple;have f3:=AutoSeq1.sub_list_list;have f4:=AutoSeq1.sub_tuple_list;have f5:=AutoSeq1.sub_list_tuple;wp_walk using wpAny_loadPart' hl;exact⟨_,rfl,h⟩
section
variable {X:Cx}{K:FG}
def ae7(K:FG):R2:=λ x y H Q=>∃ a n xs,x=.ref a/\y=.int n/\SqT K H a xs/\xs≠[]/\((n=1/\Q (.ref a) H)\/(n=0/\∀ p,H p=none->Q (.ref p) (upd H p (.tup []))))
theorem acM:OpR X (binaryOp .Mult) (ae7 X.K):=by
 intro pins s σ H x y v u Q I rx ry h;obtain⟨a,n,xs,rfl,rfl,ha,hne,h⟩:=h;cases rx;obtain⟨t,rfl⟩:=ry;obtain⟨its,r1,p1,_⟩:=I.tuple ha;obtain⟨⟨cls,dd,data,sl⟩,ho,hc,m,hd⟩:=id p1;simp only at hc hd;subst hc hd;refine wpAny_binaryOp_repeat_ref (T:= "tuple") (U:= "int") (by decide) ⟨_,ho,rfl⟩ (λ s'=>typeIs_int s' n t) j5 F.fills_int_mul F.slot_int_rmul pR F.slot_int_index.lookup
  (call_meets F.slot_int_rmul (typeIs_int s n t) F.entry_int_rmul (F.args_int_rmul_2 _ _) (qB n t a its.toArray m dd sl) ⟨ho,rfl,⟨_,ho,rfl⟩,?_⟩)
 rcases h with ⟨rfl,q⟩ | ⟨rfl,q⟩
 ·exact call_meets F.slot_tuple_mul ⟨_,ho,rfl⟩ F.entry_tuple_mul (F.args_tuple_mul_2 _ _) (aaF a t its.toArray m dd sl) ⟨ho,.ref a,H,I,rfl,q⟩
 ·have hi:its.toArray.isEmpty=false:=by
   cases its with
   | nil=>exact absurd (r1.og.mp rfl) hne
   | cons x l=>rfl
  refine call_meets F.slot_tuple_mul ⟨_,ho,rfl⟩ F.entry_tuple_mul (F.args_tuple_mul_2 _ _) (aaf a t its.toArray m dd sl hi) ⟨ho,.ref s.heap.objs.size,_,I.laid (t':=s.toks) (o:=.tup []) (λ b ob q=>Heap.get?_push_of_some _ q) (Nat.le_refl _) ?_,rfl,q _ (I.hok.fresh (Nat.le_refl _))⟩;exact⟨by simp,[],.nil,yq.new _ _⟩
def xh(w w':W)(M:MH)(Q:QD):Prop:=∃ ds n,w=.d (.tuple ds)/\w'=.d (.int n)/\ds≠[]/\(n=0\/n=1)/\Q (.d (.tuple (if n=1 then ds else []))) M
theorem aaG:OpD K (ae7 K) xh:=by
 intro x y H w w' M Qd Q r1 r2 m ⟨ds,n,e1,e2,hne,hn,q⟩ k;subst e1 e2;simp only[aO,aG] at r1 r2;obtain⟨a,vs,ea,hs,ra⟩:=r1;subst ea r2;have hl:=ra.length;refine⟨a,n,vs,rfl,rfl,hs,λ z=>hne ?_,?_⟩
 ·rw[z] at hl;exact List.length_eq_zero_iff.mp hl.symm
 ·rcases hn with rfl | rfl
  ·refine .inr ⟨rfl,λ p hp=>k _ _ (.d (.tuple [])) M (Kp.new hp) ?_ (m.new hp) q⟩;simp only[aO,aG];exact⟨p,[],rfl,.inl (.inl ar),by simp[bt]⟩
  ·exact .inl ⟨rfl,k _ _ (.d (.tuple ds)) M (Kp.refl _) (by simp only[aO,aG];exact⟨a,vs,rfl,hs,ra⟩) m q⟩
end
open XO
section
variable {X:Cx}{pins:PN}{σ:St}{H:Hp}{s:Shared}{CX:List Env->Hp->Shared->XK->VP}{k:Nat}{f:Addr}{fd:FuncData}{ps:List Str}
theorem zM{sp:List V->Hp->VK->XK->Prop}{vs dv:List V}{us dvs:List Value}{Q:VK}{E:XK}(F:cj X.prog X.w X.K X.mg X.base CX k f fd ps sp)(hr:eM k X.A)(hb:Binds X.K fd ps dvs)(rd:Vals dv dvs)(I:Inv X pins σ H s)(r:Vals vs us)(h:sp (vs++dv) H Q E)(hx:∀ e s',CX X.stack H s E e s'->X.xe e s') :
  wpAny (model X.prog X.w) X.A (call (.ref f) us) (EP X pins σ Q) X.xe s:=by
 have hl:(us++dvs).length=ps.length:=by rw[<- (r.append rd).length];exact F.len _ _ _ _ h
 have b:=hb s us I.kIn hl;refine wpAny_call (codeAny_mono (F.run X.A X.stack s H ⟨us,[]⟩ (us++dvs) (vs++dv) Q E hr I.ahm b (r.append rd) h) λ r s' hq=>?_);cases r with
 | error e=>exact hx e s' hq
 | ok fl=>cases fl<;>first | exact I.after hq | exact False.elim hq
end
section
variable {X:Cx}{pos p:Pos}{k:Nat}{f:Addr}{fd:FuncData}{ps:List Str}{sp:SpX}{x:Str}{e:Expr}{es:List Expr}{t:TAd}{E:XE}{d:Int}
def vL(sp:SpX)(d:Int)(E:XE)(t:TAd)(τ:DS)(M:MH)(Q:QD):Prop:=t τ M λ ws M1=>sp (ws++[.d (.int d)]) M1 Q λ a M'=>E a τ M'
theorem aiw(L:Lk X E)(F:cj X.prog X.w X.K X.mg X.base (CXE X.prog X.w) k f fd ps (eL X.K sp))(hr:eM k X.A)(hg:Gl X x)(hm:X.mg x=some (.ref f))(hk:W.keepIn X.K (.ref f)=true)(hb:∃ tk,L2.Binds X.K fd ps [.int d tk])
  (ha:Jd (PAd X (e::es) t))(hdb:ND x:=by decide)(h1:gh e=false:=by rfl)(h2:(es.all λ e=>!gh e)=true:=by rfl) :
  Jd (PD X (.Call (.Name x p) (e::es) [] pos) (vL sp d E t)):=⟨have ha:=ha.h;by
 intro pins s σ H Q I h;obtain⟨tk,hb⟩:=hb;obtain⟨τ,M,Qd,A,h,k⟩:=h;refine wpAny_Call_Name_kw (jy I hg hm ?_ hdb);refine W.callWith_K (h₀:=X.base) I.ok.mod.kin hk (thn (ha pos pins s σ H (λ vs H1=>∃ ws M1,Kp H H1/\bB X.K H1 ws vs/\cX X.K H1 M1/\sp (ws++[.d (.int d)]) M1 Qd λ a M'=>E a τ M') I ⟨τ,M,_,A,h,λ vs H1 ws M1 kp r m q=>⟨ws,M1,kp,r,m,q⟩⟩) λ us s1 ⟨vs,H1,I1,r,ws,M1,kp,rw,m1,q⟩=>⟨I1.kIn,?_⟩) (cR e es X.env h1) (dh pos X.env es h2);refine zM (dv:=[.int d]) (E:=λ v _ H'=>∃ a M',v=.ref a/\Kp H1 H'/\cX X.K H' M'/\E a τ M') F hr hb (.cons ⟨tk,rfl⟩ .nil) I1 r ⟨ws++[.d (.int d)],M1,Qd,_,bB.append rw (.cons (by simp[aO,aG]) .nil),m1,q,kgo k kp,λ a H' M' kp' m' e'=>⟨a,M',rfl,kp',m',e'⟩⟩ λ u s' hx=>yI L I1 (A.go kp m1) (λ v H' z=>z) hx⟩
end
inductive SV:MH->MH->Prop
 | refl (M:MH):SV M M
 | step {M M':MH} {a l:Addr} {kvs:List (Key×W)} {i:Nat} {k:Key} {ds:List PyData} (ha:M a=some (.dic kvs)) (hi:kvs[i]? =some (k,.m l)) (hl:M l=some (.lst (ds.map W.d))) (n:a≠l) (r:SV (bY (l9 M l) a (.dic (kvs.set i (k,.d (.list ds))))) M'):SV M M'
section
variable {X:Cx}{K:FG}
theorem mJ{α β:Type}{R:α->β->Prop}{x:α}:∀ {l:List α} {m:List β} (i:Nat) {y:β},Paired R l m->m[i]? =some y->R x y->Paired R (l.set i x) m
 | _,_,_,_,.nil,h,_=>by simp at h
 | _,_,0,_,.cons r t,h,q=>by simp at h;subst h;exact .cons q t
 | _,_,i+1,_,.cons r t,h,q=>.cons r (mJ i t (by simpa using h) q)
theorem qm{α β:Type}{R:α->β->Prop}{x:α}:∀ {l:List α} {m:List β} {i:Nat},Paired R l m->l[i]? =some x->∃ y,m[i]? =some y/\R x y
 | _,_,_,.nil,h=>by simp at h
 | _,_,0,.cons r t,h=>by simp at h;subst h;exact⟨_,rfl,r⟩
 | _,_,i+1,.cons r t,h=>by obtain⟨y,e,q⟩:=qm t (by simpa using h);exact⟨y,by simpa using e,q⟩
theorem aac{M M':MH}(h:SV M M'):∀ {pins:PN} {σ:St} {H:Hp} {s:Shared},cX X.K H M->Inv X pins σ H s->∃ H',Inv X pins σ H' s/\Kp H H'/\cX X.K H' M':=by
 induction h with
 | refl M=>exact λ m I=>⟨_,I,Kp.refl _,m⟩
 | @step M M' a l kvs i k ds ha hi hl n r ih =>
  intro pins σ H s m I;obtain⟨vs,e,ra⟩:=m _ _ hl;obtain⟨lv,ea,pr⟩:=m _ _ ha;obtain⟨o,I2⟩:=I.freeze e trivial;have kp:Kp H (upd H l (.frz o (.lst vs))):=Kp.set e (λ _ z=>nomatch z) (λ _ _ z=>nomatch z);have m2:=m.del (a:=l) kp;have ea2:upd H l (.frz o (.lst vs)) a=some (.dK lv):=by rw[ao n];exact ea
  obtain⟨y,ey,e1,e2⟩:=qm pr hi;have pr2:Paired (λ(p:Key×W) (q:Key×V)=>p.1=q.1/\aO X.K (upd H l (.frz o (.lst vs))) p.2 q.2) (kvs.set i (k,.d (.list ds))) lv:=by refine mJ i (Paired.jL pr λ p q z=>⟨z.1,z.2.keep kp⟩) ey ⟨e1,?_⟩;have e3:y.2=.ref l:=e2;simp only[aO,aG];exact⟨l,vs,e3,.inl ⟨o,ar⟩,ra.data.keep kp⟩
  have m3:cX X.K (upd H l (.frz o (.lst vs))) (bY (l9 M l) a (.dic (kvs.set i (k,.d (.list ds))))):=λ b ob hb=>by
   by_cases e:b=a
   ·subst e;rw[ak] at hb;cases hb;exact⟨lv,ea2,pr2⟩
   ·rw[aF e] at hb;exact m2 b ob hb
  obtain⟨H',I',kp',m'⟩:=ih m3 I2;exact⟨H',I',kp.trans kp',m'⟩
def agX(t:TD)(τ:DS)(M:MH)(Q:QD):Prop:=∃ M2,SV M M2/\t τ M2 Q
end
theorem aaL{X:Cx}{e:Expr}{t:TD}(ho:Jd (PD X e t)):Jd (PD X e (agX t)):=⟨have ho:=ho.h;by
 intro pins s σ H Q I h;obtain⟨τ,M,Qd,A,⟨M2,sv,h⟩,k⟩:=h;obtain⟨H2,I2,kp2,m2⟩:=aac sv A.mem I;exact ho pins s σ H2 Q I2 ⟨τ,M2,Qd,A.go kp2 m2,h,kgo k kp2⟩⟩
theorem abM{a:Addr}:∀ (rest:List (Key×Addr×List PyData)) (pre:List (Key×PyData)) (M:MH),M a=some (.dic (bA pre++rest.map λ x=>(x.1,W.m x.2.1)))->(∀ x∈rest,M x.2.1=some (.lst (x.2.2.map W.d))/\x.2.1≠a)->(rest.map (·.2.1)).Nodup ->
  ∃ M',SV M M'/\M' a=some (.dic (bA (pre++rest.map λ x=>(x.1,.list x.2.2))))/\∀ q,q≠a->q ∉ rest.map (·.2.1)->M' q=M q
 | [],pre,M,ha,_,_=>⟨M,.refl M,by simpa using ha,λ _ _ _=>rfl⟩
 | x::rest,pre,M,ha,hl,hn=>by
  have hx:=hl x (by simp);have hn':=List.nodup_cons.mp hn;have hi:(bA pre++(x::rest).map λ x=>(x.1,W.m x.2.1))[pre.length]? =some (x.1,.m x.2.1):=by rw[List.getElem?_append_right (by simp[bA])];simp[bA]
  have hset:(bA pre++(x::rest).map λ x=>(x.1,W.m x.2.1)).set pre.length (x.1,.d (.list x.2.2))=bA (pre++[(x.1,.list x.2.2)])++rest.map λ x=>(x.1,W.m x.2.1):=by rw[List.set_append_right _ _ (by simp[bA])];simp[bA]
  have hmem:∀ y∈rest,y.2.1≠x.2.1:=λ y hy e=>hn'.1 (by show x.2.1∈_;rw[<- e];exact List.mem_map.mpr ⟨y,hy,rfl⟩);obtain⟨M',sv,h1,h2⟩:=abM (a:=a) rest (pre++[(x.1,.list x.2.2)]) (bY (l9 M x.2.1) a (.dic (bA (pre++[(x.1,.list x.2.2)])++rest.map λ x=>(x.1,W.m x.2.1)))) ak (λ y hy=>by have hy':=hl y (by simp[hy]);exact⟨by rw[aF hy'.2,nX (hmem y hy)];exact hy'.1,hy'.2⟩) hn'.2
  refine⟨M',.step ha hi hx.1 hx.2.symm (by rw[hset];exact sv),by rw[h1];simp,λ q hq hnq=>?_⟩;have q1:q≠x.2.1:=λ e=>hnq (by rw[e];simp);rw[h2 q hq (λ z=>hnq (by simp[z])),aF hq,nX q1]
theorem oY(l b:Addr)(items:Array Value)(n:Nat)(dd dd2:Option Addr)(sl sl2:Array (Option Value))(dt:Data) :
  Meets (Builtin.«list.__eq__» ⟨[.ref l,.ref b],[]⟩) (λ _ R s=>s.heap.get? l=some {cls:=.type "list",dict:=dd,data:=.seq items n,slots:=sl}/\s.heap.get? b=some {cls:=.type "dict",dict:=dd2,data:=dt,slots:=sl2}/\R (.ok (.ret .notImplemented)) s):=
 .of_wp λ prog w A R s h=>by obtain⟨hp,g,d,tk,os⟩:=s;obtain⟨hl,hb,h⟩:=h;have f1:=F.sub_dict_list;wp_walk using wpAny_loadPart' hl,wpAny_loadPart' hb;exact⟨_,rfl,h⟩
section
variable {X:Cx}{K:FG}
theorem pd{prog:Program}{w:World}{A:Around}{E:VP}{s:Shared}{a b:Addr}{Q:VP}(ha:s.TypeIs (.ref a) "dict")(hb:s.TypeIs (.ref b) "list")(h:Q .notImplemented s) :
  wpAny (model prog w) A (call (.builtin "dict.__eq__") [.ref a,.ref b]) Q E s:=by
 refine wpAny_call_entry PySem.F.slot_dict_eq ha PySem.F.entry_dict_eq ?_ (PySem.F.args_dict_eq_2 _ _);show wpAny _ _ (Builtin.Dict.dictSlotArgs "__eq__" ⟨[.ref a,.ref b],[]⟩ >>= _) _ _ s;refine wpAny_bind ?_;unfold Builtin.Dict.dictSlotArgs;refine wpAny_bind (wpAny_notOrdered_dict ha ?_);show wpAny _ _ (pure (Value.ref a,Value.ref b)) _ _ s;refine wpAny_pure ?_;refine wpAny_bind (wpAny_isInstance (T:= "list") hb PySem.F.sub_list_dict ?_);simp only[Bool.not_false,if_true];exact wpAny_bind (wpAny_rule (wpAny_pure ⟨_,rfl,h⟩))
def aeq:PyData->Bool
 | .list []=>true
 | _=>false
theorem abF{k:Nat}(hr:iB k X.A):OpR X (compareOp .Eq) (λ x y H Q=>∃ d,aG X.K H d x/\aG X.K H (.list []) y/\gS d=true/\Q (.bl (aeq d)) H):=by
 intro pins s σ H x y v u Q I rx ry h;obtain⟨d,h1,h2,hf,q⟩:=h
 by_cases hl:d=.list []
 ·subst hl;exact xN hr pins s σ H x y v u Q I rx ry ⟨.list [],.list [],h1,h2,rfl,q⟩
 have hu:=hr.units;obtain⟨as,r1,_⟩:=gL I d h1 rx hf;obtain⟨bs,r2,_⟩:=gL I (.list []) h2 ry rfl;have fin:aeq d=false->EP X pins σ Q (.bool false) s:=λ e=>⟨.bl _,H,I,rfl,by rw[e] at q;exact q⟩;cases r2 with
 | @list l' o' vs' n' ys bs₁ k1 k2 k3 k4 =>
 have kl:s.heap.IsList l' vs':=⟨_,k1,k2,_,k3⟩;cases r1 with
 | none=>exact SeqAt.RcAt.none_list kl (by omega) _ _ _ _ (fin rfl)
 | bool b=>exact SeqAt.RcAt.bool_list b kl (by omega) _ _ _ _ (fin rfl)
 | int i t=>exact SeqAt.RcAt.int_list i t kl (by omega) _ _ _ _ (fin rfl)
 | str i t=>exact SeqAt.RcAt.str_list i t kl (by omega) _ _ _ _ (fin rfl)
 | @list l o vs n xs as₁ e1 e2 e3 e4 =>
  have n1:vs.size=xs.length:=by simpa using SeqAt.ReadsAll.length _ _ _ e4
  have n2:vs'.size=0:=by simpa using SeqAt.ReadsAll.length _ _ _ k4
  have hx:xs≠[]:=λ e=>hl (by rw[e]);have n3:xs.length≠0:=λ e=>hx (List.length_eq_zero_iff.mp e);refine SeqAt.RcAt.lists_lengths ⟨_,e1,e2,_,e3⟩ kl (by simp;omega) (by omega) _ _ _ _ (fin ?_);cases xs with
  | nil=>exact absurd rfl hx
  | cons _ _=>rfl
 | tuple e1 e2 e3 e4=>exact SeqAt.RcAt.tuple_list ⟨_,e1,e2,_,e3⟩ kl (by omega) _ _ _ _ (fin rfl)
 | @dict a o es n kvs as' bs' e1 e2 e3 e4 e5 =>
  have f:=fin rfl;have hne:a≠l':=λ e=>by subst e;rw[e1] at k1;cases k1;rw[e2] at k2;exact absurd k2 (by simp)
  obtain⟨cls,dd,data,sl⟩:=o;obtain⟨cls2,dd2,data2,sl2⟩:=o';simp only at e2 k2 k3;subst e2 k2 k3;exact SeqAt.rc_eq_decline_or (k:=false) ⟨_,e1,rfl⟩ ⟨_,k1,rfl⟩ (by decide) F.sub_list_dict F.slot_dict_eq F.slot_list_eq_refl
   (λ _ hq=>pd ⟨_,e1,rfl⟩ ⟨_,k1,rfl⟩ hq)
   (λ _ hq=>call_meets F.slot_list_eq_refl ⟨_,k1,rfl⟩ F.entry_list_eq (F.args_list_eq_2 _ _) (oY l' a vs' n' dd2 dd sl2 sl data) ⟨k1,e1,hq⟩)
   (λ _ hq=>SeqAt.wpAny_isSame_ref_other' hne e1 k1 (by simp) hq) (.inr (by omega)) f
def aa3(w w':W)(M:MH)(Q:QD):Prop:=∃ d,w=.d d/\w'=.d (.list [])/\gS d=true/\Q (.d (.bool (aeq d))) M
theorem vR:OpD K (λ x y H Q=>∃ d,aG K H d x/\aG K H (.list []) y/\gS d=true/\Q (.bl (aeq d)) H) aa3:=by intro x y H w w' M Qd Q r1 r2 m ⟨d,e1,e2,hf,q⟩ k;subst e1 e2;exact⟨d,r1,r2,hf,k _ H (.d (.bool _)) M (Kp.refl H) (by simp[aO,aG]) m q⟩
end
end D
namespace K38
open L2 D Rc Stc
abbrev cC:Addr:=24
abbrev dM:Addr:=44
abbrev aw:Addr:=63
abbrev aA:Addr:=82
abbrev aC:Addr:=101
abbrev bX:Addr:=231
abbrev aP:Addr:=227
abbrev kR:List Str:=["_law_bag_here", "_law_row", "_law_some", "_law_kind"]
def kO(av:SpD):TSd:=
  bp (cB (gy (ae (lL (dCB nK (ae (ai 1) (aB)))) (ae (dSl (ai 1) (aK) (bE (dUn gR (dI 1)))) (ae (dOp bP (ai 1) (dF (ae (dI 1) (aB)))) (ae (dC (.d .none)) (ae (dS "ab") (ae (dOp bP (dSl (ai 1) (aK) (bE (dUn gR (dI 1)))) (dF (ae (dI 7) (aB)))) (ae (dOp bP (dSl (ai 1) (aK) (bE (dUn gR (dI 1)))) (dF (ae (dUn gR (dI 1)) (aB)))) (ae (dOp bP (dSl (ai 1) (aK) (bE (dUn gR (dI 1)))) (dF (ae (dC (.d (.bool true))) (aB)))) (aB)))))))))) (gN 2)) <|
  bp (cB (dOp la (ai 2) (gy (ae (dOp bP (dSl (ai 1) (aK) (bE (dUn gR (dI 1)))) (dF (ae (dS "1") (aB)))) (ae (dOp bP (dSl (ai 1) (aK) (bE (dUn gR (dI 1)))) (dF (ae (dC (.d .none)) (aB)))) (ae (dOp bP (dF (ae (dS "") (aB))) (dSl (ai 1) (bE (dI 1)) (aK))) (ae (dOp bP (dF (ae (dS "Ab") (aB))) (dSl (ai 1) (bE (dI 1)) (aK))) (ae (dOp bP (dF (ae (dS "abcdefghi") (aB))) (dSl (ai 1) (bE (dI 1)) (aK))) (aB)))))))) (gN 2)) <|
  bp (cB (dOp la (ai 2) (gy (ae (dOp bP (dF (ae (dI 5) (aB))) (dSl (ai 1) (bE (dI 1)) (aK))) (ae (dOp bP (dF (ae (dC (.d .none)) (aB))) (dSl (ai 1) (bE (dI 1)) (aK))) (ae (dOp bP (dF (ae (dS "a1") (aB))) (dSl (ai 1) (bE (dI 1)) (aK))) (ae (dOp bP (dF (ae (dF (aB)) (aB))) (dSl (ai 1) (bE (dI 1)) (aK))) (ae (dF (aB)) (aB)))))))) (gN 2)) <|
  bp (cB (dOp la (ai 2) (gy (ae (dOp bP (dF (ae (gW (ae (dS "ab") (aB))) (aB))) (dSl (ai 1) (bE (dI 1)) (aK))) (ae (dOp bP (dF (ae (tN) (aB))) (dSl (ai 1) (bE (dI 1)) (aK))) (aB))))) (gN 2)) <|
  bp (ou (dJ (gW (ae (dS "A") (ae (dS "") (ae (dS "abcdefghi") (ae (dS "a1") (ae (dI 5) (ae (dF (ae (dS "k") (aB))) (ae (dC (.d .none)) (ae (gW (ae (dS "k") (aB))) (aB))))))))))) (gN 3)
   (iu (gv (ai 2) (dOp bP (dOp bP (dSl (ai 1) (aK) (bE (dI 1))) (dOp xh (dF (ae (ai 3) (aB))) (dOp xr (dCB fT (ae (ai 1) (aB))) (dI 2)))) (dSl (ai 1) (bE (dUn gR (dI 1))) (aK)))))) <|
  de (dOp cY (ai 2) (bf av (ae (ai 0) (ae (dCB fT (ae (ai 2) (aB))) (aB)))))
abbrev uq:List Str:=["_law_bag_here", "_law_rows", "_law_row", "_law_found", "_law_way", "_law_at", "_law_some"]
def tX(av:SpD)(bF:SpD):TSd:=
  bp (cB (lL (dCB nK (ae (ai 1) (aB)))) (gN 3)) <|
  bp (cB (bf av (ae (ai 0) (ae (dI 8) (aB)))) (gN 4)) <|
  bp (dIf (aZ (dOp ee (ai 4) (dI 0)))
   (de (dOp cY (gW (ae (dCB qN (ae (ai 3) (aB))) (ae (dC (.d .none)) (ae (dS "rows") (ae (dI 5) (ae (tN) (ae (dC (.d (.bool true))) (aB)))))))) (bf av (ae (ai 0) (ae (dI 6) (aB))))))
   (cf)) <|
  bp (cB (bf av (ae (ai 0) (ae (dOp dq (dCB fT (ae (ai 3) (aB))) (dI 1)) (aB)))) (gN 5)) <|
  bp (cB (dOp cY (rj (ai 3) (gW (ae (ai 2) (aB)))) (bf av (ae (ai 0) (ae (dOp dq (dCB fT (ae (ai 3) (aB))) (dI 1)) (aB))))) (gN 6)) <|
  bp (dIf (dOr (mN (aZ (dCB d4 (ae (ai 6) (ae (dC (.t "tuple")) (aB)))))) (aZ (dOp xW (dCB fT (ae (ai 6) (aB))) (dCB fT (ae (ai 2) (aB))))))
   (cB (ai 2) (gN 6))
   (cf)) <|
  bp (dIf (aZ (dOp ahc (ai 4) (dI 5)))
   (de (rj (rj (dSl (ai 3) (aK) (bE (ai 5))) (gW (ae (bf bF (ae (ai 0) (ae (ai 6) (aB)))) (aB)))) (dSl (ai 3) (bE (dOp dq (ai 5) (dOp eV (ai 4) (dI 2)))) (aK))))
   (cf)) <|
  bp (dIf (aZ (dOp ee (ai 4) (dI 5)))
   (de (rj (rj (dSl (ai 3) (aK) (bE (ai 5))) (gW (ae (ai 6) (aB)))) (dSl (ai 3) (bE (ai 5)) (aK))))
   (cf)) <|
  bp (dIf (aZ (dOp ee (ai 4) (dI 6)))
   (de (rj (ai 3) (dLC (dJ (dS "nopqrstu")) (gN 0) (rm) (dOp bP (dF (ae (dOp dq (ai 0) (dS "z")) (aB))) (dSl (ai 1) (bE (dI 1)) (aK))) 1 [2])))
   (cf)) <|
  de (rj (dSl (ai 3) (bE (ai 5)) (aK)) (dSl (ai 3) (aK) (bE (ai 5))))
abbrev j3:List Str:=["self", "at"]
abbrev pB:List Str:=["thing"]
def pM:TSd:=
  bp (dIf (dOr (mN (aZ (dCB d4 (ae (ai 0) (ae (dC (.t "str")) (aB)))))) (mN (aZ (g9 vd vd (dI 1) (dCB fT (ae (ai 0) (aB))) (dI 8)))))
   (de (dC (.d (.bool false))))
   (cf)) <|
  de (dCB adz (ae (dLC (dJ (ai 0)) (gN 0) (rm) (g9 vd vd (dS "a") (ai 0) (dS "z")) 1 []) (aB)))
abbrev mB:List Str:=["thing"]
def mH:TSd:=
  de (j0 (dCB d4 (ae (ai 0) (ae (dC (.t "int")) (aB)))) (aa8 (dCB d4 (ae (ai 0) (ae (dC (.t "bool")) (aB))))))
abbrev lG:List Str:=["thing", "low", "high"]
def lI(cU:SpD):TSd:=
  de (j0 (bf cU (ae (ai 0) (aB))) (g9 vd vd (ai 1) (ai 0) (ai 2)))
abbrev gc:List Str:=["row", "least"]
def gf(bS:SpD)(bx:SpD):TSd:=
  de (j0 (dCB d4 (ae (ai 0) (ae (dC (.t "tuple")) (aB)))) (j0 (dOp ee (dCB fT (ae (ai 0) (aB))) (dI 2)) (j0 (bf bS (ae (dOp cY (ai 0) (dI 0)) (aB))) (bf bx (ae (dOp cY (ai 0) (dI 1)) (ae (ai 1) (ae (dI 6) (aB))))))))
abbrev gu:List Str:=["berths", "least", "at", "row"]
def gD(Ex:XE)(bq:SpD):TSd:=
  bp (dIf (mN (aZ (dCB d4 (ae (ai 0) (ae (dC (.t "list")) (aB))))))
   (mV aw ["at"] Ex (ae (dI 0) (aB)))
   (cf)) <|
  ou (aaA (ae (ai 0) (aB))) (gT 2 (bQ (gN 2) (bQ (gN 3) (jn))))
   (dIf (dOr (aZ (dOp agP (ai 2) (dI 8))) (dOr (mN (aZ (bf bq (ae (ai 3) (ae (ai 1) (aB)))))) (yY (aZ (dOp abV (ai 2) (dI 0))) (aZ (dOp vd (dOp cY (ai 3) (dI 0)) (dOp cY (dOp cY (ai 0) (dOp xr (ai 2) (dI 1))) (dI 0)))))))
    (mV aw ["at"] Ex (ae (ai 2) (aB)))
    (cf))
abbrev lu:List Str:=["self", "at"]
abbrev ig:List Str:=["row"]
def hZ(bS:SpD)(bx:SpD):TSd:=
  bp (dIf (dOr (mN (aZ (dCB d4 (ae (ai 0) (ae (dC (.t "tuple")) (aB)))))) (aZ (dOp xW (dCB fT (ae (ai 0) (aB))) (dI 3))))
   (de (dC (.d (.bool false))))
   (cf)) <|
  de (j0 (bf bS (ae (dOp cY (ai 0) (dI 0)) (aB))) (j0 (bf bS (ae (dOp cY (ai 0) (dI 1)) (aB))) (bf bx (ae (dOp cY (ai 0) (dI 2)) (ae (dI 0) (ae (dI 6) (aB)))))))
abbrev ie:List Str:=["asked", "at", "row"]
def hV(Ex:XE)(bK:SpD):TSd:=
  bp (dIf (mN (aZ (dCB d4 (ae (ai 0) (ae (dC (.t "list")) (aB))))))
   (mV aA ["at"] Ex (ae (dI 0) (aB)))
   (cf)) <|
  ou (aaA (ae (ai 0) (aB))) (gT 2 (bQ (gN 1) (bQ (gN 2) (jn))))
   (dIf (dOr (aZ (dOp agP (ai 1) (dI 8))) (dOr (mN (aZ (bf bK (ae (ai 2) (aB))))) (aZ (dOp (aav false) (dOp cY (ai 2) (dI 0)) (dLC (dJ (dSl (ai 0) (aK) (bE (ai 1)))) (gN 0) (rm) (dOp cY (ai 0) (dI 0)) 1 [])))))
    (mV aA ["at"] Ex (ae (ai 1) (aB)))
    (cf))
abbrev g7:List Str:=["berths", "asked"]
def hJ(Ex:XE)(bw:SpX)(bJ:SpX):TSd:=
  bp (iu (vL bw 0 Ex (ae (ai 0) (aB)))) <|
  iu (fX bJ Ex (ae (ai 1) (aB)))
abbrev m8:List Str:=["berths", "asked"]
def mx(Ex:XE)(au:SpX)(aM:SpD)(aE:SpD)(aT:SpD):TSd:=
  bp (iu (fX au Ex (ae (ai 0) (ae (ai 1) (aB))))) <|
  de (bf aM (ae (bf aE (ae (ai 0) (aB))) (ae (bf aT (ae (ai 1) (aB))) (aB))))
abbrev pF:List Str:=["berths", "asked"]
def o7(Ex:XE)(au:SpX)(bT:SpD)(aE:SpD):TSd:=
  bp (iu (fX au Ex (ae (ai 0) (ae (ai 1) (aB))))) <|
  de (ahq (dJ (lL (bf bT (ae (bf aE (ae (ai 0) (aB))) (ae (ai 1) (aB)))))) (gT 3 (bQ (gN 0) (bQ (gN 1) (bQ (gN 2) (jn))))) (rm) (dF (ae (ai 0) (ae (ai 2) (aB)))) 3 [])
abbrev gZ:List Str:=["rooms", "asked", "ran", "demands", "shortages", "wish", "kind", "copies", "same", "alike", "run"]
def ib(a6:SpD)(aM:SpD):TSd:=
  bp (cB (n4) (gN 3)) <|
  bp (cB (gy (aB)) (gN 4)) <|
  bp (ou (ai1 (ae (ai 1) (ae (ai 2) (aB)))) (gT 2 (bQ (gT 3 (bQ (gN 5) (bQ (gN 6) (bQ (gN 7) (jn))))) (bQ (gT 3 (bQ (gN 8) (bQ (gN 9) (bQ (gN 10) (jn))))) (jn))))
   (bp (cB (bf a6 (ae (ai 3) (ae (ai 6) (ae (ai 10) (aB))))) (gN 3)) <|
   iu (gv (ai 4) (aix (aZ (dOp ee (ai 10) (ai 7))) (dC (.d .none)) (bf aM (ae (ai 0) (ae (bf a6 (ae (ai 3) (ae (ai 6) (ae (dI 1) (aB))))) (aB)))))))) <|
  de (ai 4)
abbrev mO:List Str:=["berths", "asked", "at", "rooms"]
def nc(Ex:XE)(au:SpX)(aE:SpD)(bG:SpD)(bT:SpD):TSd:=
  bp (iu (fX au Ex (ae (ai 0) (ae (ai 1) (aB))))) <|
  bp (cB (bf aE (ae (ai 0) (aB))) (gN 3)) <|
  de (dOp cY (lL (bf bG (ae (ai 3) (ae (ai 1) (ae (lL (bf bT (ae (ai 3) (ae (ai 1) (aB))))) (aB)))))) (ai 2))
abbrev wQ:List Str:=["berths", "asked", "demands", "rooms", "fallen", "short"]
def xX(Ex:XE)(au:SpX)(aT:SpD)(aE:SpD)(aM:SpD):TSd:=
  bp (iu (fX au Ex (ae (ai 0) (ae (ai 1) (aB))))) <|
  bp (cB (bf aT (ae (ai 1) (aB))) (gN 2)) <|
  bp (cB (lL (yn (bf aE (ae (ai 0) (aB))))) (gN 3)) <|
  bp (dIf (aZ (dOp (pI true) (bf aM (ae (ai 3) (ae (ai 2) (aB)))) (dC (.d .none))))
   (de (dC (.d .none)))
   (cf)) <|
  bp (ou (nE (ae (dCB fT (ae (ai 3) (aB))) (aB))) (gN 4)
   (bp (cB (bf aM (ae (dSl (ai 3) (bE (dOp dq (ai 4) (dI 1))) (aK)) (ae (ai 2) (aB)))) (gN 5)) <|
   dIf (aZ (dOp (pI true) (ai 5) (dC (.d .none))))
    (de (dF (ae (ai 4) (ae (ai 5) (aB)))))
    (cf))) <|
  de (dF (ae (dCB fT (ae (ai 3) (aB))) (ae (dC (.d .none)) (aB))))
abbrev nq:List Str:=["self", "first", "demanded", "room"]
abbrev f9:List Str:=["numbers"]
abbrev cJ:Str:=(("greatest_first" : Str) ++ ".<locals>." ++ "<lambda>")
def gb:TSd:=
  de (yu aP cJ ⟨122,31,122,66⟩ (ai 0) (dF (ae (dUn gR (yZ (ai 1) (ai 0))) (ae (ai 0) (aB)))) [0])
abbrev tD:List Str:=["berths", "asked", "demands", "short", "first", "demanded", "room", "left", "laid", "kind", "chosen", "machine"]
def tL(Ex:XE)(au:SpX)(aT:SpD)(aM:SpD)(aE:SpD)(bh:SpD):TSd:=
  bp (iu (fX au Ex (ae (ai 0) (ae (ai 1) (aB))))) <|
  bp (cB (bf aT (ae (ai 1) (aB))) (gN 2)) <|
  bp (cB (bf aM (ae (bf aE (ae (ai 0) (aB))) (ae (ai 2) (aB)))) (gN 3)) <|
  bp (dIf (aZ (dOp (pI true) (ai 3) (dC (.d .none))))
   (bp (cB (ai 3) (gT 3 (bQ (gN 4) (bQ (gN 5) (bQ (gN 6) (jn)))))) <|
   mV aC ["first", "demanded", "room"] Ex (ae (ai 4) (ae (ai 5) (ae (ai 6) (aB)))))
   (cf)) <|
  bp (cB (dCB uf (ae (ai 0) (aB))) (gN 7)) <|
  bp (yV (cB (dDC (yj (ai 7)) (gN 0) (rm) (ai 0) (gy (aB)) 1 []) (gN 8))) <|
  bp (ou (dJ (lL (bf bh (ae (ai 2) (aB))))) (gN 9)
   (bp (cB (dSl (lL (bf bh (ae (ai 7) (aB)))) (aK) (bE (yZ (ai 2) (ai 9)))) (gN 10)) <|
   ou (dJ (ai 10)) (gN 11)
    (bp (iu (gv (yZ (ai 8) (ai 11)) (ai 9))) <|
    afM (ai 7) (ai 11) (dI 1) (λ i j=>i-j)))) <|
  de (agX (xJ (dDC (rJ (ai 8)) (gT 2 (bQ (gN 0) (bQ (gN 1) (jn)))) (rm) (ai 0) (dCB xC (ae (ai 1) (aB))) 2 [])))
abbrev jK:List Str:=["_law_door", "_law_berths_here", "_law_asked_here", "_law_found", "e", "_law_kinds"]
def jH(cT:SpX)(dw:SpX)(cQ:SpX)(fk:SpX)(d9:SpX):TSd:=
  bp (ah1 (λ Ex =>
   dIf (aZ (dOp ee (ai 0) (dI 0)))
    (cB (fX cT Ex (ae (ai 1) (ae (ai 2) (aB)))) (gN 3))
    (dIf (aZ (dOp ee (ai 0) (dI 1)))
     (cB (fX dw Ex (ae (ai 1) (ae (ai 2) (aB)))) (gN 3))
     (dIf (aZ (dOp ee (ai 0) (dI 2)))
      (cB (fX cQ Ex (ae (ai 1) (ae (ai 2) (ae (dI 0) (aB))))) (gN 3))
      (dIf (aZ (dOp ee (ai 0) (dI 4)))
       (cB (fX fk Ex (ae (ai 1) (ae (ai 2) (aB)))) (gN 3))
       (cB (fX d9 Ex (ae (ai 1) (ae (ai 2) (aB)))) (gN 3)))))) (adg (zk [(aw,true),(aA,true),(aC,true)]) 4
   (bp (cB (gW (ae (ab8 (zk [(aw,true),(aA,false),(aC,false)]) (ai 4)) (ae (ab8 (zk [(aw,false),(aA,true),(aC,false)]) (ai 4)) (ae (ab8 (zk [(aw,false),(aA,false),(aC,true)]) (ai 4)) (aB))))) (gN 5)) <|
    bp (dIf (aZ (dOp ee (ai 5) (gW (ae (dC (.d (.bool true))) (ae (dC (.d (.bool false))) (ae (dC (.d (.bool false))) (aB)))))))
     (de (dF (ae (dS "berths") (ae (aaU [aw,aA] (ai 4) "at") (aB)))))
     (cf)) <|
    bp (dIf (aZ (dOp ee (ai 5) (gW (ae (dC (.d (.bool false))) (ae (dC (.d (.bool true))) (ae (dC (.d (.bool false))) (aB)))))))
     (de (dF (ae (dS "asked") (ae (aaU [aw,aA] (ai 4) "at") (aB)))))
     (cf)) <|
    de (dF (ae (dOp cY (gW (ae (dS "other") (ae (dS "no room") (aB)))) (dCB ad5 (ae (j0 (ab8 (zk [(aw,false),(aA,false),(aC,true)]) (ai 4)) (dOp ee (ai 0) (dI 3))) (aB)))) (ae (dI 0) (aB))))) (λ _ _ _ _=>False))) <|
  de (dF (ae (dS "told") (ae (dI 0) (aB))))
abbrev jY:List Str:=["_law_thing"]
def jS:TSd:=
  de (j0 (dCB d4 (ae (ai 0) (ae (dC (.t "int")) (aB)))) (j0 (aa8 (dCB d4 (ae (ai 0) (ae (dC (.t "bool")) (aB))))) (g9 vd vd (dI 0) (ai 0) (dI 6))))
abbrev lN:List Str:=["_law_thing"]
def kL:TSd:=
  bp (dIf (dOr (mN (aZ (dCB d4 (ae (ai 0) (ae (dC (.t "str")) (aB)))))) (mN (aZ (g9 vd vd (dI 1) (dCB fT (ae (ai 0) (aB))) (dI 8)))))
   (de (dC (.d (.bool false))))
   (cf)) <|
  de (dOp aa3 (dLC (dJ (ai 0)) (gN 0) (aZ (dOp abd (ai 0) (dS "abcdefghijklmnopqrstuvwxyz"))) (ai 0) 1 []) (gW (aB)))
abbrev qW:List Str:=["_law_rows", "_law_size", "_law_at", "_law_row"]
def pY(cv:SpD)(cD:SpD):TSd:=
  bp (dIf (mN (aZ (dCB d4 (ae (ai 0) (ae (dC (.t "list")) (aB))))))
   (de (dI 0))
   (cf)) <|
  bp (ou (nE (ae (dCB fT (ae (ai 0) (aB))) (aB))) (gN 2)
   (bp (cB (dOp cY (ai 0) (ai 2)) (gN 3)) <|
   bp (dIf (dOr (aZ (dOp ee (ai 2) (dI 8))) (dOr (mN (aZ (dCB d4 (ae (ai 3) (ae (dC (.t "tuple")) (aB)))))) (dOr (aZ (dOp xW (dCB fT (ae (ai 3) (aB))) (ai 1))) (mN (aZ (bf cv (ae (dOp cY (ai 3) (dUn gR (dI 1))) (aB))))))))
    (de (ai 2))
    (cf)) <|
   bp (dIf (mN (aZ (dCB adz (ae (dLC (dJ (dSl (ai 3) (aK) (bE (dUn gR (dI 1))))) (gN 0) (rm) (bf cD (ae (ai 0) (aB))) 1 []) (aB)))))
    (de (ai 2))
    (cf)) <|
   bp (dIf (yY (aZ (dOp ee (ai 1) (dI 2))) (yY (aZ (dOp abV (ai 2) (dI 0))) (aZ (dOp vd (dOp cY (ai 3) (dI 0)) (dOp cY (dOp cY (ai 0) (dOp xr (ai 2) (dI 1))) (dI 0))))))
    (de (ai 2))
    (cf)) <|
   dIf (yY (aZ (dOp ee (ai 1) (dI 3))) (aZ (dOp (aav false) (dOp cY (ai 3) (dI 0)) (dLC (dJ (dSl (ai 0) (aK) (bE (ai 2)))) (gN 0) (rm) (dOp cY (ai 0) (dI 0)) 1 []))))
    (de (ai 2))
    (cf))) <|
  de (dC (.d .none))
abbrev qJ:List Str:=["_law_door", "_law_berths_here", "_law_asked_here", "_law_kept", "_law_found", "_law_one", "_law_two"]
def pU(cu:SpD)(cW:SpD):TSd:=
  bp (cB (dCB rZ (ae (gW (ae (ai 1) (ae (ai 2) (aB)))) (aB))) (gN 3)) <|
  bp (cB (bf cu (ae (ai 0) (ae (ai 1) (ae (ai 2) (aB))))) (gN 4)) <|
  bp (dIf (aZ (dOp xW (dCB rZ (ae (gW (ae (ai 1) (ae (ai 2) (aB)))) (aB))) (ai 3)))
   (de (dC (.d (.bool false))))
   (cf)) <|
  bp (ahg 5 6 (ae (bf cW (ae (ai 1) (ae (dI 2) (aB)))) (ae (bf cW (ae (ai 2) (ae (dI 3) (aB)))) (aB)))) <|
  bp (dIf (aZ (dOp (pI true) (ai 5) (dC (.d .none))))
   (de (dOp ee (ai 4) (dF (ae (dS "berths") (ae (ai 5) (aB))))))
   (cf)) <|
  bp (dIf (aZ (dOp (pI true) (ai 6) (dC (.d .none))))
   (de (dOp ee (ai 4) (dF (ae (dS "asked") (ae (ai 6) (aB))))))
   (cf)) <|
  de (dOp (agj false) (ai 4) (gW (ae (dF (ae (dS "told") (ae (dI 0) (aB)))) (ae (dF (ae (dS "no room") (ae (dI 0) (aB)))) (aB)))))
abbrev afw:List Str:=["_law_script", "_law_bag_here", "_law_k", "_law_berths_here", "_law_asked_here", "_law_pick", "_law_odd", "_law_handed", "_law_door", "_law_turn"]
def af4(fc:SpD)(cS:SpD)(du:SpD)(av:SpD)(cq:SpD)(a9:SpD):TSd:=
  bp (cB (bf fc (ae (ai 0) (aB))) (gN 1)) <|
  bp (ou (nE (ae (dI 6) (aB))) (gN 2)
   (bp (ahg 3 4 (ae (bf cS (ae (ai 1) (ae (dI 8) (ae (dI 6) (aB))))) (ae (rj (bf du (ae (ai 1) (ae (dI 7) (ae (dI 6) (aB))))) (gW (ae (dF (ae (dS "last") (ae (dS "k") (ae (dI 1) (aB))))) (aB)))) (aB)))) <|
   bp (cB (bf av (ae (ai 1) (ae (dI 4) (aB)))) (gN 5)) <|
   bp (cB (gy (ae (bf cq (ae (ai 1) (ae (ai 3) (ae (dF (ae (dS "m") (ae (dI 3) (aB)))) (aB))))) (ae (bf cq (ae (ai 1) (ae (ai 4) (ae (dF (ae (dS "w") (ae (dS "side") (ae (dI 2) (aB))))) (aB))))) (aB)))) (gN 6)) <|
   bp (dIf (yY (aZ (dOp ee (ai 5) (dI 3))) (aZ (dCB d4 (ae (dOp cY (ai 6) (dI 0)) (ae (dC (.t "list")) (aB))))))
    (cB (bf cq (ae (ai 1) (ae (dOp cY (ai 6) (dI 0)) (ae (dF (ae (dS "m") (ae (dI 3) (aB)))) (aB))))) (vC (ai 6) (dI 0)))
    (cf)) <|
   bp (dIf (yY (aZ (dOp ee (ai 5) (dI 1))) (aZ (dCB d4 (ae (dOp cY (ai 6) (dI 1)) (ae (dC (.t "list")) (aB))))))
    (cB (bf cq (ae (ai 1) (ae (dOp cY (ai 6) (dI 1)) (ae (dF (ae (dS "w") (ae (dS "side") (ae (dI 2) (aB))))) (aB))))) (vC (ai 6) (dI 1)))
    (cf)) <|
   bp (cB (dOp cY (gy (ae (gW (ae (dOp cY (ai 6) (dI 0)) (ae (ai 4) (aB)))) (ae (gW (ae (ai 3) (ae (dOp cY (ai 6) (dI 1)) (aB)))) (ae (ai 6) (ae (ai 6) (aB)))))) (ai 5)) (gN 7)) <|
   bp (cB (bf av (ae (ai 1) (ae (dI 5) (aB)))) (gN 8)) <|
   bp (dIf (yY (aZ (dOp aa3 (dOp cY (ai 7) (dI 1)) (gW (aB)))) (aZ (dOp ee (ai 8) (dI 2))))
    (cB (dI 1) (gN 8))
    (cf)) <|
   ou (nE (ae (dI 2) (aB))) (gN 9)
    (dIf (dOr (mN (aZ (bf a9 (ae (ai 8) (ae (dOp cY (ai 7) (dI 0)) (ae (dOp cY (ai 7) (dI 1)) (aB))))))) (mN (aZ (bf a9 (ae (ai 8) (ae (ai 3) (ae (ai 4) (aB))))))))
     (de (dC (.d (.bool false))))
     (cf)))) <|
  de (dC (.d (.bool true)))
abbrev kB:List Str:=["_law_bag_here", "_law_many", "_law_cell", "_law_value", "_law_first_here", "_law_second"]
theorem iq:Rd av om kB:=D.iq
def btw(i lo hi:Int):Bool:=decide (lo<=i)&&decide (i<=hi)
def isW:PyData->Bool
 | .str z=>wd z
 | _=>false
def inB(lo hi:Int):PyData->Bool
 | .int i=>btw i lo hi
 | _=>false
def ud:PyData->Bool
 | .int _=>true
 | _=>false
def Sz(d:PyData):Prop:=∀ z,d=.str z->z.length<=1000/\aby z=true
def Rw(d:PyData):Prop:=Sz d/\∀ ds,d=.tuple ds->ds.length<=100/\∀ x∈ds,Sz x
def Rows(d:PyData):Prop:=∀ ds,d=.list ds->ds.length<=100/\∀ x∈ds,Rw x
def cU:SpD:=λ ws M Q=>∃ d,ws=[.d d]/\Q (.d (.bool (ud d))) M
theorem qT:Ln cU 1:=by rintro ws M Q ⟨d,rfl,_⟩;rfl
theorem afV(d:PyData):(lX d "int" && !lX d "bool")=ud d/\(lX d "int" = true->(!lX d "bool")=ud d):=by cases d<;>simp[lX,tyD,ud]
theorem nN:Rd cU mH mB:=by
 rintro ws M Q ⟨d,rfl,k⟩;refine⟨_,rfl,_,_,_,rfl,.d,.int,_,rfl,?_⟩;obtain⟨h1,h2⟩:=afV d;cases hq:lX d "int" with
 | false =>
  rw[hq,Bool.false_and] at h1;rw[<- h1] at k;exact je k
 | true =>
  rw[<- h2 hq] at k;exact iL ⟨_,rfl,_,_,_,rfl,.d,.bool,_,rfl,k⟩
def bx:SpD:=λ ws M Q=>∃ (d:PyData) (lo hi:Int),ws=[.d d,.d (.int lo),.d (.int hi)]/\Q (.d (.bool (inB lo hi d))) M
theorem nu:Ln bx 3:=by rintro ws M Q ⟨i,lo,hi,rfl,_⟩;rfl
theorem ma:Rd bx (lI cU) lG:=by
 rintro ws M Q ⟨d,lo,hi,rfl,k⟩;refine⟨_,rfl,d,rfl,_,rfl,?_⟩;cases d with
 | int i =>
  refine iL ⟨_,rfl,_,rfl,.inl ⟨_,_,rfl,rfl,_,rfl,?_⟩⟩;have k':Q (.d (.bool (btw i lo hi))) M:=k;unfold btw at k'
  by_cases h:lo<=i
  ·rw[decide_eq_true h] at k' ⊢;exact iL ⟨_,rfl,.inl ⟨_,_,rfl,rfl,k'⟩⟩
  ·rw[decide_eq_false h] at k' ⊢;exact je k'
 | _=>exact je k
def bS:SpD:=λ ws M Q=>∃ d,ws=[.d d]/\Sz d/\Q (.d (.bool (isW d))) M
theorem sD:Ln bS 1:=by rintro ws M Q ⟨d,rfl,_⟩;rfl
theorem ahK(c:Nat):(!decide ((⟨#[c]⟩:Str).cps.toList<("a" : Str).cps.toList))=decide (97<=c)/\(!decide (("z" : Str).cps.toList<(⟨#[c]⟩:Str).cps.toList))=decide (c<=122):=by
 have ea:("a" : Str).cps.toList=[97]:=by decide +kernel
 have ez:("z" : Str).cps.toList=[122]:=by decide +kernel
 have ec:(⟨#[c]⟩:Str).cps.toList=[c]:=rfl;rw[ea,ez,ec,lt1,lt1];constructor
 ·by_cases h:c<97
  ·rw[decide_eq_true h,decide_eq_false (by omega)];rfl
  ·rw[decide_eq_false h,decide_eq_true (by omega)];rfl
 ·by_cases h:122<c
  ·rw[decide_eq_true h,decide_eq_false (by omega)];rfl
  ·rw[decide_eq_false h,decide_eq_true (by omega)];rfl
theorem aaT{z:Str}(h:¬ (1<=z.length/\z.length<=8)):wd z=false:=by
 unfold wd
 by_cases h1:1<=z.length
 ·rw[decide_eq_false (show ¬ z.length<=8 from λ h2=>h ⟨h1,h2⟩)];simp
 ·rw[decide_eq_false h1];simp
theorem oU:Rd bS pM pB:=by
 rintro ws M Q ⟨d,rfl,hf,k⟩;have s16':=s16;refine⟨_,rfl,_,_,_,rfl,.d,.str,_,rfl,?_⟩;cases d with
 | str z =>
  obtain⟨hl,_⟩:=hf z rfl;have hfit:vw (.d (.str z))=true:=decide_eq_true (by omega);have k':Q (.d (.bool (wd z))) M:=k;refine cN (by rw[afs];rfl) ⟨_,rfl,_,_,rfl,rfl,hfit,.inl ⟨_,_,rfl,rfl,_,rfl,?_⟩⟩
  by_cases h1:1<=z.length
  ·refine cL (decide_eq_true (show(1:Int)<=(z.length:Nat) by omega)) (.inl ⟨_,_,rfl,rfl,_,rfl,?_⟩)
   by_cases h2:z.length<=8
   ·refine cN (by rw[decide_eq_true (show((z.length:Nat):Int)<=8 by omega)];rfl) ⟨_,rfl,_,rfl,?_⟩;dsimp only;refine gA z.cps.toList (λ c=>W.d (.str ⟨#[c]⟩)) (λ c=>.bool (eE c)) (λ τ=>∃ x,τ=[x]) (by rw[str_len];omega) ⟨_,rfl⟩ (λ c hc τ hτ R h=>?_) (λ τ=>?_)
    ·obtain⟨x,rfl⟩:=hτ;obtain⟨q1,q2⟩:=ahK c;have go:=h [some (.d (.str ⟨#[c]⟩))] ⟨_,rfl⟩;unfold eE at go;refine⟨_,rfl,.inr ⟨_,_,rfl,rfl,_,rfl,?_⟩⟩;refine d3 (λ h0=>?_) (λ h0=>?_)
     ·rw[q1.symm.trans h0,Bool.true_and,<- q2] at go;exact .inr ⟨_,_,rfl,rfl,_,rfl,go⟩
     ·rw[q1.symm.trans h0,Bool.false_and] at go;exact⟨_,rfl,go⟩
    ·refine⟨z.cps.toList.map eE,by rw[List.map_map];rfl,?_⟩;have e:wd z=(z.cps.toList.map eE).all id:=by
      unfold wd;rw[decide_eq_true h1,decide_eq_true h2,List.all_map];rfl
     rw[e] at k';exact k'
   ·rw[aaT λ h=>h2 h.2] at k';exact cL (by rw[decide_eq_false (show ¬ ((z.length:Nat):Int)<=8 by omega)];rfl) k'
  ·rw[aaT λ h=>h1 h.1] at k';refine cN (decide_eq_false (show ¬ (1:Int)<=(z.length:Nat) by omega)) ?_;exact⟨_,rfl,cL rfl k'⟩
 | _=>exact cL rfl k
def mrB:PyData->Bool
 | .tuple [d,e]=>isW d&&inB 0 6 e
 | _=>false
def arB:PyData->Bool
 | .tuple [d,e,f]=>isW d&&(isW e&&inB 0 6 f)
 | _=>false
def bq:SpD:=λ ws M Q=>∃ d,ws=[.d d,.d (.int 0)]/\Rw d/\Q (.d (.bool (mrB d))) M
theorem i9:Ln bq 2:=by rintro ws M Q ⟨d,rfl,_⟩;rfl
theorem iw:Rd bq (gf bS bx) gc:=by
 rintro ws M Q ⟨d,rfl,hf,k⟩;refine⟨_,rfl,_,_,_,rfl,.d,.tuple,_,rfl,?_⟩;cases d with
 | tuple ds =>
  obtain⟨_,hx⟩:=hf.2 ds rfl;refine cL (aaV ds) ⟨_,rfl,_,_,rfl,rfl,rfl,_,_,.d,.d,rfl,_,rfl,?_⟩;rw[bL]
  match ds,hx with
  | [d,e],hx =>
   have k':Q (.d (.bool (isW d&&inB 0 6 e))) M:=k;refine cL (decide_eq_true rfl) ⟨_,rfl,0,_,rfl,rfl,rfl,d,rfl,hx d (by simp),_,rfl,?_⟩;cases hw:isW d with
   | true =>
    rw[hw,Bool.true_and] at k';exact iL ⟨_,rfl,1,_,rfl,rfl,rfl,_,rfl,e,0,6,rfl,k'⟩
   | false =>
    rw[hw,Bool.false_and] at k';exact je k'
  | [],_=>exact cN (decide_eq_false (by simp)) k
  | [_],_=>exact cN (decide_eq_false (by simp)) k
  | _::_::_::l,_=>exact cN (decide_eq_false (by simp;omega)) k
 | _=>exact cN rfl k
def bK:SpD:=λ ws M Q=>∃ d,ws=[.d d]/\Rw d/\Q (.d (.bool (arB d))) M
theorem j7:Ln bK 1:=by rintro ws M Q ⟨d,rfl,_⟩;rfl
theorem jj:Rd bK (hZ bS bx) ig:=by
 rintro ws M Q ⟨d,rfl,hf,k⟩;refine⟨_,rfl,_,_,_,rfl,.d,.tuple,_,rfl,?_⟩;cases d with
 | tuple ds =>
  obtain⟨_,hx⟩:=hf.2 ds rfl;refine cN (by rw[aaV];rfl) ⟨_,rfl,_,_,rfl,rfl,rfl,_,_,.d,.d,rfl,_,rfl,?_⟩;rw[bL]
  match ds,hx with
  | [d,e,f],hx =>
   have k':Q (.d (.bool (isW d&&(isW e&&inB 0 6 f)))) M:=k;refine cN (by rw[decide_eq_true (show(([d,e,f].length:Nat):Int)=3 from rfl)];rfl) ⟨_,rfl,0,_,rfl,rfl,rfl,d,rfl,hx d (by simp),_,rfl,?_⟩;cases hw:isW d with
   | true =>
    rw[hw,Bool.true_and] at k';refine iL ⟨_,rfl,1,_,rfl,rfl,rfl,e,rfl,hx e (by simp),_,rfl,?_⟩;cases hw2:isW e with
    | true =>
     rw[hw2,Bool.true_and] at k';exact iL ⟨_,rfl,2,_,rfl,rfl,rfl,f,0,6,rfl,k'⟩
    | false =>
     rw[hw2,Bool.false_and] at k';exact je k'
   | false =>
    rw[hw,Bool.false_and] at k';exact je k'
  | [],_=>exact cL (by rw[decide_eq_false (by simp)];rfl) k
  | [_],_=>exact cL (by rw[decide_eq_false (by simp)];rfl) k
  | [_,_],_=>exact cL (by rw[decide_eq_false (by simp)];rfl) k
  | _::_::_::_::l,_=>exact cL (by rw[decide_eq_false (by simp;omega)];rfl) k
 | _=>exact cL rfl k
def nm:PyData->Str
 | .tuple (.str z::_)=>z
 | _ => ""
theorem xH{d:PyData}(h:isW d=true):∃ z,d=.str z/\wd z=true:=by
 cases d with
 | str z=>exact⟨z,rfl,h⟩
 | _=>cases h
theorem abv{lo hi:Int}{d:PyData}(h:inB lo hi d=true):∃ i,d=.int i/\lo<=i/\i<=hi:=by
 cases d with
 | int i =>
  simp only[inB,btw,Bool.and_eq_true,decide_eq_true_eq] at h;exact⟨i,rfl,h.1,h.2⟩
 | _=>cases h
theorem vN{d:PyData}(h:mrB d=true):∃ z i,d=.tuple [.str z,.int i]/\wd z=true/\0<=i/\i<=6:=by
 cases d with
 | tuple ds =>
  match ds,h with
  | [d,e],h =>
   simp only[mrB,Bool.and_eq_true] at h;obtain⟨z,rfl,hz⟩:=xH h.1;obtain⟨i,rfl,i0,i1⟩:=abv h.2;exact⟨z,i,rfl,hz,i0,i1⟩
  | [],h=>cases h
  | [_],h=>cases h
  | _::_::_::_,h=>cases h
 | _=>cases h
theorem zJ{d:PyData}(h:arB d=true):∃ z y i,d=.tuple [.str z,.str y,.int i]/\wd z=true/\wd y=true/\0<=i/\i<=6:=by
 cases d with
 | tuple ds =>
  match ds,h with
  | [d,e,f],h =>
   simp only[arB,Bool.and_eq_true] at h;obtain⟨z,rfl,hz⟩:=xH h.1;obtain⟨y,rfl,hy⟩:=xH h.2.1;obtain⟨i,rfl,i0,i1⟩:=abv h.2.2;exact⟨z,y,i,rfl,hz,hy,i0,i1⟩
  | [],h=>cases h
  | [_],h=>cases h
  | [_,_],h=>cases h
  | _::_::_::_::_,h=>cases h
 | _=>cases h
def leB(a b:PyData):Bool:=!decide ((nm b).cps.toList<(nm a).cps.toList)
def at0(rows:List PyData)(i:Nat):PyData:=rows.getD i .none
def q0(rows:List PyData)(i:Nat):Bool:=decide (8<=i) || (!mrB (at0 rows i) || (decide (0<i)&&leB (at0 rows i) (at0 rows (i-1))))
def rN(rows:List PyData)(i:Nat):Bool:=decide (8<=i) || (!arB (at0 rows i) || decide (nm (at0 rows i)∈(rows.take i).map nm))
def zp(bad:Nat->Bool)(n:Nat):Option Nat:=(List.range n).find? bad
def fB:PyData->Option Nat
 | .list rows=>zp (q0 rows) rows.length
 | _=>some 0
def fA:PyData->Option Nat
 | .list rows=>zp (rN rows) rows.length
 | _=>some 0
theorem rH{bad:Nat->Bool}{n i:Nat}(hi:i<n)(h:∀ j<i,bad j=false)(hb:bad i=true):zp bad n=some i:=by
 unfold zp;have e:List.range n=List.range i++(i::(List.range' (i+1) (n-i-1))):=by
  rw[List.range_eq_range',List.range_eq_range'];have:n=i+(1+(n-i-1)):=by omega
  conv=>lhs;rw[this]
  rw[<- List.range'_append_1,Nat.zero_add,<- List.range'_append_1];rfl
 rw[e,List.find?_append,List.find?_eq_none.mpr λ j hj=>by rw[h j (List.mem_range.mp hj)];decide];simp[List.find?_cons,hb]
theorem lO{bad:Nat->Bool}{n:Nat}(h:∀ j<n,bad j=false):zp bad n=none:=by
 unfold zp;exact List.find?_eq_none.mpr λ j hj=>by rw[h j (List.mem_range.mp hj)];decide
theorem tU{bad:Nat->Bool}{n:Nat}(h:zp bad n=none):∀ j<n,bad j=false:=λ j hj=>by
 have:=List.find?_eq_none.mp h j (List.mem_range.mpr hj)
 simpa using this
theorem ua{L:List PyData}{i:Nat}{w:W}(h:(iD L)[i]? =some w):L[i]? =some (at0 L i)/\w=.d (.tuple [.int (i:Nat),at0 L i]):=by
 have h':(iD (L.map id))[i]? =some w:=by rw[List.map_id];exact h
 obtain⟨r,hr,e⟩:=aaN h';have er:at0 L i=r:=by simp[at0,List.getD,hr]
 rw[er];exact⟨hr,e⟩
theorem acG{M:MH}{L:List PyData}{i:Nat}{j:Int}(hj:j=(i:Int))(hi:i<L.length):ixW M (.d (.list L)) j=some (.d (at0 L i)):=by
 have h:L[i]? =some (at0 L i):=by simp[at0,List.getD,List.getElem?_eq_getElem hi]
 have:=abG (M:=M) (L:=L) (f:=id) hj h;rw[List.map_id] at this;exact this
theorem yt{L:List PyData}{i:Nat}(hi:i<L.length):at0 L i∈L:=by simp[at0,List.getD,List.getElem?_eq_getElem hi]
def xB(at':Nat):MO:=.exc aw [("at",.d (.int (at':Nat)))]
def xA(at':Nat):MO:=.exc aA [("at",.d (.int (at':Nat)))]
def bw:SpX:=λ ws M Q E=>∃ d0:PyData,ws=[.d d0,.d (.int 0)]/\Rows d0/\(∀ at',fB d0=some at'->∀ a,M a=none->E a (bY M a (xB at')))/\(fB d0=none->Q (.d .none) M)
theorem jx:LnX bw 2:=by rintro ws M Q E ⟨d0,rfl,_⟩;rfl
theorem jd:RdX bw (λ Ex=>gD Ex bq) gu:=by
 rintro ws M Q E ⟨d0,rfl,hR,kx,kq⟩;refine⟨_,rfl,_,_,_,rfl,.d,.list,_,rfl,?_⟩;cases d0 with
 | list rows =>
  obtain⟨hl,hrw⟩:=hR rows rfl;refine cN (by rw[yr];rfl) ⟨_,rfl,_,rfl,?_⟩;refine⟨λ i τ M'=>M'=M/\(∀ j<i,q0 rows j=false)/\∃ x2 x3,τ=[some (.d (.list rows)),some (.d (.int 0)),x2,x3],⟨rfl,λ j h=>by omega,_,_,rfl⟩,?_,?_⟩
  ·rintro i w τ M' hw ⟨rfl,hall,x2,x3,rfl⟩;obtain⟨hr,rfl⟩:=ua hw;have hi:=(List.getElem?_eq_some_iff.mp hr).1;have bad:q0 rows i=true->∀ a,M' a=none->E a (bY M' a (xB i)):=λ h=>kx i (rH hi hall h);have fine:q0 rows i=false->M'=M'/\(∀ j<i+1,q0 rows j=false)/\∃ x2 x3,[some (W.d (.list rows)),some (.d (.int 0)),some (W.d (.int (i:Nat))),some (W.d (at0 rows i))]=[some (.d (.list rows)),some (.d (.int 0)),x2,x3]:=λ h=>⟨rfl,λ j hj=>by
    by_cases e:j=i
    ·rw[e];exact h
    ·exact hall j (by omega),_,_,rfl⟩
   refine⟨_,rfl,rfl,_,_,rfl,_,_,rfl,rfl,?_⟩;refine⟨_,rfl,_,_,rfl,rfl,_,rfl,?_⟩;unfold q0 at bad fine
   by_cases h8:8<=i
   ·rw[decide_eq_true h8] at bad;exact cL (decide_eq_true (show(8:Int)<=(i:Nat) by omega)) (iL ⟨_,rfl,rfl,by simp,bad rfl⟩)
   rw[decide_eq_false h8,Bool.false_or] at bad fine;refine cN (decide_eq_false (show ¬ (8:Int)<=(i:Nat) by omega)) ⟨_,rfl,_,rfl,at0 rows i,rfl,hrw _ (yt hi),_,rfl,?_⟩;cases hm:mrB (at0 rows i) with
   | false =>
    rw[hm] at bad;exact iL (iL ⟨_,rfl,rfl,by simp,bad rfl⟩)
   | true =>
    rw[hm,Bool.not_true,Bool.false_or] at bad fine;refine je ⟨_,rfl,_,_,rfl,rfl,_,rfl,?_⟩
    by_cases h0:0<i
    ·rw[decide_eq_true h0,Bool.true_and] at bad fine;have hj:i-1<rows.length:=by omega
     obtain⟨z,v,ez,_⟩:=vN hm;have hpre:mrB (at0 rows (i-1))=true:=by have:=hall (i-1) (by omega);unfold q0 at this;simp only[Bool.or_eq_false_iff,Bool.not_eq_false'] at this;exact this.2.1
     obtain⟨z',v',ez',_⟩:=vN hpre;have i1:ixW M' (.d (at0 rows i)) 0=some (.d (.str z)):=by rw[ez];rfl
     have i2:ixW M' (.d (.list rows)) (((i:Nat):Int)-1)=some (.d (at0 rows (i-1))):=acG (by omega) hj;have i3:ixW M' (.d (at0 rows (i-1))) 0=some (.d (.str z')):=by rw[ez'];rfl
     have f1:vw (.d (at0 rows i))=true:=by rw[ez];rfl
     have f3:vw (.d (at0 rows (i-1)))=true:=by rw[ez'];rfl
     have el:leB (at0 rows i) (at0 rows (i-1))=!decide (z'.cps.toList<z.cps.toList):=by unfold leB;rw[ez,ez'];rfl
     rw[el] at bad fine;refine cL (decide_eq_true (show(0:Int)<(i:Nat) by omega)) ⟨_,rfl,0,_,rfl,i1,f1,_,rfl,_,rfl,_,_,rfl,rfl,_,_,rfl,i2,rfl,0,_,rfl,i3,f3,.inr ⟨_,_,rfl,rfl,_,rfl,?_⟩⟩;exact d3 (λ h=>⟨_,rfl,rfl,by simp,bad h⟩) (λ h=>fine h)
    ·rw[decide_eq_false h0,Bool.false_and] at fine;exact cN (decide_eq_false (show ¬ (0:Int)<(i:Nat) by omega)) (fine rfl)
  ·rintro τ M' ⟨rfl,hall,x2,x3,rfl⟩;have hn:(iD rows).length=rows.length:=by simp[iD]
   rw[hn] at hall;exact kq (lO hall)
 | _=>exact cL rfl ⟨rfl,by simp,kx 0 rfl⟩
theorem u3{rows:List PyData}{i:Nat}(hi:i<=rows.length)(h:∀ j<i,arB (at0 rows j)=true):(rows.take i).map nm=(rows.take i).map nm/\∀ d∈rows.take i,∃ z y v,d=.tuple [.str z,.str y,.int v]:=⟨rfl,λ d hd=>by
 obtain⟨j,hj,e⟩:=List.mem_iff_getElem.mp hd;have hj':j<i:=by rw[List.length_take] at hj;omega
 have e2:at0 rows j=d:=by rw[<- e];simp[at0,List.getD,List.getElem?_eq_getElem (show j<rows.length by omega)]
 have:=h j hj';rw[e2] at this;obtain⟨z,y,v,rfl,_⟩:=zJ this;exact⟨z,y,v,rfl⟩⟩
theorem lU{α:Type}{xs:List α}{n:Nat}(hn:n<=xs.length):D.cutD xs none (some (n:Int))=xs.take n:=by
 have e3:HT.sIx xs.length xs.length (some (n:Int))=n:=by
  simp only[HT.sIx]
  split<;>omega
 have e4:HT.sIx xs.length 0 none=0:=rfl;simp only[D.cutD,e3,e4];simp
def bJ:SpX:=λ ws M Q E=>∃ d0:PyData,ws=[.d d0]/\Rows d0/\(∀ at',fA d0=some at'->∀ a,M a=none->E a (bY M a (xA at')))/\(fA d0=none->Q (.d .none) M)
theorem ka:LnX bJ 1:=by rintro ws M Q E ⟨d0,rfl,_⟩;rfl
theorem lz{rows:List PyData}{i:Nat}(h:∀ j<i,rN rows j=false):∀ j<i,arB (at0 rows j)=true:=λ j hj=>by have:=h j hj;unfold rN at this;simp only[Bool.or_eq_false_iff,Bool.not_eq_false'] at this;exact this.2.1
theorem uh{rows:List PyData}{i:Nat}{M:MH}{Q:QD}(hl:rows.length<=100)(hi:i<=rows.length)(h:∀ j<i,arB (at0 rows j)=true){z:Str}(k:Q (.d (.bool (decide (z∈(rows.take i).map nm)))) M) :
  ∃ P:Nat->List PyData->DS->MH->Prop,P 0 [] [none] M/\(∀ j w acc τ' M,((rows.take i).map W.d)[j]? =some w->P j acc τ' M->acc.length<sizeLine/\gN 0 w τ' M λ τ2 M2=>rm τ2 M2 λ b M3=>if b=true then dOp cY (ai 0) (dI 0) τ2 M3 λ y M4=>∃ d,y=.d d/\P (j+1) (acc++[d]) τ2 M4 else P (j+1) acc τ2 M3)/\∀ acc τ M,P ((rows.take i).map W.d).length acc τ M->aav false (.d (.str z)) (.d (.list acc)) M Q:=by
 have hn:=(u3 hi h).2;refine gA (rows.take i) W.d (λ d=>.str (nm d)) (λ τ=>∃ x,τ=[x]) (by rw[List.length_take];omega) ⟨_,rfl⟩ (λ d hd τ hτ R hh=>?_) (λ τ=>?_)
 ·obtain⟨x,rfl⟩:=hτ;obtain⟨z,y,v,rfl⟩:=hn d hd;exact⟨_,rfl,0,_,rfl,rfl,rfl,_,rfl,hh _ ⟨_,rfl⟩⟩
 ·refine⟨z,(rows.take i).map nm,rfl,?_,k⟩;have e:gQ ((rows.take i).map nm)=((rows.take i).map λ d=>PyData.str (nm d)).map W.d:=by unfold gQ;rw[List.map_map,List.map_map];rfl
  rw[e];exact .l
theorem jz:RdX bJ (λ Ex=>hV Ex bK) ie:=by
 rintro ws M Q E ⟨d0,rfl,hR,kx,kq⟩;refine⟨_,rfl,_,_,_,rfl,.d,.list,_,rfl,?_⟩;cases d0 with
 | list rows =>
  obtain⟨hl,hrw⟩:=hR rows rfl;refine cN (by rw[yr];rfl) ⟨_,rfl,_,rfl,?_⟩;refine⟨λ i τ M'=>M'=M/\(∀ j<i,rN rows j=false)/\∃ x2 x3,τ=[some (.d (.list rows)),x2,x3],⟨rfl,λ j h=>by omega,_,_,rfl⟩,?_,?_⟩
  ·rintro i w τ M' hw ⟨rfl,hall,x2,x3,rfl⟩;obtain⟨hr,rfl⟩:=ua hw;have hi:=(List.getElem?_eq_some_iff.mp hr).1;have bad:rN rows i=true->∀ a,M' a=none->E a (bY M' a (xA i)):=λ h=>kx i (rH hi hall h);have fine:rN rows i=false->M'=M'/\(∀ j<i+1,rN rows j=false)/\∃ x2 x3,[some (W.d (.list rows)),some (W.d (.int (i:Nat))),some (W.d (at0 rows i))]=[some (.d (.list rows)),x2,x3]:=λ h=>⟨rfl,λ j hj=>by
    by_cases e:j=i
    ·rw[e];exact h
    ·exact hall j (by omega),_,_,rfl⟩
   refine⟨_,rfl,rfl,_,_,rfl,_,_,rfl,rfl,?_⟩;refine⟨_,rfl,_,_,rfl,rfl,_,rfl,?_⟩;unfold rN at bad fine
   by_cases h8:8<=i
   ·rw[decide_eq_true h8] at bad;exact cL (decide_eq_true (show(8:Int)<=(i:Nat) by omega)) (iL ⟨_,rfl,rfl,by simp,bad rfl⟩)
   rw[decide_eq_false h8,Bool.false_or] at bad fine;refine cN (decide_eq_false (show ¬ (8:Int)<=(i:Nat) by omega)) ⟨_,rfl,at0 rows i,rfl,hrw _ (yt hi),_,rfl,?_⟩;cases hm:arB (at0 rows i) with
   | false =>
    rw[hm] at bad;exact iL (iL ⟨_,rfl,rfl,by simp,bad rfl⟩)
   | true =>
    rw[hm,Bool.not_true,Bool.false_or] at bad fine;obtain⟨z,y,v,ez,_⟩:=zJ hm;have i1:ixW M' (.d (at0 rows i)) 0=some (.d (.str z)):=by rw[ez];rfl
    have f1:vw (.d (at0 rows i))=true:=by rw[ez];rfl
    have en:nm (at0 rows i)=z:=by rw[ez];rfl
    rw[en] at bad fine;have hs:slW (.d (.list rows)) none (some ((i:Nat):Int))=some (.d (.list (rows.take i))):=by simp only[slW,lU (show i<=rows.length by omega)]
    refine je ⟨_,rfl,0,_,rfl,i1,f1,_,rfl,_,rfl,_,rfl,_,hs,rfl,_,rfl,?_⟩;dsimp only;refine uh (Q:=_) hl (by omega) (lz hall) ?_;refine⟨_,rfl,?_⟩;exact d3 (λ h=>⟨_,rfl,rfl,by simp,bad h⟩) (λ h=>fine h)
  ·rintro τ M' ⟨rfl,hall,x2,x3,rfl⟩;have hn:(iD rows).length=rows.length:=by simp[iD]
   rw[hn] at hall;exact kq (lO hall)
 | _=>exact cL rfl ⟨rfl,by simp,kx 0 rfl⟩
def au:SpX:=λ ws M Q E=>∃ d1 d2:PyData,ws=[.d d1,.d d2]/\Rows d1/\Rows d2/\(∀ at',fB d1=some at'->∀ a,M a=none->E a (bY M a (xB at')))/\(fB d1=none->∀ at',fA d2=some at'->∀ a,M a=none->E a (bY M a (xA at')))/\(fB d1=none->fA d2=none->Q (.d .none) M)
theorem j6:LnX au 2:=by rintro ws M Q E ⟨d1,d2,rfl,_⟩;rfl
theorem jE:RdX au (λ Ex=>hJ Ex bw bJ) g7:=by
 rintro ws M Q E ⟨d1,d2,rfl,h1,h2,kx,ky,kq⟩;exact⟨_,rfl,d1,rfl,h1,kx,λ hb=>⟨_,rfl,d2,rfl,h2,ky hb,λ ha=>kq hb ha⟩⟩
theorem pg{d:PyData}(h:fB d=none):∃ B:Bs,d=bsD B/\OkB B:=by
 cases d with
 | list rows =>
  have hall:=tU (show zp (q0 rows) rows.length=none from h);have hlen:rows.length<=8:=by
   by_cases q:rows.length<=8
   ·exact q
   ·have:=hall 8 (by omega);simp[q0] at this
  have hmr:∀ j<rows.length,mrB (at0 rows j)=true:=λ j hj=>by have:=hall j hj;unfold q0 at this;simp only[Bool.or_eq_false_iff,Bool.not_eq_false'] at this;exact this.2.1
  have hex:∀ d∈rows,∃ r:Str×Int,d=bD r/\aed r:=λ d hd=>by
   obtain⟨j,hj,e⟩:=List.mem_iff_getElem.mp hd;have:=hmr j hj;have e2:at0 rows j=d:=by rw[<- e];simp[at0,List.getD,List.getElem?_eq_getElem hj]
   rw[e2] at this;obtain⟨z,i,rfl,a,b,c⟩:=vN this;exact⟨(z,i),rfl,a,b,c⟩
  have hB:∃ B:Bs,rows=B.map bD/\∀ r∈B,aed r:=by
   clear hall hlen hmr h
   induction rows with
   | nil=>exact⟨[],rfl,λ _ h=>nomatch h⟩
   | cons d l ih =>
    obtain⟨r,e,hr⟩:=hex d (by simp);obtain⟨B,eB,hB⟩:=ih λ x hx=>hex x (by simp[hx]);exact⟨r::B,by rw[e,eB];rfl,λ x hx=>by rcases List.mem_cons.mp hx with rfl | hx;exact hr;exact hB x hx⟩
  obtain⟨B,rfl,hrow⟩:=hB;rw[List.length_map] at hlen hall;refine⟨B,rfl,hlen,hrow,λ i r s h1 h2=>?_⟩;have hi:=(List.getElem?_eq_some_iff.mp h2).1;have:=hall (i+1) hi;have e1:at0 (B.map bD) (i+1)=bD s:=by simp[at0,List.getD,List.getElem?_map,h2]
  have e2:at0 (B.map bD) (i+1-1)=bD r:=by simp[at0,List.getD,List.getElem?_map,h1]
  unfold q0 at this;rw[e1,e2] at this;simp only[Bool.or_eq_false_iff,Bool.and_eq_false_iff,decide_eq_false_iff_not] at this;have h3:=this.2.2;rcases h3 with h3 | h3
  ·omega
  ·unfold leB at h3;unfold lsS
   simpa [nm,bD] using h3
 | _=>cases h
theorem pV{d:PyData}(h:fA d=none):∃ A:As,d=asD A/\OkA A:=by
 cases d with
 | list rows =>
  have hall:=tU (show zp (rN rows) rows.length=none from h);have hlen:rows.length<=8:=by
   by_cases q:rows.length<=8
   ·exact q
   ·have:=hall 8 (by omega);simp[rN] at this
  have hmr:=lz hall;have hex:∀ d∈rows,∃ r:Str×Str×Int,d=aD r/\aeK r:=λ d hd=>by
   obtain⟨j,hj,e⟩:=List.mem_iff_getElem.mp hd;have:=hmr j hj;have e2:at0 rows j=d:=by rw[<- e];simp[at0,List.getD,List.getElem?_eq_getElem hj]
   rw[e2] at this;obtain⟨z,y,i,rfl,a,b,c,e⟩:=zJ this;exact⟨(z,y,i),rfl,a,b,c,e⟩
  have hA:∃ A:As,rows=A.map aD/\∀ r∈A,aeK r:=by
   clear hall hlen hmr h
   induction rows with
   | nil=>exact⟨[],rfl,λ _ h=>nomatch h⟩
   | cons d l ih =>
    obtain⟨r,e,hr⟩:=hex d (by simp);obtain⟨B,eB,hB⟩:=ih λ x hx=>hex x (by simp[hx]);exact⟨r::B,by rw[e,eB];rfl,λ x hx=>by rcases List.mem_cons.mp hx with rfl | hx;exact hr;exact hB x hx⟩
  obtain⟨A,rfl,hrow⟩:=hA;rw[List.length_map] at hlen hall;refine⟨A,rfl,hlen,hrow,?_⟩;have hne:∀ i r,A[i]? =some r->r.1 ∉ (A.take i).map λ r=>r.1:=λ i r hr=>by
   have hi:=(List.getElem?_eq_some_iff.mp hr).1;have:=hall i hi;have e1:at0 (A.map aD) i=aD r:=by simp[at0,List.getD,List.getElem?_map,hr]
   unfold rN at this;rw[e1] at this;simp only[Bool.or_eq_false_iff,decide_eq_false_iff_not] at this;have h3:=this.2.2;rw[<- List.map_take,List.map_map] at h3;exact h3
  clear hall hlen hmr h hex hrow;rw[List.nodup_iff_pairwise_ne,List.pairwise_iff_getElem];intro i j hi hj hij e;rw[List.length_map] at hi hj;simp only[List.getElem_map] at e;refine hne j A[j] (List.getElem?_eq_getElem hj) ?_;rw[<- e];exact List.mem_map.mpr ⟨A[i],List.mem_of_getElem? (i:=i) (by rw[List.getElem?_take_of_lt hij];exact List.getElem?_eq_getElem hi),rfl⟩
 | _=>cases h
structure sN(d1 d2:PyData)(M:MH)(Q:QD)(E:Addr->MH->Prop):Prop where
 r1:Rows d1
 r2:Rows d2
 xb:∀ at',fB d1=some at'->∀ a,M a=none->E a (bY M a (xB at'))
 xa:fB d1=none->∀ at',fA d2=some at'->∀ a,M a=none->E a (bY M a (xA at'))
 q:fB d1=none->fA d2=none->∀ w M',Ext M M'->Q w M'
def cT:SpX:=λ ws M Q E=>∃ d1 d2:PyData,ws=[.d d1,.d d2]/\sN d1 d2 M Q E
theorem qD:LnX cT 2:=by rintro ws M Q E ⟨d1,d2,rfl,_⟩;rfl
theorem nY:RdX cT (λ Ex=>mx Ex au aM aE aT) m8:=by
 rintro ws M Q E ⟨d1,d2,rfl,h⟩;refine⟨_,rfl,_,rfl,d1,d2,rfl,h.r1,h.r2,h.xb,h.xa,λ hb ha=>?_⟩;have k:=h.q hb ha;obtain⟨B,rfl,hB⟩:=pg hb;obtain⟨A,rfl,hA⟩:=pV ha;exact⟨_,rfl,B,rfl,hB.len,_,rfl,A,rfl,hA.c,λ p M1 hp h1 x1=>⟨rooms B,p,dmd A,rfl,h1,by have:=(vS hA.c).1;omega,hB.r,λ M2 x2=>k _ M2 (x1.trans x2)⟩⟩
def dw:SpX:=λ ws M Q E=>∃ d1 d2:PyData,ws=[.d d1,.d d2]/\sN d1 d2 M Q E
theorem rM:LnX dw 2:=by rintro ws M Q E ⟨d1,d2,rfl,_⟩;rfl
theorem qX:RdX dw (λ Ex=>o7 Ex au bT aE) pF:=by
 rintro ws M Q E ⟨d1,d2,rfl,h⟩;refine⟨_,rfl,_,rfl,d1,d2,rfl,h.r1,h.r2,h.xb,h.xa,λ hb ha=>?_⟩;have k:=h.q hb ha;obtain⟨B,rfl,hB⟩:=pg hb;obtain⟨A,rfl,hA⟩:=pV ha;refine⟨_,rfl,B,rfl,hB.len,_,rfl,rooms B,A,rfl,hB.r,hA.c,λ p M1 hp h1 x1=>⟨p,_,rfl,h1,_,rfl,?_⟩⟩;have x2:Ext M (l9 M1 p):=x1.del hp;generalize l9 M1 p=M2 at x2;have hlen:=(kZ (rs:=rooms B) hA.c A.length (Nat.le_refl _)).2;rw[List.take_length] at hlen;rw[List.map_map];have h8:=hA.len;refine gA (run (rooms B) A).2 (W.d ∘ aD) (λ r=>bD (r.1,r.2.2)) (λ τ=>∃ x y z,τ=[x,y,z]) (by omega) ⟨_,_,_,rfl⟩ (λ r hr τ hτ R h=>?_) (λ τ=>?_)
 ·obtain⟨x,y,z,rfl⟩:=hτ;exact⟨_,rfl,rfl,_,_,rfl,_,_,rfl,_,_,rfl,rfl,_,rfl,_,rfl,_,rfl,few (by simp),_,rfl,h _ ⟨_,_,_,rfl⟩⟩
 ·intro q hq;exact k _ _ (x2.upd (x2.none hq))
def shR(rs:List Int)(D:Dm)(r:Str×Str×Int):PyData:=if gr rs D r.2.1 r.2.2.toNat=r.2.2 then .none else nB rs (more D r.2.1 (gr rs D r.2.1 r.2.2.toNat+1))
def shV(rs:List Int)(A:As)(i:Nat):PyData:=(A[i]?).elim .none (shR rs (run rs (A.take i)).1)
theorem abw{rs:List Int}{A:As}(hA:OkC A){i:Nat}{r:Str×Str×Int}(h:A[i]? =some r):∀ n,i<n->n<=A.length->(run rs (A.take n)).2[i]? =some (r.1,r.2.1,gr rs (run rs (A.take i)).1 r.2.1 r.2.2.toNat)
 | 0,h1,_=>absurd h1 (by omega)
 | n+1,h1,h2=>by
  have e:A[n]? =some A[n]:=List.getElem?_eq_getElem (by omega);have hl:=(kZ (rs:=rs) hA n (by omega)).2;rw[jb e];show((run rs (A.take n)).2++[_])[i]? =_
  by_cases q:i=n
  ·subst q;rw[h] at e;cases e;rw[List.getElem?_append_right (by omega),hl,Nat.sub_self];rfl
  ·rw[List.getElem?_append_left (by omega)];exact abw hA h n (by omega) (by omega)
theorem agp{α β:Type}{L:List α}{L':List β}{f:α->PyData}{g:β->PyData}{i:Nat}{w:W}(h:(abU (L.map f) (L'.map g))[i]? =some w):∃ a b,L[i]? =some a/\L'[i]? =some b/\w=.d (.tuple [f a,g b]):=by
 unfold abU at h;obtain⟨j,hj,rfl⟩:=fD h;obtain⟨h1,h2⟩:=List.getElem?_eq_some_iff.mp hj;simp at h1 h2;subst h2;refine⟨L[i]'(by omega),L'[i]'(by omega),List.getElem?_eq_getElem _,List.getElem?_eq_getElem _,?_⟩;simp[List.getD,List.getElem?_map,List.getElem?_eq_getElem (show i<L.length by omega),List.getElem?_eq_getElem (show i<L'.length by omega)]
theorem aiA(a b:Int):PyData.eqv (.int a) (.int b)=decide (a=b):=bL a b
def shL(rs:List Int)(A:As)(n:Nat):List W:=(List.range n).map λ i=>.d (shV rs A i)
theorem zX(rs:List Int)(A:As)(n:Nat):shL rs A (n+1)=shL rs A n++[.d (shV rs A n)]:=by
 unfold shL;rw[List.range_succ,List.map_append];rfl
def bG:SpD:=λ ws M Q=>∃ (rs:List Int) (A:As),ws=[.d (intD rs),.d (asD A),.d (asD (run rs A).2)]/\OkR rs/\OkC A/\∀ p M',M p=none->M' p=some (.lst (shL rs A A.length))->Ext M M'->Q (.m p) M'
theorem j2:Ln bG 3:=by rintro ws M Q ⟨rs,A,rfl,_⟩;rfl
theorem jv:Rd bG (ib a6 aM) gZ:=by
 rintro ws M Q ⟨rs,A,rfl,hr,hA,K⟩;have s16':=s16;have hA1:=hA.1;refine λ d hd=>⟨few (by simp),λ l hl=>?_⟩;have hl':bY M d (.dic []) l=none:=hl;have ld:l≠d:=λ e=>by rw[e,ak] at hl';cases hl'
 have hlM:M l=none:=by rw[aF ld] at hl';exact hl'
 have x0:Ext M (bY (bY M d (.dic [])) l (.lst [])):=((Ext.refl M).upd hd).upd hlM;refine⟨_,rfl,_,rfl,_,_,rfl,?_⟩;have hrl:(run rs A).2.length=A.length:=by
  have:=(kZ (rs:=rs) hA A.length (Nat.le_refl _)).2
  rwa[List.take_length] at this
 refine⟨λ i τ M'=>i<=A.length/\Ext M M'/\M' l=some (.lst (shL rs A i))/\∃ a x5 x6 x7 x8 x9 x10,Dc M' a (run rs (A.take i)).1/\τ=[some (.d (intD rs)),some (.d (asD A)),some (.d (asD (run rs A).2)),some (.m a),some (.m l),x5,x6,x7,x8,x9,x10],⟨Nat.zero_le _,x0,ak,d,_,_,_,_,_,_,by unfold Dc;rw[aF ld.symm,ak];rfl,rfl⟩,?_,?_⟩
 ·rintro i w τ M' hw ⟨hi,x1,h1,a,x5,x6,x7,x8,x9,x10,h2,rfl⟩;obtain⟨r,r',hr1,hr2,rfl⟩:=agp hw;have hlt:=(List.getElem?_eq_some_iff.mp hr1).1;have er:=abw (rs:=rs) hA hr1 A.length hlt (Nat.le_refl _);rw[List.take_length,hr2] at er
  injection er with er
  have hsh:shV rs A i=shR rs (run rs (A.take i)).1 r:=by unfold shV;rw[hr1];rfl
  have hrn:(run rs (A.take (i+1))).1=more (run rs (A.take i)).1 r.2.1 (gr rs (run rs (A.take i)).1 r.2.1 r.2.2.toNat):=by rw[jb hr1];rfl
  obtain⟨hsm,hlen⟩:=kZ (rs:=rs) hA i (by omega);have hsn:=(kZ (rs:=rs) hA (i+1) (by omega)).1;rw[hrn] at hsn;have hll:(shL rs A i).length=i:=by simp[shL]
  generalize (run rs (A.take i)).1=D at *;generalize hg:gr rs D r.2.1 r.2.2.toNat=g at *;subst er;refine⟨_,rfl,rfl,_,_,rfl,⟨_,rfl,rfl,_,_,rfl,_,_,rfl,_,_,rfl,rfl,_,_,rfl,⟨_,rfl,rfl,_,_,rfl,_,_,rfl,_,_,rfl,rfl,rfl,?_⟩⟩⟩;refine⟨_,rfl,_,rfl,_,rfl,a,D,r.2.1,g,rfl,h2,by have:=hsm.1;omega,λ p M1 hp h3 x3=>?_⟩;have h4:=x3 _ _ h1;have pl:p≠l:=λ e=>by rw[e,h1] at hp;cases hp
  have fin:∀ M2,Ext M1 M2->(∃ ws',M2 l=some (.lst ws')/\ws'.length<sizeLine/\(i+1<=A.length/\Ext M (bY M2 l (.lst (ws'++[.d (shR rs D r)])))/\(bY M2 l (.lst (ws'++[.d (shR rs D r)]))) l=some (.lst (shL rs A (i+1)))/\Dc (bY M2 l (.lst (ws'++[.d (shR rs D r)]))) p (run rs (A.take (i+1))).1)):=by intro M2 x2;refine⟨_,x2 _ _ h4,by rw[hll];omega,hlt,((x1.trans x3).trans x2).upd hlM,by rw[ak,zX,hsh],?_⟩;unfold Dc;rw[aF pl,hrn];exact x2 _ _ h3
  refine⟨_,rfl,l,_,rfl,h4,?_⟩;refine⟨_,rfl,_,rfl,_,_,.d,.d,rfl,_,rfl,?_⟩;rw[aiA];refine d3 (λ h=>?_) (λ h=>?_)
  ·obtain⟨ws',f1,f2,f3,f4,f5,f6⟩:=fin M1 (Ext.refl _);have e:shR rs D r=.none:=by unfold shR;rw[hg,if_pos (of_decide_eq_true h)]
   rw[e] at f4 f5 f6;exact⟨ws',f1,f2,f3,f4,f5,p,_,_,_,_,_,_,f6,rfl⟩
  ·refine⟨_,rfl,_,rfl,_,rfl,p,_,r.2.1,1,rfl,h3,by have:=hsn.1;omega,λ p2 M3 hp2 h5 x5=>?_⟩;rw[oP] at h5;have hm:=nD (sm9 hsn (by omega)) r.2.1 (n:=1) (by decide) (by decide);rw[oP] at hm;refine⟨rs,p2,_,rfl,h5,by have:=hm.1;omega,hr,λ M4 x6=>?_⟩;obtain⟨ws',f1,f2,f3,f4,f5,f6⟩:=fin M4 (x5.trans x6);have e:shR rs D r=nB rs (more D r.2.1 (g+1)):=by unfold shR;rw[hg,if_neg (of_decide_eq_false h)]
   rw[e] at f4 f5 f6;exact⟨ws',f1,f2,f3,f4,f5,p,_,_,_,_,_,_,f6,rfl⟩
 ·rintro τ M' ⟨hi,x1,h1,a,x5,x6,x7,x8,x9,x10,h2,rfl⟩;have e1:(abU (A.map aD) ((run rs A).2.map aD)).length=A.length:=by simp[abU,hrl]
  rw[e1] at h1;exact⟨_,rfl,K l M' hlM h1 x1⟩
def cQ:SpX:=λ ws M Q E=>∃ d1 d2:PyData,ws=[.d d1,.d d2,.d (.int 0)]/\(∀ rows,d2=.list rows->rows≠[])/\sN d1 d2 M Q E
theorem pK:LnX cQ 3:=by rintro ws M Q E ⟨d1,d2,rfl,_⟩;rfl
theorem n5:RdX cQ (λ Ex=>nc Ex au aE bG bT) mO:=by
 rintro ws M Q E ⟨d1,d2,rfl,hne,h⟩;refine⟨_,rfl,_,rfl,d1,d2,rfl,h.r1,h.r2,h.xb,h.xa,λ hb ha=>?_⟩;have k:=h.q hb ha;obtain⟨B,rfl,hB⟩:=pg hb;obtain⟨A,rfl,hA⟩:=pV ha;have hn:0<A.length:=by
  have:=hne _ rfl;cases A with
  | nil=>exact absurd rfl this
  | cons a l=>simp
 refine⟨_,rfl,B,rfl,hB.len,_,rfl,_,rfl,_,rfl,_,rfl,rooms B,A,rfl,hB.r,hA.c,λ p M1 hp h1 x1=>⟨p,_,rfl,h1,?_⟩⟩;have x2:Ext M (l9 M1 p):=x1.del hp;refine⟨rooms B,A,rfl,hB.r,hA.c,λ q M3 hq h3 x3=>⟨q,(List.range A.length).map (λ i=>shV (rooms B) A i),rfl,by rw[h3];unfold shL;rw[List.map_map];rfl,?_⟩⟩;have x4:Ext M (l9 M3 q):=(x2.trans x3).del (x2.none hq)
 ·refine⟨_,rfl,0,.d (shV (rooms B) A 0),rfl,?_,rfl,k _ _ x4⟩;have:=abG (M:=l9 M3 q) (L:=List.range A.length) (f:=λ i=>shV (rooms B) A i) (i:=0) (j:=0) (r:=0) rfl (by rw[List.getElem?_range hn]);exact this
theorem aaD{rs:List Int}(h:OkR rs)(k:Nat):OkR (rs.drop k):=⟨by rw[List.length_drop];have:=h.1;omega,λ m hm=>h.2 m (List.mem_of_mem_drop hm)⟩
theorem acq{rs:List Int}(h:OkR rs):OkR (dsc rs):=⟨by rw[(oe rs).length_eq];exact h.1,λ m hm=>h.2 m ((oe rs).mem_iff.mp hm)⟩
def fk:SpX:=λ ws M Q E=>∃ d1 d2:PyData,ws=[.d d1,.d d2]/\sN d1 d2 M Q E
theorem xy:LnX fk 2:=by rintro ws M Q E ⟨d1,d2,rfl,_⟩;rfl
theorem uU:RdX fk (λ Ex=>xX Ex au aT aE aM) wQ:=by
 rintro ws M Q E ⟨d1,d2,rfl,h⟩;refine⟨_,rfl,_,rfl,d1,d2,rfl,h.r1,h.r2,h.xb,h.xa,λ hb ha=>?_⟩;have K:=h.q hb ha;obtain⟨B,rfl,hB⟩:=pg hb;obtain⟨A,rfl,hA⟩:=pV ha;have hdm:=vS hA.c;have hS:=acq hB.r;have hS8:=hS.1;refine⟨_,rfl,A,rfl,hA.c,λ a M1 ha h1 x1=>?_⟩;refine⟨_,rfl,B,rfl,hB.len,rooms B,.d,by have:=hB.r.1;omega,λ ns' p h l hl=>?_⟩;obtain rfl:=tO p h;refine⟨l,(dsc (rooms B)).map PyData.int,rfl,by rw[ak,Stc.ints_map],?_⟩;have x2:=x1.trans (sealed (o:=.lst (gi (dsc (rooms B)))) hl);have h2:Dc (l9 (bY M1 l (.lst (gi (dsc (rooms B))))) l) a (dmd A):=sealed hl _ _ h1;generalize l9 (bY M1 l (.lst (gi (dsc (rooms B))))) l=M2 at x2 h2;generalize dsc (rooms B)=S at *;generalize dmd A=D at *;refine⟨_,rfl,_,rfl,S,a,D,rfl,h2,by have:=hdm.1;omega,hS,λ M3 x3=>⟨rfl,_,rfl,?_⟩⟩;refine d3 (λ h=>K _ M3 (x2.trans x3)) (λ h=>?_);refine⟨_,rfl,_,_,rfl,rfl,rfl,_,rfl,?_,?_,?_⟩
 ·rw[List.length_map];omega
 ·rw[List.length_map];omega
 rw[show(((S.map PyData.int).length:Nat):Int).toNat=S.length from by rw[List.length_map];omega];refine⟨λ i τ M'=>i<=S.length/\Ext M M'/\Dc M' a D/\∃ x4 x5,τ=[some (.d (bsD B)),some (.d (asD A)),some (.m a),some (.d (Stc.intD S)),x4,x5],⟨Nat.zero_le _,x2.trans x3,x3 _ _ h2,_,_,rfl⟩,?_,?_⟩
 ·rintro i w τ M4 hw ⟨hi,x4,h4,x4',x5',rfl⟩;obtain⟨hlt,rfl⟩:=ad7 hw;have ecut:_root_.D.cutD (S.map PyData.int) (some ((i:Int)+1)) none=(S.drop (i+1)).map PyData.int:=by rw[kz (by omega),show((i:Int)+1).toNat=i+1 from by omega,List.map_drop]
  refine⟨_,rfl,_,rfl,.inl ⟨_,_,rfl,rfl,_,rfl,_,rfl,rfl,_,rfl,S.drop (i+1),a,D,?_,h4,by have:=hdm.1;omega,aaD hS _,λ M5 x5=>?_⟩⟩
  ·rw[ecut];rfl
  ·refine⟨_,rfl,rfl,_,rfl,?_⟩;refine d3 (λ h=>?_) (λ h=>?_)
   ·exact⟨_,rfl,_,rfl,_,rfl,few (by simp),K _ M5 (x4.trans x5)⟩
   ·exact⟨hlt,x4.trans x5,x5 _ _ h4,_,_,rfl⟩
 ·rintro τ M4 ⟨hi,x4,h4,x4',x5',rfl⟩;exact⟨_,rfl,_,_,rfl,rfl,rfl,_,rfl,few (by simp),K _ M4 x4⟩
abbrev Code(M:MH):Prop:=M aP=some (.code cJ ⟨122,31,122,66⟩)
structure Nb(M:MH)(a:Addr)(zs:List Str):Prop where
 ex:∃ kvs,M a=some (.dic kvs)/\kvs.map (·.1)=zs.map Sum.inr/\∀ z∈zs,∃ n:Int,fY kvs (.inr z)=some (.d (.int n))
theorem Nb.of{M:MH}{a:Addr}{D:Dm}(h:Dc M a D):Nb M a (D.map (·.1)):=by
 refine⟨⟨_,h,?_,λ z hz=>?_⟩⟩
 ·unfold bA rk;simp only[List.map_map];rfl
 ·rw[nW];obtain⟨r,hr,rfl⟩:=List.mem_map.mp hz;cases hq:fd Prod.fst D r.1 with
  | none =>
   have:=List.find?_eq_none.mp hq r hr;simp at this
  | some r'=>exact⟨r'.2,rfl⟩
def bh:SpD:=λ ws M Q=>∃ (a:Addr) (zs:List Str),ws=[.m a]/\Nb M a zs/\zs.length<64/\Code M/\∀ (zs':List Str) p,zs'.Perm zs->M p=none->Q (.m p) (bY M p (.lst (gQ zs')))
theorem ja:Ln bh 1:=by rintro ws M Q ⟨a,zs,rfl,_⟩;rfl
theorem iy:Rd bh gb f9:=by
 rintro ws M Q ⟨a,zs,rfl,hN,hl,hT,k⟩;obtain⟨kvs,h1,h2,h3⟩:=hN.ex
 let v:Str->Int:=λ z=>match fY kvs (.inr z) with
  | some (.d (.int n))=>n
  | _=>0
 refine⟨_,rfl,a,kvs,zs,rfl,h1,h2,hl,hT,false,[true],zs.map λ z=>[.int (-(v z)),.str z],by simp,λ r hr=>?_,λ i z r hz hr=>?_,λ p hp=>k _ p (w5 _ _) hp⟩
 ·obtain⟨z,_,rfl⟩:=List.mem_map.mp hr;exact⟨⟨_,rfl⟩,⟨_,rfl⟩,trivial⟩
 ·rw[List.getElem?_map,hz] at hr;cases hr;obtain⟨n,hn⟩:=h3 z (List.mem_of_getElem? hz);have ev:v z=n:=by simp only[v,hn]
  exact⟨_,rfl,_,rfl,a,_,.inr z,_,rfl,.inl h1,rfl,hn,_,rfl,_,rfl,_,rfl,few (by simp),by show _=W.d (.tuple [.int (-(v z)),.str z]);rw[ev],rfl⟩
structure Ld(M0 M:MH)(c:Addr)(L:List (Str×Addr×List Str)):Prop where
 d:M c=some (.dic (L.map λ x=>(.inr x.1,.m x.2.1)))
 l:∀ x∈L,M x.2.1=some (.lst (gQ x.2.2))/\x.2.1≠c/\M0 x.2.1=none
 n:(L.map (·.2.1)).Nodup
theorem agY{B:Bs}(h:OkB B):(B.map (·.1)).Nodup:=by
 have tr:∀ (d:Nat) (i:Nat) r s,B[i]? =some r->B[i+1+d]? =some s->r.1.cps.toList<s.1.cps.toList:=by
  intro d
  induction d with
  | zero=>intro i r s h1 h2;exact of_decide_eq_true (h.up i r s h1 h2)
  | succ d ih =>
   intro i r s h1 h2;have hlt:=(List.getElem?_eq_some_iff.mp h2).1;have hm:B[i+1+d]? =some (B[i+1+d]'(by omega)):=List.getElem?_eq_getElem (by omega);exact List.lt_trans (ih i r _ h1 hm) (of_decide_eq_true (h.up (i+1+d) _ s hm h2))
 rw[List.nodup_iff_pairwise_ne,List.pairwise_iff_getElem];intro i j hi hj hij e;rw[List.length_map] at hi hj;simp only[List.getElem_map] at e;have:=tr (j-i-1) i B[i] B[j] (List.getElem?_eq_getElem hi) (by rw[show i+1+(j-i-1)=j by omega];exact List.getElem?_eq_getElem hj);rw[e] at this;exact List.lt_irrefl _ this
theorem ve{rs:List Int}{D:Dm}:nB rs D=.none\/∃ i j k,nB rs D=.tuple [.int i,.int j,.int k]:=by
 unfold nB qL;cases (List.range (dsc (vals D)).length).find? (qA rs (dsc (vals D))) with
 | none=>exact .inl rfl
 | some i=>exact .inr ⟨_,_,_,rfl⟩
theorem aaM{κ α:Type}[DecidableEq κ]{t:List (κ×α)}{k:κ}{v:α}(h:k ∉ t.map (·.1)):mD t k v=t++[(k,v)]:=by
 unfold mD;rw[if_neg];intro q;obtain⟨p,hp,e⟩:=List.any_eq_true.mp q;exact h (List.mem_map.mpr ⟨p,hp,of_decide_eq_true e⟩)
theorem yo{κ α:Type}[DecidableEq κ]{t:List (κ×α)}{k:κ}{v:α}(h:k∈t.map (·.1)):(mD t k v).map (·.1)=t.map (·.1):=by
 unfold mD;rw[if_pos]
 ·rw[List.map_map];refine List.map_congr_left λ p _=>?_;show(if p.1=k then (p.1,v) else p).1=p.1
  split<;>rfl
 ·obtain⟨p,hp,e⟩:=List.mem_map.mp h;exact List.any_eq_true.mpr ⟨p,hp,decide_eq_true e⟩
theorem Ld.get{M0 M:MH}{c:Addr}{L:List (Str×Addr×List Str)}(nd:(L.map (·.1)).Nodup){x:Str×Addr×List Str}(hx:x∈L):fY (L.map λ x=>((.inr x.1:Key),W.m x.2.1)) (.inr x.1)=some (.m x.2.1):=by
 unfold fY;rw[List.find?_map];have:L.find? ((λ p:Key×W=>decide (p.1=.inr x.1)) ∘ λ x=>(.inr x.1,W.m x.2.1))=some x:=by rw[List.find?_eq_some_iff_getElem];obtain⟨i,hi,e⟩:=List.mem_iff_getElem.mp hx;refine⟨by simp,i,hi,e,λ j hj=>?_⟩;simp only[Function.comp,Bool.not_eq_true',decide_eq_false_iff_not];intro q;have q:L[j].1=x.1:=Sum.inr.inj q;rw[List.nodup_iff_pairwise_ne,List.pairwise_iff_getElem] at nd;exact nd j i (by rw[List.length_map];omega) (by rw[List.length_map];omega) hj (by simp only[List.getElem_map];rw[q,<- e])
 rw[this];rfl
def d9:SpX:=λ ws M Q E=>∃ d1 d2:PyData,ws=[.d d1,.d d2]/\Code M/\sN d1 d2 M Q E/\(fB d1=none->fA d2=none->∀ (x1 x2 x3:W) (a:Addr) M1,Ext M M1->M1 a=none->E a (bY M1 a (.exc aC [("first",x1),("demanded",x2),("room",x3)])))
theorem vi:LnX d9 2:=by rintro ws M Q E ⟨d1,d2,rfl,_⟩;rfl
theorem ow{M:MH}{l:Addr}{o:MO}(h:M l=none):l9 (bY M l o) l=M:=by
 funext q
 by_cases e:q=l
 ·subst e;rw[h];simp[l9]
 ·rw[nX e,aF e]
theorem sm(zs:List Str):gQ zs=(zs.map PyData.str).map W.d:=by rw[List.map_map];rfl
theorem kK{α:Type}(xs:List α)(lo hi:Option Int):(D.cutD xs lo hi).Sublist xs:=(List.take_sublist _ _).trans (List.drop_sublist _ _)
theorem adI(xs:List Str)(lo hi:Option Int):D.cutD (xs.map PyData.str) lo hi=(D.cutD xs lo hi).map PyData.str:=by
 unfold D.cutD;rw[List.length_map,List.map_take,List.map_drop]
theorem aaC(xs:List Str)(lo hi:Option Int):slW (.d (.list (xs.map PyData.str))) lo hi=some (.d (.list ((D.cutD xs lo hi).map PyData.str))):=by simp only[slW,adI]
theorem agE{D:Dm}{z:Str}(h:z∈D.map (·.1)):∃ n:Int,fY (bA (rk Prod.fst gI D)) (.inr z)=some (.d (.int n)):=by
 rw[nW];obtain⟨r,hr,rfl⟩:=List.mem_map.mp h;cases hq:fd Prod.fst D r.1 with
 | none =>
  have:=List.find?_eq_none.mp hq r hr;simp at this
 | some r'=>exact⟨r'.2,rfl⟩
structure Ly(M M0 M':MH)(a p c:Addr)(A:As)(ns:List Str)(L:List (Str×Addr×List Str))(len:Str->Nat):Prop where
 ld:Ld M0 M' c L
 nm:L.map (·.1)=ns
 le:∀ x∈L,x.2.2.length<=len x.1
 nb:Nb M' p ns
 dc:Dc M' a (dmd A)
 x:Ext M M'
theorem aa4{L:List (Str×Addr×List Str)}(nd:(L.map (·.1)).Nodup){x y:Str×Addr×List Str}(hx:x∈L)(hy:y∈L)(e:y.1=x.1):y=x:=by
 obtain⟨i,hi,ei⟩:=List.mem_iff_getElem.mp hx;obtain⟨j,hj,ej⟩:=List.mem_iff_getElem.mp hy;rw[List.nodup_iff_pairwise_ne,List.pairwise_iff_getElem] at nd
 by_cases q:i=j
 ·subst q;rw[<- ei,<- ej]
 ·exfalso
  rcases Nat.lt_or_gt_of_ne q with q | q
  ·exact nd i j (by rw[List.length_map];exact hi) (by rw[List.length_map];exact hj) q (by simp only[List.getElem_map];rw[ei,ej,e])
  ·exact nd j i (by rw[List.length_map];exact hj) (by rw[List.length_map];exact hi) q (by simp only[List.getElem_map];rw[ei,ej,e])
theorem aan{L:List (Str×Addr×List Str)}(nd:(L.map (·.2.1)).Nodup){x y:Str×Addr×List Str}(hx:x∈L)(hy:y∈L)(e:y.2.1=x.2.1):y=x:=by
 obtain⟨i,hi,ei⟩:=List.mem_iff_getElem.mp hx;obtain⟨j,hj,ej⟩:=List.mem_iff_getElem.mp hy;rw[List.nodup_iff_pairwise_ne,List.pairwise_iff_getElem] at nd
 by_cases q:i=j
 ·subst q;rw[<- ei,<- ej]
 ·exfalso
  rcases Nat.lt_or_gt_of_ne q with q | q
  ·exact nd i j (by rw[List.length_map];exact hi) (by rw[List.length_map];exact hj) q (by simp only[List.getElem_map];rw[ei,ej,e])
  ·exact nd j i (by rw[List.length_map];exact hj) (by rw[List.length_map];exact hi) q (by simp only[List.getElem_map];rw[ei,ej,e])
theorem Ly.step{M M0 M':MH}{a p c:Addr}{A:As}{ns:List Str}{L:List (Str×Addr×List Str)}{len len':Str->Nat}(h:Ly M M0 M' a p c A ns L len)(nd:ns.Nodup)(hx0:Ext M M0)(ha0:M0 a≠none)(hp0:M0 p≠none)(hpM:M p=none)(hcp:c≠p)(hap:a≠p)(hac:a≠c){x:Str×Addr×List Str}(hx:x∈L){z:Str}(hl:∀ y,len y<=len' y)(hz:len x.1+1<=len' x.1)
  {kvs:List (Key×W)}{n:Int}(hk:M' p=some (.dic kvs)):∃ L',Ly M M0 (bY (bY M' x.2.1 (.lst (gQ x.2.2++[.d (.str z)]))) p (.dic (mD kvs (.inr x.1) (.d (.int n))))) a p c A ns L' len':=by
 have hxl:=h.ld.l x hx;have xp:x.2.1≠p:=λ e=>hp0 (by rw[<- e];exact hxl.2.2);have xa:x.2.1≠a:=λ e=>ha0 (by rw[<- e];exact hxl.2.2);have xM:M x.2.1=none:=hx0.none hxl.2.2;have nd':(L.map (·.1)).Nodup:=by rw[h.nm];exact nd
 have hns:x.1∈ns:=by rw[<- h.nm];exact List.mem_map.mpr ⟨x,hx,rfl⟩
 obtain⟨kvs',g1,g2,g3⟩:=h.nb.ex;rw[hk] at g1;cases g1;have hkey:(.inr x.1:Key)∈kvs.map (·.1):=by rw[g2];exact List.mem_map.mpr ⟨_,hns,rfl⟩
 refine⟨L.map λ y=>if y.1=x.1 then (y.1,y.2.1,y.2.2++[z]) else y,⟨?_,λ y hy=>?_,?_⟩,?_,λ y hy=>?_,⟨⟨_,ak,by rw[yo hkey];exact g2,λ w hw=>?_⟩⟩,?_,?_⟩
 ·rw[aF hcp,aF hxl.2.1.symm,h.ld.d,List.map_map];refine congrArg (λ t=>some (MO.dic t)) (List.map_congr_left λ y _=>?_);show(.inr y.1,W.m y.2.1)=((.inr (if y.1=x.1 then (y.1,y.2.1,y.2.2++[z]) else y).1:Key),W.m (if y.1=x.1 then (y.1,y.2.1,y.2.2++[z]) else y).2.1)
  split<;>rfl
 ·obtain⟨y0,hy0,rfl⟩:=List.mem_map.mp hy;have hyl:=h.ld.l y0 hy0;have yp:y0.2.1≠p:=λ e=>hp0 (by rw[<- e];exact hyl.2.2)
  by_cases e:y0.1=x.1
  ·have:=aa4 nd' hx hy0 e;subst this;rw[if_pos rfl];exact⟨by rw[aF yp,ak];unfold gQ;rw[List.map_append];rfl,hyl.2⟩
  ·rw[if_neg e];have na:y0.2.1≠x.2.1:=λ q=>e (by rw[aan h.ld.n hx hy0 q]);exact⟨by rw[aF yp,aF na];exact hyl.1,hyl.2⟩
 ·rw[List.map_map];have e:L.map ((λ y:Str×Addr×List Str=>y.2.1) ∘ λ y=>if y.1=x.1 then (y.1,y.2.1,y.2.2++[z]) else y)=L.map (·.2.1):=List.map_congr_left λ y _=>by
   show(if y.1=x.1 then (y.1,y.2.1,y.2.2++[z]) else y).2.1=y.2.1
   split<;>rfl
  rw[e];exact h.ld.n
 ·rw[List.map_map,<- h.nm];exact List.map_congr_left λ y _=>by
   show(if y.1=x.1 then (y.1,y.2.1,y.2.2++[z]) else y).1=y.1
   split<;>rfl
 ·obtain⟨y0,hy0,rfl⟩:=List.mem_map.mp hy;have hle:=h.le y0 hy0;have hl0:=hl y0.1
  by_cases e:y0.1=x.1
  ·rw[if_pos e];rw[<- e] at hz;simp only[List.length_append,List.length_singleton];omega
  ·rw[if_neg e];omega
 ·rw[zT]
  by_cases e:w=x.1
  ·rw[if_pos (by rw[e])];exact⟨n,rfl⟩
  ·rw[if_neg λ q=>e (Sum.inr.inj q)];exact g3 w hw
 ·unfold Dc;rw[aF hap,aF xa.symm];exact h.dc
 ·exact(h.x.upd xM).upd hpM
theorem ac2{B:Bs}{i:Nat}{w:W}(h:(gn (rk Prod.fst gI B))[i]? =some w):∃ r,B[i]? =some r/\w=.d (.str r.1):=by
 unfold gn rk at h;rw[List.map_map] at h;obtain⟨r,hr,rfl⟩:=fD h;exact⟨r,hr,rfl⟩
theorem sR:RdX d9 (λ Ex=>tL Ex au aT aM aE bh) tD:=by
 rintro ws M Q E ⟨d1,d2,rfl,hT,h,kx⟩;have s16':=s16;refine⟨_,rfl,_,rfl,d1,d2,rfl,h.r1,h.r2,h.xb,h.xa,λ hb ha=>?_⟩;have K:=h.q hb ha;have KX:=kx hb ha;obtain⟨B,rfl,hB⟩:=pg hb;obtain⟨A,rfl,hA⟩:=pV ha;clear hb ha h kx;have hd8:(dmd A).length<=8:=by have:=(tZ hA.c A.length (Nat.le_refl _)).1;rw[List.take_length] at this;have:=hA.len;omega
 have hB8:=hB.len;refine⟨_,rfl,A,rfl,hA.c,λ a M1 ha1 h1 x1=>?_⟩;refine⟨_,rfl,B,rfl,hB.len,_,rfl,rooms B,a,dmd A,rfl,h1,by omega,hB.r,λ M2 x2=>?_⟩;have h2:Dc M2 a (dmd A):=x2 _ _ h1;have x02:Ext M M2:=x1.trans x2;refine⟨_,rfl,rfl,_,rfl,?_⟩;rcases ve (rs:=rooms B) (D:=dmd A) with e | ⟨i,j,k,e⟩
 ·rw[e];have nd:=agY hB;have ep:(rk Prod.fst gI B).map _root_.D.pairD=B.map bD:=by unfold rk;rw[List.map_map];rfl
  have nk:((rk Prod.fst gI B).map (·.1)).Nodup:=by
   have:(rk Prod.fst gI B).map (·.1)=(B.map (·.1)).map Sum.inr:=by unfold rk;rw[List.map_map,List.map_map];rfl
   rw[this];exact List.Pairwise.map _ (λ a b hab e=>hab (Sum.inr.inj e)) nd
  refine je ⟨_,rfl,_,rk Prod.fst gI B,rfl,by rw[ep];exact .d,nk,λ p hp=>?_⟩;have hpM:M p=none:=x02.none hp;have ap:a≠p:=λ q=>by rw[<- q] at hp;unfold Dc at h2;rw[hp] at h2;cases h2
  refine⟨p,bA (rk Prod.fst gI B),ak,?_⟩;rw[wM];refine⟨_,rfl,p,rk Prod.fst gI B,rfl,ak,λ c hc=>?_⟩;generalize hM0:bY M2 p (.fdic (bA (rk Prod.fst gI B)))=M0 at hc;have hp0:M0 p=some (.fdic (bA (rk Prod.fst gI B))):=by rw[<- hM0];exact ak
  have ha0:M0 a=some (.dic (bA (rk Prod.fst gI (dmd A)))):=by rw[<- hM0,aF ap];exact h2
  have x0:Ext M M0:=by rw[<- hM0];exact x02.upd hpM
  have hcp:c≠p:=λ q=>by rw[q,hp0] at hc;cases hc
  have hac:a≠c:=λ q=>by rw[<- q,ha0] at hc;cases hc
  refine⟨λ i τ M'=>∃ L:List (Str×Addr×List Str),L.map (·.1)=(B.take i).map (·.1)/\Ld M0 M' c L/\(∀ x∈L,x.2.2=[])/\Ext M0 M'/\∃ x,τ=[x],⟨[],by simp,⟨ak,λ x hx=>(by cases hx),List.nodup_nil⟩,λ x hx=>(by cases hx),Ext.new hc,_,rfl⟩,?_,?_⟩
  ·rintro i w τ M' hw ⟨L,e1,hL,hem,xM,x,rfl⟩;obtain⟨r,hr,rfl⟩:=ac2 hw;have hi:=(List.getElem?_eq_some_iff.mp hr).1;have hll:L.length<=8:=by have:=congrArg List.length e1;rw[List.length_map,List.length_map,List.length_take] at this;omega
   refine⟨_,rfl,few (by simp),λ l hl=>?_⟩;have lc:l≠c:=λ q=>by rw[q,hL.d] at hl;cases hl
   have hnew:(.inr r.1:Key) ∉ (L.map λ x=>((.inr x.1:Key),W.m x.2.1)).map (·.1):=by
    intro q;rw[List.map_map] at q;obtain⟨y,hy,ey⟩:=List.mem_map.mp q;have ey:y.1=r.1:=Sum.inr.inj ey;have hm:r.1∈(B.take i).map (·.1):=by rw[<- e1,<- ey];exact List.mem_map.mpr ⟨y,hy,rfl⟩
    rw[List.map_take] at hm;exact vT nd (by rw[List.getElem?_map,hr];rfl) hm
   refine⟨L.map λ x=>(.inr x.1,.m x.2.1),.inr r.1,by rw[aF lc.symm];exact hL.d,rfl,by rw[List.length_map];omega,L++[(r.1,l,[])],?_,⟨?_,λ y hy=>?_,?_⟩,λ y hy=>?_,?_,_,rfl⟩
   ·rw[List.map_append,e1,List.take_succ,hr];simp
   ·rw[ak,aaM hnew];simp
   ·rcases List.mem_append.mp hy with hy | hy
    ·have hyl:=hL.l y hy;have yl:y.2.1≠l:=λ q=>by rw[<- q,hyl.1] at hl;cases hl
     exact⟨by rw[aF hyl.2.1,aF yl];exact hyl.1,hyl.2⟩
    ·rw[List.mem_singleton.mp hy];exact⟨by rw[aF lc,ak];rfl,lc,xM.none hl⟩
   ·rw[List.map_append,List.nodup_append];refine⟨hL.n,by simp,λ u hu v hv q=>?_⟩;obtain⟨y,hy,rfl⟩:=List.mem_map.mp hu;have hv:v=l:=by simpa using hv
    rw[hv] at q;rw[<- q,(hL.l y hy).1] at hl;cases hl
   ·rcases List.mem_append.mp hy with hy | hy
    ·exact hem y hy
    ·rw[List.mem_singleton.mp hy]
   ·exact(xM.upd (xM.none hl)).upd hc
  ·rintro τ M' ⟨L,e1,hL,hem,xM,x,rfl⟩;have en:(gn (rk Prod.fst gI B)).length=B.length:=by simp[gn,rk]
   rw[en,List.take_length] at e1;refine⟨xM _ _ hp0,?_⟩;have ly0:Ly M M0 (bY M' p (.dic (bA (rk Prod.fst gI B)))) a p c A (B.map (·.1)) L (λ _=>0):=by
    refine⟨⟨by rw[aF hcp];exact hL.d,λ y hy=>?_,hL.n⟩,e1,λ y hy=>by rw[hem y hy];exact Nat.le_refl _,Nb.of (D:=B) ak,?_,(x0.trans xM).upd hpM⟩
    ·have hyl:=hL.l y hy;have yp:y.2.1≠p:=λ q=>by rw[q,hp0] at hyl;cases hyl.2.2
     exact⟨by rw[aF yp];exact hyl.1,hyl.2⟩
    ·unfold Dc;rw[aF ap];exact xM _ _ ha0
   generalize bY M' p (.dic (bA (rk Prod.fst gI B)))=M4 at ly0;have c4:Code M4:=ly0.x _ _ hT;refine⟨_,rfl,a,(dmd A).map (·.1),rfl,Nb.of ly0.dc,by rw[List.length_map];omega,c4,λ zs l perm hl=>⟨l,zs.map PyData.str,rfl,by rw[ak,sm],_,rfl,?_⟩⟩;rw[ow hl];have hzl:zs.length<=8:=by rw[perm.length_eq,List.length_map];exact hd8
   refine⟨λ i τ M'=>∃ L,Ly M M0 M' a p c A (B.map (·.1)) L (λ _=>i)/\∃ y9 y10 y11,τ=[some (.d (bsD B)),some (.d (asD A)),some (.m a),some (.d .none),none,none,none,some (.m p),some (.m c),y9,y10,y11],⟨L,ly0,_,_,_,rfl⟩,?_,?_⟩
   ·rintro i w τ M5 hw ⟨L,ly,y9,y10,y11,rfl⟩;rw[List.map_map] at hw;obtain⟨z9,hz9,rfl⟩:=fD hw;have hi:i<zs.length:=(List.getElem?_eq_some_iff.mp hz9).1;have hzm:z9∈(dmd A).map (·.1):=perm.mem_iff.mp (List.mem_of_getElem? hz9);obtain⟨n,hn⟩:=agE hzm;refine⟨_,rfl,p,B.map (·.1),rfl,ly.nb,by rw[List.length_map];omega,ly.x _ _ hT,λ zs2 l2 perm2 hl2=>⟨l2,zs2.map PyData.str,rfl,by rw[ak,sm],?_⟩⟩;rw[ow hl2];refine⟨_,rfl,_,rfl,a,_,.inr z9,_,rfl,.inl ly.dc,rfl,hn,_,rfl,_,aaC zs2 none (some n),rfl,?_⟩;have hsub:=kK zs2 none (some n);generalize D.cutD zs2 none (some n)=cs at hsub;have cnd:cs.Nodup:=hsub.nodup (perm2.nodup_iff.mpr nd);refine⟨_,rfl,_,rfl,?_⟩;refine⟨λ j τ M'=>∃ L,Ly M M0 M' a p c A (B.map (·.1)) L (λ z=>i+if z∈cs.take j then 1 else 0)/\∃ y11,τ=[some (.d (bsD B)),some (.d (asD A)),some (.m a),some (.d .none),none,none,none,some (.m p),some (.m c),some (.d (.str z9)),some (.d (.list (cs.map PyData.str))),y11],⟨L,by simpa using ly,_,rfl⟩,?_,?_⟩
    ·rintro j w τ M6 hw2 ⟨L,ly,y11,rfl⟩;rw[List.map_map] at hw2;obtain⟨z,hz,rfl⟩:=fD hw2;have hzn:z∈B.map (·.1):=perm2.mem_iff.mp (hsub.subset (List.mem_of_getElem? hz));obtain⟨x,hx,rfl⟩:∃ x∈L,x.1=z:=by rw[<- ly.nm] at hzn;obtain⟨x,hx,e⟩:=List.mem_map.mp hzn;exact⟨x,hx,e⟩
     have nd':(L.map (·.1)).Nodup:=by rw[ly.nm];exact nd
     have hxl:=ly.ld.l x hx;have xp:x.2.1≠p:=λ q=>by rw[q,hp0] at hxl;cases hxl.2.2
     have hle:=ly.le x hx;have hnt:x.1 ∉ cs.take j:=vT cnd hz;rw[if_neg hnt] at hle;obtain⟨kvs,g1,g2,g3⟩:=ly.nb.ex;obtain⟨m,hm⟩:=g3 x.1 hzn;have hkl:kvs.length<=8:=by have:=congrArg List.length g2;rw[List.length_map,List.length_map,List.length_map] at this;omega
     obtain⟨L',ly'⟩:=ly.step (len':=λ z=>i+if z∈cs.take (j+1) then 1 else 0) nd x0 (by rw[ha0];simp) (by rw[hp0];simp) hpM hcp ap hac hx (z:=z9) (n:=m-1) (λ y=>by
      show i+(if y∈cs.take j then 1 else 0)<=i+(if y∈cs.take (j+1) then 1 else 0)
      by_cases q:y∈cs.take j
      ·rw[if_pos q,if_pos (by rw[List.take_succ];exact List.mem_append_left _ q)];exact Nat.le_refl _
      ·rw[if_neg q];omega) (by
      show i+(if x.1∈cs.take j then 1 else 0)+1<=i+(if x.1∈cs.take (j+1) then 1 else 0);rw[if_neg hnt,if_pos (by rw[List.take_succ,hz];simp)];omega) g1
     refine⟨_,rfl,_,rfl,c,_,.inr x.1,_,rfl,.inl ly.ld.d,rfl,Ld.get (M0:=M0) (M:=M6) (c:=c) nd' hx,x.2.1,_,rfl,hxl.1,_,rfl,_,hxl.1,by unfold gQ;rw[List.length_map];omega,?_⟩;refine⟨_,rfl,_,rfl,p,kvs,.inr x.1,m,rfl,rfl,by rw[aF xp.symm];exact g1,hm,by omega,_,rfl,rfl,?_⟩;exact⟨L',ly',_,rfl⟩
    ·rintro τ M6 ⟨L,ly,y11,rfl⟩;refine⟨L,⟨ly.ld,ly.nm,λ y hy=>?_,ly.nb,ly.dc,ly.x⟩,_,_,_,rfl⟩;have:=ly.le y hy;show y.2.2.length<=i+1
     split at this<;>omega
   ·rintro τ M5 ⟨L,ly,y9,y10,y11,rfl⟩;have hlen:∀ x∈L,x.2.2.length<=8:=λ x hx=>by have:=ly.le x hx;rw[List.length_map,List.length_map] at this;omega
    obtain⟨M6,sv,g1,g2⟩:=abM (a:=c) (L.map λ x=>((.inr x.1:Key),x.2.1,x.2.2.map PyData.str)) [] M5 (by rw[ly.ld.d,List.map_map];rfl) (λ y hy=>by obtain⟨x,hx,rfl⟩:=List.mem_map.mp hy;have:=ly.ld.l x hx;exact⟨by rw[this.1,sm],this.2.1⟩) (by rw[List.map_map];exact ly.ld.n)
    have x6:Ext M M6:=λ q o e=>by
     have hq:=x0 q o e;rw[g2 q (λ z=>by rw[z,hc] at hq;cases hq) λ z=>by rw[List.map_map] at z;obtain⟨x,hx,rfl⟩:=List.mem_map.mp z;have:=(ly.ld.l x hx).2.2;rw[show((λ x:Key×Addr×List PyData=>x.2.1) ∘ λ x:Str×Addr×List Str=>((.inr x.1:Key),x.2.1,x.2.2.map PyData.str)) x=x.2.1 from rfl] at hq;rw[this] at hq;cases hq]
     exact ly.x q o e
    have hcM:M c=none:=x0.none hc;rw[List.nil_append,List.map_map] at g1;refine⟨M6,sv,c,_,g1,_,rfl,c,_,rfl,ak,λ e he=>?_⟩;have ec:e≠c:=λ q=>by rw[q,ak] at he;cases he
    have he6:M6 e=none:=by rw[aF ec] at he;exact he
    have heM:=x6.none he6;refine⟨λ i τ M'=>Ext M M'/\M' c=some (.fdic _)/\(∃ kvs,M' e=some (.dic kvs)/\kvs.length<=i)/\∃ x y,τ=[x,y],⟨(x6.upd hcM).upd heM,by rw[aF ec.symm];exact ak,⟨[],ak,Nat.le_refl _⟩,_,_,rfl⟩,?_,?_⟩
    ·rintro i w τ M7 hw ⟨x7,c7,⟨kvs,e7,l7⟩,x,y,rfl⟩;unfold qf at hw;rw[List.map_map] at hw;obtain⟨v,hv,rfl⟩:=fD hw;have hi:i<L.length:=(List.getElem?_eq_some_iff.mp hv).1;have hL8:L.length<=8:=by have:=congrArg List.length ly.nm;rw[List.length_map,List.length_map] at this;omega
     have hv8:=hlen v (List.mem_of_getElem? hv);refine⟨_,rfl,rfl,_,_,rfl,_,_,rfl,rfl,_,rfl,_,rfl,_,v.2.2,rfl,.d,by omega,λ zs' perm' _ q hq=>?_⟩;have qc:q≠c:=λ z=>by rw[z,c7] at hq;cases hq
     have qe:q≠e:=λ z=>by rw[z,e7] at hq;cases hq
     have hqM:=x7.none hq;refine⟨kvs,.inr v.1,by rw[aF qe.symm];exact e7,rfl,by omega,(x7.upd hqM).upd heM,by rw[aF ec.symm,aF qc.symm];exact c7,⟨_,ak,?_⟩,_,_,rfl⟩;have:∀ (t:List (Key×W)) k v,(mD t k v).length<=t.length+1:=λ t k v=>by
      unfold mD
      split<;>simp
     have:=this kvs (.inr v.1) (.m q);omega
    ·rintro τ M7 ⟨x7,c7,_,x,y,rfl⟩;exact⟨c7,K _ _ (x7.upd hcM)⟩
 ·rw[e];exact iL ⟨_,rfl,_,rfl,rfl,_,_,rfl,_,_,rfl,_,_,rfl,rfl,_,rfl,_,rfl,_,rfl,rfl,by simp,λ b hb=>KX _ _ _ b M2 x02 hb⟩
def Exb(p:Addr)(M M':MH):Prop:=∀ q o,q≠p->M q=some o->M' q=some o
theorem Exb.trans{p:Addr}{A B C:MH}(h:Exb p A B)(k:Exb p B C):Exb p A C:=λ q o n e=>k q o n (h q o n e)
theorem Exb.of{p:Addr}{M M':MH}(h:∀ q,q≠p->M' q=M q):Exb p M M':=λ q o n e=>by rw[h q n];exact e
theorem Exb.ext{p:Addr}{M M':MH}(h:Ext M M'):Exb p M M':=λ q o _ e=>h q o e
theorem Exb.upd{p:Addr}{M M':MH}{a:Addr}{o:MO}(h:Exb p M M')(ha:M a=none):Exb p M (bY M' a o):=λ q u n e=>by rw[aF λ z=>by rw[z,ha] at e;cases e];exact h q u n e
theorem Exb.none{p:Addr}{M M':MH}{q:Addr}(h:Exb p M M')(n:q≠p)(hq:M' q=none):M q=none:=by
 cases e:M q with
 | none=>rfl
 | some o=>rw[h q o n e] at hq;cases hq
def cS:SpD:=λ ws M Q=>∃ (p:Addr) (most top:Int),ws=[.m p,.d (.int most),.d (.int top)]/\Bag M p/\0<=most/\most<=8/\0<=top/\top<=6/\∀ B M',OkB B->Bag M' p->Exb p M M'->Q (.d (bsD B)) M'
theorem qS:Ln cS 3:=by rintro ws M Q ⟨p,m,t,rfl,_⟩;rfl
theorem nJ:Rd cS (mR av) ng:=by
 rintro ws M Q ⟨p,most,top,rfl,b0,ms0,ms8,t0,t6,k⟩;have s16':=s16;refine⟨_,rfl,_,rfl,.inl ⟨_,_,rfl,rfl,p,most+1,rfl,b0,by omega,by omega,λ many M1 m0 m1 b1 f1=>?_⟩⟩;refine⟨_,rfl,few (by simp),_,rfl,p,3,rfl,b1,by decide,by decide,λ w M2 w0 w1 b2 f2=>?_⟩;have x2:Exb p M M2:=(Exb.of f1).trans (Exb.of f2);have hix:ixW M2 (.d (.list [.str "m",.str "ab",.str "zz"])) w=some (.d (.str (aam w.toNat))):=by
  have:w=0\/w=1\/w=2:=by omega
  rcases this with rfl | rfl | rfl<;>rfl
 refine⟨_,_,rfl,hix,rfl,?_⟩;refine⟨_,rfl,many,rfl,by omega,by omega,?_⟩;dsimp only;have hw3:w.toNat<3:=by omega
 generalize w.toNat=wn at *;refine⟨λ i acc τ M'=>i<=many.toNat/\Bag M' p/\Exb p M M'/\∃ B:Bs,B.length=i/\(∀ (j:Nat) (r:Str×Int),B[j]? =some r->r.1=nmB wn j/\0<=r.2/\r.2<=6)/\acc=B.map bD/\∃ x,τ=[x,some (.d (.str (aam wn))),some (.m p),some (.d (.int top))],⟨Nat.zero_le _,b2,x2,[],rfl,λ j r h=>by simp at h,rfl,_,rfl⟩,?_,?_⟩
 ·rintro i v acc τ M' hv ⟨hi,b3,x3,B,hl,hB,rfl,x,rfl⟩;obtain⟨hlt,rfl⟩:=uv hv;refine⟨by rw[List.length_map];omega,?_⟩;refine⟨_,rfl,_,rfl,_,_,rfl,mK (i:=i) (by omega) (by rw[show("abcdefgh" : Str).length=8 from by decide +kernel];omega),by decide +kernel,_,rfl,_,_,rfl,rfl,(show(0:Int)<2 by decide),.inl ⟨_,_,rfl,rfl,_,_,rfl,rfl,rfl,by omega,by omega,.inr ⟨_,_,rfl,rfl,?_,?_⟩⟩⟩
  ·have:=acz wn hw3 i (by omega);unfold l5 at this;omega
  ·refine⟨_,rfl,_,rfl,.inl ⟨_,_,rfl,rfl,p,top+1,rfl,b3,by omega,by omega,λ c M4 c0 c1 b4 f4=>⟨_,rfl,few (by simp),_,rfl,?_⟩⟩⟩;refine⟨by omega,b4,x3.trans (Exb.of f4),B++[(nmB wn i,c)],by rw[List.length_append,hl];rfl,λ j r h=>?_,by rw[List.map_append];rfl,_,rfl⟩;rw[List.getElem?_append] at h
   split at h
   ·exact hB j r h
   ·have:j=i:=by have:=(List.getElem?_eq_some_iff.mp h).1;simp at this;omega
    subst this;rw[hl,Nat.sub_self] at h;cases h;exact⟨rfl,c0,by omega⟩
 ·rintro acc τ M' ⟨hi,b3,x3,B,hl,hB,rfl,x,rfl⟩;have hl':B.length<=8:=by omega
  exact k B M' (ae2 hw3 hl' hB) b3 x3
def du:SpD:=λ ws M Q=>∃ (p:Addr) (most top:Int),ws=[.m p,.d (.int most),.d (.int top)]/\Bag M p/\0<=most/\most<=8/\0<=top/\top<=6/\∀ A a M',OkA A->(A.length:Int)<=most->Bag M' p->a≠p->M' a=some (.lst ((A.map aD).map W.d))->Exb p M M'->Q (.m a) M'
theorem sL:Ln du 3:=by rintro ws M Q ⟨p,m,t,rfl,_⟩;rfl
theorem qy:Rd du (qM av) pZ:=by
 rintro ws M Q ⟨p,most,top,rfl,b0,ms0,ms8,t00,t06,k⟩;have s16':=s16;refine⟨_,rfl,_,rfl,.inl ⟨_,_,rfl,rfl,p,most+1,rfl,b0,by omega,by omega,λ many M1 m0 m1 b1 f1=>?_⟩⟩;refine⟨_,rfl,p,8,rfl,b1,by decide,by decide,λ turn M2 t0 t1 b2 f2=>?_⟩;refine⟨iT.map PyData.str,rfl,few (by decide),_,rfl,p,9,rfl,b2,by decide,by decide,λ n M3 n0 n1 b3 f3=>.inl ⟨_,_,rfl,rfl,_,rfl,_,rfl,rfl,?_⟩⟩;have x3:Exb p M M3:=((Exb.of f1).trans (Exb.of f2)).trans (Exb.of f3);have ek:D.cutD (iT.map PyData.str) none (some (1+n))=(iT.take (n.toNat+1)).map PyData.str:=by rw[show(1+n)=((n.toNat+1:Nat):Int) from by omega,zG (by rw[List.length_map];show _<=9;omega),<- List.map_take]
 rw[ek];have hk0:0<(iT.take (n.toNat+1)).length/\(iT.take (n.toNat+1)).length<=9:=by rw[List.length_take,show iT.length=9 from rfl];omega
 have hkw:∀ z∈iT.take (n.toNat+1),wd z=true:=λ z hz=>zS z (List.mem_of_mem_take hz);generalize iT.take (n.toNat+1)=ks at *;refine⟨few (by simp),λ a ha=>?_⟩;obtain⟨ob,hob⟩:=o9 b3;have pa:p≠a:=λ e=>by rw[e,ha] at hob;cases hob
 have haM:M a=none:=x3.none pa.symm ha;refine⟨_,rfl,many,rfl,by omega,by omega,?_⟩;dsimp only;have ht8:turn.toNat<8:=by omega
 refine⟨λ i τ M'=>i<=many.toNat/\Bag M' p/\Exb p M M'/\∃ A:As,A.length=i/\(∀ (j:Nat) r,A[j]? =some r->r.1=nmA turn.toNat j/\aeK r)/\M' a=some (.lst ((A.map aD).map W.d))/\∃ x7 x8,τ=[some (.m p),some (.d (.int most)),some (.d (.int top)),some (.d (.int many)),some (.d (.int turn)),some (.d (.list (ks.map PyData.str))),some (.m a),x7,x8],⟨Nat.zero_le _,dY b3 (aF pa),x3.upd haM,[],rfl,λ j r h=>by simp at h,ak,_,_,rfl⟩,?_,?_⟩
 ·rintro i v τ M' hv ⟨hi,b4,x4,A,hl,hA,h1,x7,x8,rfl⟩;obtain⟨hlt,rfl⟩:=uv hv;have hm:((0+(i:Int)+turn) % 8)=(((i+turn.toNat) % 8:Nat):Int):=by omega
  refine⟨_,rfl,_,rfl,.inl ⟨_,_,rfl,rfl,_,_,rfl,rfl,(show(0:Int)<8 by decide),_,_,rfl,mK hm (by rw[show("hgfedcba" : Str).length=8 from by decide +kernel];omega),by decide +kernel,.inr ⟨_,_,rfl,rfl,?_,_,rfl,few (by simp),?_⟩⟩⟩
  ·show("w" : Str).length+1<=sizeLine;rw[show("w" : Str).length=1 from by decide +kernel];omega
  refine⟨_,rfl,_,_,.d,.d,rfl,.inr ⟨_,rfl,_,.d (.str (nmA turn.toNat i)),rfl,?_,rfl,?_⟩⟩
  ·rw[bL];unfold nmA
   by_cases q:i=3
   ·rw[decide_eq_true (by omega),if_pos rfl,if_pos q];rfl
   ·rw[decide_eq_false (by omega),if_neg (by decide),if_neg q];rfl
  ·refine⟨_,rfl,a,_,rfl,h1,_,rfl,_,rfl,_,rfl,_,rfl,_,_,rfl,rfl,rfl,p,_,rfl,b4,?_,?_,λ y M5 y0 y1 b5 f5=>?_⟩
   ·rw[List.length_map];omega
   ·rw[List.length_map];omega
   obtain⟨kd,ekd,hkd⟩:=xS (M:=M5) (zs:=ks) y0 (by rw[List.length_map] at y1;exact y1);refine⟨_,_,rfl,ekd,rfl,_,rfl,_,rfl,.inl ⟨_,_,rfl,rfl,p,top+1,rfl,b5,by omega,by omega,λ c M6 c0 c1 b6 f6=>⟨_,rfl,few (by simp),(A.map aD).map W.d,(by rw[f6 a pa.symm,f5 a pa.symm];exact h1),(by rw[List.length_map,List.length_map];omega),?_⟩⟩⟩
   ·refine⟨by omega,dY b6 (aF pa),((x4.trans (Exb.of f5)).trans (Exb.of f6)).upd haM,A++[(nmA turn.toNat i,kd,c)],by rw[List.length_append,hl];rfl,λ j r h=>?_,by rw[ak,List.map_append,List.map_append];rfl,_,_,rfl⟩;rw[List.getElem?_append] at h
    split at h
    ·exact hA j r h
    ·have:j=i:=by have:=(List.getElem?_eq_some_iff.mp h).1;simp at this;omega
     subst this;rw[hl,Nat.sub_self] at h;cases h;exact⟨rfl,age _ ht8 _ (by omega),hkw kd hkd,c0,by dsimp only;omega⟩
 ·rintro τ M' ⟨hi,b4,x4,A,hl,hA,h1,x7,x8,rfl⟩;have hl':A.length<=8:=by omega
  exact⟨_,rfl,k A a M' (ac0 ht8 hl' hA) (by omega) b4 pa.symm h1 x4⟩
theorem zQ:∀ c<128,inS ⟨#[c]⟩ "abcdefghijklmnopqrstuvwxyz" = eE c:=by decide +kernel
def cD:SpD:=λ ws M Q=>∃ d,ws=[.d d]/\Sz d/\Q (.d (.bool (isW d))) M
theorem oM:Ln cD 1:=by rintro ws M Q ⟨d,rfl,_⟩;rfl
theorem iW:∀ (l:List Nat),ij (l.map λ c=>PyData.str ⟨#[c]⟩)=true
 | []=>rfl
 | _::l=>by simp only[List.map_cons,ij,gS,iW l,Bool.and_self]
theorem acI{α:Type}(l:List α)(f:α->PyData):aeq (.list (l.map f))=l.isEmpty:=by cases l<;>rfl
theorem zK(l:List Nat):(l.filter λ c=>!eE c).isEmpty=l.all eE:=by
 induction l with
 | nil=>rfl
 | cons c l ih =>
  rw[List.filter_cons];cases h:eE c with
  | true=>simpa [h] using ih
  | false=>simp[h]
theorem mj:Rd cD kL lN:=by
 rintro ws M Q ⟨d,rfl,hf,k⟩;have s16':=s16;refine⟨_,rfl,_,_,_,rfl,.d,.str,_,rfl,?_⟩;cases d with
 | str z =>
  obtain⟨hl,ha⟩:=hf z rfl;have hfit:vw (.d (.str z))=true:=decide_eq_true (by omega);have k':Q (.d (.bool (wd z))) M:=k;refine cN (by rw[afs];rfl) ⟨_,rfl,_,_,rfl,rfl,hfit,.inl ⟨_,_,rfl,rfl,_,rfl,?_⟩⟩
  by_cases h1:1<=z.length
  ·refine cL (decide_eq_true (show(1:Int)<=(z.length:Nat) by omega)) (.inl ⟨_,_,rfl,rfl,_,rfl,?_⟩)
   by_cases h2:z.length<=8
   ·refine cN (by rw[decide_eq_true (show((z.length:Nat):Int)<=8 by omega)];rfl) ⟨_,rfl,_,rfl,?_⟩;dsimp only;have hzl:=str_len z;refine⟨λ i acc τ M'=>M'=M/\i<=z.cps.toList.length/\acc=((z.cps.toList.take i).filter λ c=>!eE c).map (λ c=>PyData.str ⟨#[c]⟩)/\∃ x,τ=[x],⟨rfl,Nat.zero_le _,rfl,_,rfl⟩,?_,?_⟩
    ·rintro i w acc τ M' hw ⟨rfl,hi,rfl,x,rfl⟩;obtain⟨c,hc,rfl⟩:=fD hw;have hlt:=ur ha c (List.mem_of_getElem? hc);have hi':=(List.getElem?_eq_some_iff.mp hc).1;have hle:=List.length_filter_le (λ c=>!eE c) (z.cps.toList.take i);rw[List.length_take] at hle;have en:agO ⟨#[c]⟩ "abcdefghijklmnopqrstuvwxyz" = !eE c:=by unfold agO;rw[zQ c hlt]
     refine⟨by rw[List.length_map];omega,_,rfl,_,_,rfl,rfl,_,rfl,?_⟩;rw[en];cases hs:eE c with
     | true=>exact je ⟨rfl,hi',by rw[List.take_succ,hc,List.filter_append];simp[hs],_,rfl⟩
     | false=>exact iL ⟨_,rfl,_,rfl,rfl,hi',by rw[List.take_succ,hc,List.filter_append,List.map_append];simp[hs],_,rfl⟩
    ·rintro acc τ M' ⟨rfl,hi,rfl,x,rfl⟩;have en:((z.cps.toList.map λ c=>W.d (.str ⟨#[c]⟩))).length=z.cps.toList.length:=List.length_map _;refine⟨_,rfl,few (by simp),_,rfl,rfl,iW _,?_⟩;rw[acI,en,List.take_length,zK];have e:wd z=z.cps.toList.all eE:=by
      unfold wd;rw[decide_eq_true h1,decide_eq_true h2];rfl
     rw[e] at k';exact k'
   ·rw[aaT λ h=>h2 h.2] at k';exact cL (by rw[decide_eq_false (show ¬ ((z.length:Nat):Int)<=8 by omega)];rfl) k'
  ·rw[aaT λ h=>h1 h.1] at k';refine cN (decide_eq_false (show ¬ (1:Int)<=(z.length:Nat) by omega)) ?_;exact⟨_,rfl,cL rfl k'⟩
 | _=>exact cL rfl (iL k)
def cv:SpD:=λ ws M Q=>∃ d,ws=[.d d]/\Q (.d (.bool (inB 0 6 d))) M
theorem me:Ln cv 1:=by rintro ws M Q ⟨d,rfl,_⟩;rfl
theorem lD:Rd cv jS jY:=by
 rintro ws M Q ⟨d,rfl,k⟩;refine⟨_,rfl,_,_,_,rfl,.d,.int,_,rfl,?_⟩;cases d with
 | int i =>
  refine cL rfl ⟨_,rfl,_,_,_,rfl,.d,.bool,_,rfl,_,rfl,iL ⟨_,rfl,.inl ⟨_,_,rfl,rfl,_,rfl,?_⟩⟩⟩;have k':Q (.d (.bool (btw i 0 6))) M:=k;unfold btw at k'
  by_cases h:(0:Int)<=i
  ·rw[decide_eq_true h] at k' ⊢;exact iL (.inl ⟨_,_,rfl,rfl,k'⟩)
  ·rw[decide_eq_false h] at k' ⊢;exact je k'
 | bool b=>exact cL rfl ⟨_,rfl,_,_,_,rfl,.d,.bool,_,rfl,_,rfl,je k⟩
 | _=>exact cN rfl k
def bN(n:Int)(rows:List PyData)(i:Nat):Bool:=if n=2 then q0 rows i else rN rows i
def rB(n:Int)(d:PyData):Bool:=if n=2 then mrB d else arB d
def fN(n:Int)(d:PyData):Option Nat:=if n=2 then fB d else fA d
def oD:Option Nat->PyData
 | none=>.none
 | some i=>.int (i:Nat)
theorem acg(n:Int)(rows:List PyData):fN n (.list rows)=zp (bN n rows) rows.length:=by
 by_cases h:n=2
 ·simp only[fN,h,if_true,fB];congr 1
 ·simp only[fN,h,if_false,fA];congr 1;funext i;simp only[bN,h,if_false]
theorem bN8{n:Int}{rows:List PyData}{i:Nat}(h:8<=i):bN n rows i=true:=by
 unfold bN q0 rN;rw[decide_eq_true h]
 split<;>rfl
theorem bNr{n:Int}{rows:List PyData}{i:Nat}(h:rB n (at0 rows i)=false):bN n rows i=true:=by
 unfold rB at h;unfold bN q0 rN
 by_cases q:n=2
 ·rw[if_pos q] at h ⊢;rw[h];simp
 ·rw[if_neg q] at h ⊢;rw[h];simp
def cW:SpD:=λ ws M Q=>∃ (d0:PyData) (n:Int),ws=[.d d0,.d (.int n)]/\Rows d0/\(n=2\/n=3)/\Q (.d (oD (fN n d0))) M
theorem sF:Ln cW 2:=by rintro ws M Q ⟨d0,n,rfl,_⟩;rfl
theorem aiK{ds:List PyData}(h:(ds.length:Int)=2):∃ d e,ds=[d,e]:=by
 match ds,h with
 | [d,e],_=>exact⟨d,e,rfl⟩
 | [],h=>simp at h
 | [_],h=>simp at h
 | _::_::_::l,h=>simp at h;omega
theorem aiM{ds:List PyData}(h:(ds.length:Int)=3):∃ d e f,ds=[d,e,f]:=by
 match ds,h with
 | [d,e,f],_=>exact⟨d,e,f,rfl⟩
 | [],h=>simp at h
 | [_],h=>simp at h
 | [_,_],h=>simp at h
 | _::_::_::_::l,h=>simp at h;omega
theorem agx{n:Int}{ds:List PyData}(hn:n=2\/n=3)(h:¬ (ds.length:Int)=n):rB n (.tuple ds)=false:=by
 rcases hn with rfl | rfl
 ·match ds,h with
  | [d,e],h=>exact absurd rfl h
  | [],_=>rfl
  | [_],_=>rfl
  | _::_::_::l,_=>rfl
 ·match ds,h with
  | [d,e,f],h=>exact absurd rfl h
  | [],_=>rfl
  | [_],_=>rfl
  | [_,_],_=>rfl
  | _::_::_::_::l,_=>rfl
theorem qR:Rd cW (pY cv cD) qW:=by
 rintro ws M Q ⟨d0,n,rfl,hR,hn,k⟩;refine⟨_,rfl,_,_,_,rfl,.d,.list,_,rfl,?_⟩;cases d0 with
 | list rows =>
  obtain⟨hl,hrw⟩:=hR rows rfl;rw[acg] at k;refine cN (by rw[yr];rfl) ⟨_,rfl,_,_,rfl,rfl,rfl,(rows.length:Int),rfl,by omega,by omega,?_⟩;refine⟨λ i τ M'=>M'=M/\(∀ j<i,bN n rows j=false)/\∃ x2 x3,τ=[some (.d (.list rows)),some (.d (.int n)),x2,x3],⟨rfl,λ j h=>by omega,_,_,rfl⟩,?_,?_⟩
  ·rintro i w τ M' hw ⟨rfl,hall,x2,x3,rfl⟩;obtain⟨hlt,rfl⟩:=uv hw;have hi:i<rows.length:=by omega
   have bad:bN n rows i=true->Q (.d (.int (0+(i:Int)))) M':=λ h=>by rw[rH hi hall h] at k;rw[Int.zero_add];exact k
   have fine:bN n rows i=false->M'=M'/\(∀ j<i+1,bN n rows j=false)/\∃ x2 x3,[some (W.d (.list rows)),some (.d (.int n)),some (W.d (.int (0+(i:Int)))),some (W.d (at0 rows i))]=[some (.d (.list rows)),some (.d (.int n)),x2,x3]:=λ h=>⟨rfl,λ j hj=>by
    by_cases e:j=i
    ·rw[e];exact h
    ·exact hall j (by omega),_,_,rfl⟩
   refine⟨_,rfl,_,rfl,_,_,rfl,acG (i:=i) (by omega) hi,rfl,?_⟩;refine⟨_,rfl,_,_,.d,.d,rfl,_,rfl,?_⟩;rw[bL]
   by_cases h8:i=8
   ·exact cL (decide_eq_true (by omega)) (iL ⟨_,rfl,bad (bN8 (by omega))⟩)
   have h8':i<8:=by
    by_cases q:i<8
    ·exact q
    ·have:=hall 8 (by omega);rw[bN8 (Nat.le_refl _)] at this;cases this
   refine cN (decide_eq_false (by omega)) ⟨_,rfl,_,_,_,rfl,.d,.tuple,_,rfl,?_⟩;have rb:rB n (at0 rows i)=false->Q (.d (.int (0+(i:Int)))) M':=λ h=>bad (bNr h);have hRw:Rw (at0 rows i):=hrw _ (yt hi);generalize hd:at0 rows i=d at rb hRw fine ⊢;cases d with
   | tuple ds =>
    refine cN (by rw[aaV];rfl) ⟨_,rfl,_,_,rfl,rfl,rfl,_,rfl,_,_,.d,.d,rfl,_,rfl,?_⟩;rw[bL]
    by_cases hn2:(ds.length:Int)=n
    case neg=>exact cL (by rw[decide_eq_false hn2];rfl) (iL ⟨_,rfl,rb (agx hn hn2)⟩)
    refine cN (by rw[decide_eq_true hn2];rfl) ?_;obtain⟨_,hsz⟩:=hRw.2 ds rfl;rcases hn with rfl | rfl
    ·obtain⟨d,e,rfl⟩:=aiK hn2;refine⟨_,rfl,_,rfl,-1,_,rfl,rfl,rfl,e,rfl,_,rfl,?_⟩;have er:rB 2 (.tuple [d,e])=(isW d&&inB 0 6 e):=rfl;rw[er] at rb;cases hc:inB 0 6 e with
     | false=>exact iL ⟨_,rfl,rb (by rw[hc,Bool.and_false])⟩
     | true =>
     have hs:slW (.d (.tuple [d,e])) none (some (-1))=some (.d (.tuple [d])):=rfl;refine je ⟨_,rfl,_,rfl,_,rfl,_,hs,rfl,_,rfl,?_⟩;dsimp only;refine gA [d] W.d (λ d=>.bool (isW d)) (λ τ=>∃ x,τ=[x]) (by simp) ⟨_,rfl⟩ (λ d' hd' τ hτ R h=>?_) (λ τ=>?_)
     ·obtain⟨x,rfl⟩:=hτ;rw[List.mem_singleton.mp hd'] at h ⊢;exact⟨_,rfl,d,rfl,hsz d (by simp),_,rfl,h _ ⟨_,rfl⟩⟩
     refine⟨[isW d],rfl,_,rfl,?_⟩;cases hw:isW d with
     | false=>exact iL ⟨_,rfl,rb (by rw[hw,Bool.false_and])⟩
     | true =>
     have hm:mrB (at0 rows i)=true:=by rw[hd];show(isW d&&inB 0 6 e)=true;rw[hc,hw];rfl
     have eb:bN 2 rows i=(decide (0<i)&&leB (at0 rows i) (at0 rows (i-1))):=by
      unfold bN q0;rw[if_pos rfl,decide_eq_false (show ¬ 8<=i by omega),hm];simp
     rw[eb] at bad fine;refine je ⟨_,rfl,_,_,.d,.d,rfl,_,rfl,cL (by rw[bL];rfl) ⟨_,rfl,_,_,rfl,rfl,_,rfl,?_⟩⟩
     by_cases h0:0<i
     ·rw[decide_eq_true h0,Bool.true_and] at bad fine;have hj:i-1<rows.length:=by omega
      obtain⟨z,v,ez,_⟩:=vN hm;have hpre:mrB (at0 rows (i-1))=true:=by have:=hall (i-1) (by omega);unfold bN q0 at this;rw[if_pos rfl] at this;simp only[Bool.or_eq_false_iff,Bool.not_eq_false'] at this;exact this.2.1
      obtain⟨z',v',ez',_⟩:=vN hpre;have i1:ixW M' (.d (.tuple [d,e])) 0=some (.d (.str z)):=by rw[<- hd,ez];rfl
      have i2:ixW M' (.d (.list rows)) (0+(i:Int)-1)=some (.d (at0 rows (i-1))):=acG (by omega) hj;have i3:ixW M' (.d (at0 rows (i-1))) 0=some (.d (.str z')):=by rw[ez'];rfl
      have f3:vw (.d (at0 rows (i-1)))=true:=by rw[ez'];rfl
      have el:leB (at0 rows i) (at0 rows (i-1))=!decide (z'.cps.toList<z.cps.toList):=by unfold leB;rw[ez,ez'];rfl
      rw[el] at bad fine;refine cL (decide_eq_true (show(0:Int)<0+(i:Int) by omega)) ⟨_,rfl,0,_,rfl,i1,rfl,_,rfl,_,rfl,_,_,rfl,rfl,_,_,rfl,i2,rfl,0,_,rfl,i3,f3,.inr ⟨_,_,rfl,rfl,_,rfl,?_⟩⟩;exact d3 (λ h=>⟨_,rfl,bad h⟩) (λ h=>⟨_,rfl,_,_,.d,.d,rfl,_,rfl,cN (by rw[bL];rfl) (je (fine h))⟩)
     ·rw[decide_eq_false h0,Bool.false_and] at fine;exact cN (decide_eq_false (show ¬ (0:Int)<0+(i:Int) by omega)) (je ⟨_,rfl,_,_,.d,.d,rfl,_,rfl,cN (by rw[bL];rfl) (je (fine rfl))⟩)
    ·obtain⟨d,e,f,rfl⟩:=aiM hn2;refine⟨_,rfl,_,rfl,-1,_,rfl,rfl,rfl,f,rfl,_,rfl,?_⟩;have er:rB 3 (.tuple [d,e,f])=(isW d&&(isW e&&inB 0 6 f)):=rfl;rw[er] at rb;cases hc:inB 0 6 f with
     | false=>exact iL ⟨_,rfl,rb (by rw[hc,Bool.and_false,Bool.and_false])⟩
     | true =>
     have hs:slW (.d (.tuple [d,e,f])) none (some (-1))=some (.d (.tuple [d,e])):=rfl;refine je ⟨_,rfl,_,rfl,_,rfl,_,hs,rfl,_,rfl,?_⟩;dsimp only;refine gA [d,e] W.d (λ d=>.bool (isW d)) (λ τ=>∃ x,τ=[x]) (by simp) ⟨_,rfl⟩ (λ d' hd' τ hτ R h=>?_) (λ τ=>?_)
     ·obtain⟨x,rfl⟩:=hτ;have hm:d'∈[d,e,f]:=by
       rcases List.mem_cons.mp hd' with e' | e'
       ·rw[e'];simp
       ·rw[List.mem_singleton.mp e'];simp
      exact⟨_,rfl,d',rfl,hsz d' hm,_,rfl,h _ ⟨_,rfl⟩⟩
     refine⟨[isW d,isW e],rfl,_,rfl,?_⟩;have ea:([isW d,isW e].all id)=(isW d&&isW e):=by simp
     rw[ea];cases hw:(isW d&&isW e) with
     | false=>exact iL ⟨_,rfl,rb (by rw[<- Bool.and_assoc,hw,Bool.false_and])⟩
     | true =>
     have hm:arB (at0 rows i)=true:=by rw[hd];show(isW d&&(isW e&&inB 0 6 f))=true;rw[<- Bool.and_assoc,hc,hw];rfl
     have eb:bN 3 rows i=decide (nm (at0 rows i)∈(rows.take i).map nm):=by
      unfold bN rN;rw[if_neg (by decide),decide_eq_false (show ¬ 8<=i by omega),hm];simp
     rw[eb] at bad fine;obtain⟨z,y,v,ez,_⟩:=zJ hm;have i1:ixW M' (.d (.tuple [d,e,f])) 0=some (.d (.str z)):=by rw[<- hd,ez];rfl
     have en:nm (at0 rows i)=z:=by rw[ez];rfl
     rw[en] at bad fine;have hsl:slW (.d (.list rows)) none (some (0+(i:Int)))=some (.d (.list (rows.take i))):=by rw[Int.zero_add];simp only[slW,lU (show i<=rows.length by omega)]
     have hgood:∀ j<i,arB (at0 rows j)=true:=lz λ j hj=>by have:=hall j hj;unfold bN at this;rw[if_neg (by decide)] at this;exact this
     refine je ⟨_,rfl,_,_,.d,.d,rfl,_,rfl,cN (by rw[bL];rfl) (je ⟨_,rfl,_,_,.d,.d,rfl,_,rfl,cL (by rw[bL];rfl) ⟨_,rfl,0,_,rfl,i1,rfl,_,rfl,_,rfl,_,rfl,_,hsl,rfl,_,rfl,?_⟩⟩)⟩;dsimp only;refine uh (Q:=_) hl (by omega) hgood ?_;refine⟨_,rfl,?_⟩;exact d3 (λ h=>⟨_,rfl,bad h⟩) (λ h=>fine h)
   | _=>exact cL rfl (iL ⟨_,rfl,rb (by rcases hn with rfl | rfl<;>rfl)⟩)
  ·rintro τ M' ⟨rfl,hall,x2,x3,rfl⟩;have e:(nh 0 ((rows.length:Int)).toNat).length=rows.length:=by simp[nh]
   rw[e] at hall;rw[lO hall] at k;exact k
 | _ =>
  refine cL rfl ?_;rcases hn with rfl | rfl<;>exact k
def vk(d1 d2 r:PyData):Prop:=match fB d1 with
 | some i=>r=.tuple [.str "berths",.int (i:Nat)]
 | none=>match fA d2 with
  | some i=>r=.tuple [.str "asked",.int (i:Nat)]
  | none=>r=.tuple [.str "told",.int 0]\/r=.tuple [.str "no room",.int 0]
theorem adF{P:Prop}{d1 d2:PyData}{M:MH}{Q:QD}{E:Addr->MH->Prop}(f:sN d1 d2 M Q E->P)(dp:sN d1 d2 M Q E):P:=f dp
structure abT(door:Int)(d1 d2:PyData)(M:MH):Prop where
 d0:0<=door
 d5:door<5
 r1:Rows d1
 r2:Rows d2
 ne:door=2->∀ rows,d2=.list rows->rows≠[]
 c:Code M
def cu:SpD:=λ ws M Q=>∃ (door:Int) (d1 d2:PyData),ws=[.d (.int door),.d d1,.d d2]/\abT door d1 d2 M/\∀ M' r,Ext M M'->vk d1 d2 r->Q (.d r) M'
theorem l4:Ln cu 3:=by rintro ws M Q ⟨door,d1,d2,rfl,_⟩;rfl
theorem lH:Rd cu (jH cT dw cQ fk d9) jK:=by
 rintro ws M Q ⟨door,d1,d2,rfl,D,k⟩;have told:fB d1=none->fA d2=none->∀ M',Ext M M'->Q (.d (.tuple [.str "told",.int 0])) M':=λ h1 h2 M' x=>k M' _ x (by unfold vk;rw[h1,h2];exact .inl rfl);have room:fB d1=none->fA d2=none->∀ M',Ext M M'->Q (.d (.tuple [.str "no room",.int 0])) M':=λ h1 h2 M' x=>k M' _ x (by unfold vk;rw[h1,h2];exact .inr rfl);have be:∀ i,fB d1=some i->∀ M',Ext M M'->Q (.d (.tuple [.str "berths",.int (i:Nat)])) M':=λ i h1 M' x=>k M' _ x (by unfold vk;rw[h1]);have as:fB d1=none->∀ i,fA d2=some i->∀ M',Ext M M'->Q (.d (.tuple [.str "asked",.int (i:Nat)])) M':=λ h1 i h2 M' x=>k M' _ x (by unfold vk;rw[h1,h2]);apply adF (d1:=d1) (d2:=d2) (M:=M)
 ·intro dp;refine⟨_,rfl,_,_,.d,.d,rfl,_,rfl,?_⟩;rw[bL];refine d3 (λ _=>⟨_,rfl,_,rfl,d1,d2,rfl,dp⟩) (λ h0=>⟨_,rfl,_,_,.d,.d,rfl,_,rfl,?_⟩);rw[bL];refine d3 (λ _=>⟨_,rfl,_,rfl,d1,d2,rfl,dp⟩) (λ h1=>⟨_,rfl,_,_,.d,.d,rfl,_,rfl,?_⟩);rw[bL];refine d3 (λ h=>⟨_,rfl,_,rfl,d1,d2,rfl,D.ne (of_decide_eq_true h),dp⟩) (λ h2=>⟨_,rfl,_,_,.d,.d,rfl,_,rfl,?_⟩);rw[bL];refine d3 (λ _=>⟨_,rfl,_,rfl,d1,d2,rfl,dp⟩) (λ h4=>⟨_,rfl,_,rfl,d1,d2,rfl,D.c,dp,λ hb ha x1 x2 x3 a M1 xM hM1=>?_⟩);have e3:door=3:=by have z0:=of_decide_eq_false h0;have z1:=of_decide_eq_false h1;have z2:=of_decide_eq_false h2;have z4:=of_decide_eq_false h4;have:=D.d0;have:=D.d5;omega
  subst e3;refine⟨aC,_,true,ak,rfl,?_⟩;rw[if_pos rfl];refine⟨_,rfl,a,_,_,_,rfl,ak,rfl,_,rfl,a,_,_,_,rfl,ak,rfl,_,rfl,a,_,_,_,rfl,ak,rfl,_,rfl,few (by simp),?_⟩;refine⟨_,rfl,_,rfl,few (by simp),_,_,.d,.d,rfl,_,rfl,cN (by decide +kernel) ?_⟩;refine⟨_,rfl,_,rfl,few (by simp),_,_,.d,.d,rfl,_,rfl,cN (by decide +kernel) ?_⟩;refine⟨_,rfl,few (by simp),_,rfl,a,_,_,_,rfl,ak,rfl,_,rfl,iL ⟨_,rfl,_,_,.d,.d,rfl,.inr ⟨_,rfl,?_⟩⟩⟩;rw[bL];exact⟨1,_,rfl,rfl,rfl,_,rfl,few (by simp),room hb ha _ (xM.upd (xM.none hM1))⟩
 ·refine⟨D.r1,D.r2,λ i hb a ha=>?_,λ hb i hi a ha=>?_,λ hb ha w M' xM=>⟨_,rfl,few (by simp),told hb ha M' xM⟩⟩
  ·refine⟨aw,_,true,ak,rfl,?_⟩;rw[if_pos rfl];refine⟨_,rfl,a,_,_,_,rfl,ak,rfl,_,rfl,a,_,_,_,rfl,ak,rfl,_,rfl,a,_,_,_,rfl,ak,rfl,_,rfl,few (by simp),?_⟩;exact⟨_,rfl,_,rfl,few (by simp),_,_,.d,.d,rfl,_,rfl,cL (by decide +kernel) ⟨_,rfl,a,_,_,_,rfl,ak,by simp,rfl,_,rfl,few (by simp),be i hb _ (Ext.new ha)⟩⟩
  ·refine⟨aA,_,true,ak,rfl,?_⟩;rw[if_pos rfl];refine⟨_,rfl,a,_,_,_,rfl,ak,rfl,_,rfl,a,_,_,_,rfl,ak,rfl,_,rfl,a,_,_,_,rfl,ak,rfl,_,rfl,few (by simp),?_⟩;refine⟨_,rfl,_,rfl,few (by simp),_,_,.d,.d,rfl,_,rfl,cN (by decide +kernel) ?_⟩;exact⟨_,rfl,_,rfl,few (by simp),_,_,.d,.d,rfl,_,rfl,cL (by decide +kernel) ⟨_,rfl,a,_,_,_,rfl,ak,by simp,rfl,_,rfl,few (by simp),as hb i hi _ (Ext.new ha)⟩⟩
def a9:SpD:=λ ws M Q=>∃ (door:Int) (d1 d2:PyData),ws=[.d (.int door),.d d1,.d d2]/\abT door d1 d2 M/\eP (.list [d1,d2])=true/\∀ M',Ext M M'->Q (.d (.bool true)) M'
theorem rR:Ln a9 3:=by rintro ws M Q ⟨door,d1,d2,rfl,_⟩;rfl
theorem xU(z:Str):PyData.eqv (.str z) (.str z)=true:=by rw[PyData.eqv];exact beq_self_eq_true _
theorem t8(z:Str)(i:Int):PyData.eqv (.tuple [.str z,.int i]) (.tuple [.str z,.int i])=true:=by simp[PyData.eqv,PyData.eqvAll]
theorem pA{z:Str}(h:aby z=true)(i:Int):gj (.tuple [.str z,.int i]) (.tuple [.str z,.int i])=true:=by have hs:=acu h;simp[gj,vD,SeqAt.shaped,PyData.canLay0,PyData.canLayAll0,PyData.depth,PyData.depthAll,PyData.hasDict,PyData.hasDictAll,hs]
theorem qt:Rd a9 (pU cu cW) qJ:=by
 rintro ws M Q ⟨door,d1,d2,rfl,D,hr,k⟩;refine⟨_,rfl,_,rfl,_,rfl,few (by simp),_,_,rfl,.d,hr,?_⟩;refine⟨_,rfl,_,rfl,_,rfl,door,d1,d2,rfl,D,λ M1 r x1 hans=>?_⟩;have k1:=k M1 x1;refine⟨_,rfl,_,rfl,_,rfl,few (by simp),_,_,rfl,.d,hr,_,rfl,_,_,.d,.d,rfl,_,rfl,cN (by rw[xU];rfl) ?_⟩;refine⟨_,rfl,d1,2,rfl,D.r1,.inl rfl,_,rfl,d2,3,rfl,D.r2,.inr rfl,_,_,rfl,?_⟩;have e1:fN 2 d1=fB d1:=rfl;have e2:fN 3 d2=fA d2:=rfl;rw[e1,e2];refine⟨_,rfl,rfl,_,rfl,?_⟩;unfold vk at hans;cases hb:fB d1 with
 | some i =>
  rw[hb] at hans;dsimp only at hans;subst hans;refine cL rfl ⟨_,rfl,_,rfl,_,rfl,few (by simp),_,_,.d,.d,pA (z:= "berths") (by decide +kernel) _,?_⟩;show Q (.d (.bool (PyData.eqv (.tuple [.str "berths",.int (i:Nat)]) (.tuple [.str "berths",.int (i:Nat)])))) M1;rw[t8];exact k1
 | none =>
  rw[hb] at hans;dsimp only at hans;refine cN rfl ⟨_,rfl,rfl,_,rfl,?_⟩;cases ha:fA d2 with
  | some i =>
   rw[ha] at hans;dsimp only at hans;subst hans;refine cL rfl ⟨_,rfl,_,rfl,_,rfl,few (by simp),_,_,.d,.d,pA (z:= "asked") (by decide +kernel) _,?_⟩;show Q (.d (.bool (PyData.eqv (.tuple [.str "asked",.int (i:Nat)]) (.tuple [.str "asked",.int (i:Nat)])))) M1;rw[t8];exact k1
  | none =>
   rw[ha] at hans;dsimp only at hans;refine cN rfl ⟨_,rfl,_,rfl,few (by simp),_,rfl,few (by simp),_,rfl,few (by simp),?_⟩;rcases hans with rfl | rfl
   ·exact⟨_,[.tuple [.str "told",.int 0],.tuple [.str "no room",.int 0]],.d,.inl .d,by decide +kernel,by rw[show inA (.tuple [.str "told",.int 0]) [.tuple [.str "told",.int 0],.tuple [.str "no room",.int 0]]=true from by decide +kernel];exact k1⟩
   ·exact⟨_,[.tuple [.str "told",.int 0],.tuple [.str "no room",.int 0]],.d,.inl .d,by decide +kernel,by rw[show inA (.tuple [.str "no room",.int 0]) [.tuple [.str "told",.int 0],.tuple [.str "no room",.int 0]]=true from by decide +kernel];exact k1⟩
structure Bd(b k:Nat)(d:PyData):Prop where
 f:eX d=true
 l:gS d=true
 k:d.depth<=k
 b:big d<=b
theorem Bd.mono{b k b' k':Nat}{d:PyData}(h:Bd b k d)(hb:b<=b')(hk:k<=k'):Bd b' k' d:=⟨h.f,h.l,Nat.le_trans h.k hk,Nat.le_trans h.b hb⟩
theorem Bd.rp{b k:Nat}{d:PyData}(h:Bd b k d)(hb:b<=4000000)(hk:k<=60):eP d=true:=aae h.f (Nat.le_trans h.b hb) (Nat.le_trans h.k hk) h.l
theorem ahx{b k:Nat}:∀ {ds:List PyData},(∀ d∈ds,Bd b k d)->mi ds=true/\ij ds=true/\PyData.depthAll ds<=k
 | [],_=>by simp[mi,ij,PyData.depthAll]
 | d::ds,h=>by obtain⟨h1,h2,h3⟩:=ahx (ds:=ds) λ x hx=>h x (by simp[hx]);have hd:=h d (by simp);refine⟨by simp[mi,hd.f,h1],by simp[ij,hd.l,h2],?_⟩;have:=hd.k;simp only[PyData.depthAll];omega
theorem abE{b k:Nat}{ds:List PyData}(h:∀ d∈ds,Bd b k d):Bd (ds.length * (b+2)+3) (k+1) (.tuple ds):=by obtain⟨h1,h2,h3⟩:=ahx h;have h4:=sg (c:=b) λ d hd=>(h d hd).b;exact⟨by simpa only[eX] using h1,by simpa only[gS] using h2,by simp only[PyData.depth];omega,by simp only[big];omega⟩
theorem yQ{b k:Nat}{ds:List PyData}(h:∀ d∈ds,Bd b k d):Bd (ds.length * (b+2)+3) (k+1) (.list ds):=by obtain⟨h1,h2,h3⟩:=ahx h;have h4:=sg (c:=b) λ d hd=>(h d hd).b;exact⟨by simpa only[eX] using h1,by simpa only[gS] using h2,by simp only[PyData.depth];omega,by simp only[big];omega⟩
theorem bd3{d:PyData}(h:(eX d&&gS d&&decide (d.depth<=3)&&decide (big d<=2000))=true):Bd 2000 3 d:=by simp only[Bool.and_eq_true,decide_eq_true_eq] at h;exact⟨h.1.1.1,h.1.1.2,h.1.2,h.2⟩
abbrev Sm(d:PyData):Prop:=Bd 2000 3 d
theorem Bd.sz{k:Nat}{d:PyData}(h:Bd 2000 k d):Sz d:=by
 rintro z rfl;have h1:=h.b;have h2:=h.f;simp only[big] at h1;simp only[eX] at h2;exact⟨by omega,h2⟩
structure Rg(d:PyData):Prop where
 b:Bd 20000 5 d
 s:Sz d
 t:∀ ds,d=.tuple ds->ds.length<=4/\∀ x∈ds,Sm x
theorem Rg.rw{d:PyData}(h:Rg d):Rw d:=⟨h.s,λ ds e=>⟨by have:=(h.t ds e).1;omega,λ x hx=>((h.t ds e).2 x hx).sz⟩⟩
theorem eQ{ds:List PyData}(hl:ds.length<=4)(h:∀ x∈ds,Sm x):Rg (.tuple ds):=
 ⟨(abE h).mono (by omega) (by omega),λ z e=>(by cases e),λ ds' e=>(by cases e;exact⟨hl,h⟩)⟩
theorem afl{ds:List PyData}(hl:ds.length<=4)(h:∀ x∈ds,Sm x):Rg (.list ds):=
 ⟨(yQ h).mono (by omega) (by omega),λ z e=>(by cases e),λ ds' e=>by cases e⟩
theorem adW:Rg .none:=⟨(bd3 (by decide +kernel)).mono (by omega) (by omega),λ z e=>(by cases e),λ ds' e=>by cases e⟩
theorem aii:Rg (.str "ab"):=⟨(bd3 (by decide +kernel)).mono (by omega) (by omega),(bd3 (d:=.str "ab") (by decide +kernel)).sz,λ ds' e=>by cases e⟩
theorem iY{a b:List PyData}(h:∀ x∈a,Sm x)(k:∀ x∈b,Sm x):∀ x∈a++b,Sm x:=λ x hx=>by
 rcases List.mem_append.mp hx with hx | hx
 ·exact h x hx
 ·exact k x hx
theorem jZ{d:PyData}(h:Sm d):∀ x∈[d],Sm x:=λ x hx=>by rw[List.mem_singleton.mp hx];exact h
def vM(ws:List W):Prop:=∀ w∈ws,∃ d,w=.d d/\Rg d
theorem vM.nil:vM []:=λ w h=>by cases h
theorem vM.cons{d:PyData}{ws:List W}(h:Rg d)(k:vM ws):vM (.d d::ws):=λ w hw=>by
 rcases List.mem_cons.mp hw with rfl | hw
 ·exact⟨d,rfl,h⟩
 ·exact k w hw
theorem vM.app{ws vs:List W}(h:vM ws)(k:vM vs):vM (ws++vs):=λ w hw=>by
 rcases List.mem_append.mp hw with hw | hw
 ·exact h w hw
 ·exact k w hw
structure Pts(rs a b c g:List PyData):Prop where
 s1:slW (.d (.tuple rs)) none (some (-1))=some (.d (.tuple a))
 s2:slW (.d (.tuple rs)) (some 1) none=some (.d (.tuple b))
 s3:slW (.d (.tuple rs)) none (some 1)=some (.d (.tuple c))
 s4:slW (.d (.tuple rs)) (some (-1)) none=some (.d (.tuple g))
 a0:a≠[]
 c0:c≠[]
 al:a.length<=2
 bl:b.length<=2
 cl:c.length<=1
 gl:g.length<=1
 am:∀ x∈a,x∈rs
 bm:∀ x∈b,x∈rs
 cm:∀ x∈c,x∈rs
 gm:∀ x∈g,x∈rs
theorem my{rs:List PyData}(h:rs.length=2\/rs.length=3):∃ a b c g,Pts rs a b c g:=by
 rcases h with h | h
 ·obtain⟨d,e,rfl⟩:=aiK (ds:=rs) (by omega);exact⟨[d],[e],[d],[e],rfl,rfl,rfl,rfl,by simp,by simp,by simp,by simp,by simp,by simp,by simp,by simp,by simp,by simp⟩
 ·obtain⟨d,e,f,rfl⟩:=aiM (ds:=rs) (by omega);exact⟨[d,e],[e,f],[d],[f],rfl,rfl,rfl,rfl,by simp,by simp,by simp,by simp,by simp,by simp,(by intro x hx;simp only[List.mem_cons,List.not_mem_nil,or_false] at hx ⊢;rcases hx with h | h<;>simp[h]),(by intro x hx;simp only[List.mem_cons,List.not_mem_nil,or_false] at hx ⊢;rcases hx with h | h<;>simp[h]),by simp,by simp⟩
def pG:List PyData:=[.str "A",.str "",.str "abcdefghi",.str "a1",.int 5,.tuple [.str "k"],.none,.list [.str "k"]]
theorem yW:∀ d∈pG,Sm d:=by intro d hd;simp only[pG,List.mem_cons,List.not_mem_nil,or_false] at hd;rcases hd with rfl | rfl | rfl | rfl | rfl | rfl | rfl | rfl<;>exact bd3 (by decide +kernel)
def bF:SpD:=λ ws M Q=>∃ (p:Addr) (rs:List PyData),ws=[.m p,.d (.tuple rs)]/\Bag M p/\(rs.length=2\/rs.length=3)/\(∀ x∈rs,Sm x)/\∀ (d:PyData) M',Rg d->Bag M' p->Exb p M M'->Q (.d d) M'
theorem oK:Ln bF 2:=by rintro ws M Q ⟨p,rs,rfl,_⟩;rfl
def abj(av:SpD):TSd:=
  bp (ou (dJ (gW (ae (dS "A") (ae (dS "") (ae (dS "abcdefghi") (ae (dS "a1") (ae (dI 5) (ae (dF (ae (dS "k") (aB))) (ae (dC (.d .none)) (ae (gW (ae (dS "k") (aB))) (aB))))))))))) (gN 3)
   (iu (gv (ai 2) (dOp bP (dOp bP (dSl (ai 1) (aK) (bE (dI 1))) (dOp xh (dF (ae (ai 3) (aB))) (dOp xr (dCB fT (ae (ai 1) (aB))) (dI 2)))) (dSl (ai 1) (bE (dUn gR (dI 1))) (aK)))))) <|
  de (dOp cY (ai 2) (bf av (ae (ai 0) (ae (dCB fT (ae (ai 2) (aB))) (aB)))))
def abN(av:SpD):TSd:=
  bp (cB (dOp la (ai 2) (gy (ae (dOp bP (dF (ae (gW (ae (dS "ab") (aB))) (aB))) (dSl (ai 1) (bE (dI 1)) (aK))) (ae (dOp bP (dF (ae (tN) (aB))) (dSl (ai 1) (bE (dI 1)) (aK))) (aB))))) (gN 2)) <|
  abj av
def ab6(av:SpD):TSd:=
  bp (cB (dOp la (ai 2) (gy (ae (dOp bP (dF (ae (dI 5) (aB))) (dSl (ai 1) (bE (dI 1)) (aK))) (ae (dOp bP (dF (ae (dC (.d .none)) (aB))) (dSl (ai 1) (bE (dI 1)) (aK))) (ae (dOp bP (dF (ae (dS "a1") (aB))) (dSl (ai 1) (bE (dI 1)) (aK))) (ae (dOp bP (dF (ae (dF (aB)) (aB))) (dSl (ai 1) (bE (dI 1)) (aK))) (ae (dF (aB)) (aB)))))))) (gN 2)) <|
  abN av
def agf(av:SpD):TSd:=
  bp (cB (dOp la (ai 2) (gy (ae (dOp bP (dSl (ai 1) (aK) (bE (dUn gR (dI 1)))) (dF (ae (dS "1") (aB)))) (ae (dOp bP (dSl (ai 1) (aK) (bE (dUn gR (dI 1)))) (dF (ae (dC (.d .none)) (aB)))) (ae (dOp bP (dF (ae (dS "") (aB))) (dSl (ai 1) (bE (dI 1)) (aK))) (ae (dOp bP (dF (ae (dS "Ab") (aB))) (dSl (ai 1) (bE (dI 1)) (aK))) (ae (dOp bP (dF (ae (dS "abcdefghi") (aB))) (dSl (ai 1) (bE (dI 1)) (aK))) (aB)))))))) (gN 2)) <|
  ab6 av
structure OSt(M M1:MH)(p q:Addr)(L:List W)(n:Nat):Prop where
 g:Bag M1 p
 x:Exb p M M1
 m:M1 q=some (.lst L)
 a:vM L
 l:L.length=n
 n:M q=none
 ne:q≠p
structure RSm(rs:List PyData):Prop where
 l:rs.length=2\/rs.length=3
 m:∀ x∈rs,Sm x
theorem OSt.cat{M M1:MH}{p q p1 p2:Addr}{L L':List W}{n:Nat}(h:OSt M M1 p q L n)(hp1:M1 p1=none)(hp2:bY M1 p1 (.lst L') p2=none)(a':vM L'):OSt M (bY (bY M1 p1 (.lst L')) p2 (.lst (L++L'))) p p2 (L++L') (n+L'.length):=by
 have e21:p2≠p1:=λ e=>by rw[e,ak] at hp2;cases hp2
 have hp2':M1 p2=none:=by rw[aF e21] at hp2;exact hp2
 obtain⟨o,ho⟩:=o9 h.g;have e1:p≠p1:=λ e=>by rw[e,hp1] at ho;cases ho
 have e2:p≠p2:=λ e=>by rw[e,hp2'] at ho;cases ho
 have n1:=h.x.none e1.symm hp1;have n2:=h.x.none e2.symm hp2';exact⟨dY (dY h.g (aF e1)) (aF e2),(h.x.upd n1).upd n2,ak,h.a.app a',by rw[List.length_append,h.l],n2,e2.symm⟩
theorem aez{a:List PyData}(h:a.length<=3){d:PyData}:a.length+[d].length<=sizeLine:=by have:=s16;simp;omega
theorem zi{a:List PyData}(h:a.length<=3){d:PyData}:[d].length+a.length<=sizeLine:=by have:=s16;simp;omega
theorem gp{d:PyData}:[d]≠[]:=by simp
theorem ah5{L:List W}{n:Nat}(h:L.length=n)(hn:n<=50)(k:Nat)(hk:k<=50):L.length+k<=sizeLine:=by have:=s16;omega
abbrev τo(p q:Addr)(rs:List PyData)(x:Option W):DS:=[some (.m p),some (.d (.tuple rs)),some (.m q),x]
theorem ajt{M M1:MH}{p q:Addr}{L:List W}{rs:List PyData}{Q:QD}(R:RSm rs)(h:OSt M M1 p q L 20)(k:∀ (d:PyData) M',Rg d->Bag M' p->Exb p M M'->Q (.d d) M') :
  abj av (EdQ Q) (τo p q rs none) M1:=by
 have s16':=s16;have hlen:=R.l;obtain⟨a,b,c,g,P⟩:=my hlen;have hC:∀ x∈c,Sm x:=λ x hx=>R.m x (P.cm x hx);have hG:∀ x∈g,Sm x:=λ x hx=>R.m x (P.gm x hx);have cl:=P.cl;have gl:=P.gl;refine⟨_,rfl,few (by simp),_,rfl,few (by simp),pG,rfl,few (by simp[pG]),_,rfl,?_⟩;refine⟨λ i τ M'=>(∃ L',OSt M M' p q L' (20+i))/\∃ x,τ=τo p q rs x,⟨⟨L,h⟩,_,rfl⟩,?_,?_⟩
 ·rintro i w τ M' hw ⟨⟨L',h'⟩,x,rfl⟩;obtain⟨kd,hk,rfl⟩:=fD hw;have hi:i<8:=(List.getElem?_eq_some_iff.mp hk).1;have hkd:=yW kd (List.mem_of_getElem? hk);have hn:((rs.length:Nat):Int)-2=0\/((rs.length:Nat):Int)-2=1:=by omega
  have hml:(if ((rs.length:Nat):Int)-2=1 then [kd] else []).length<=1:=by split<;>simp
  have hmm:∀ x∈(if ((rs.length:Nat):Int)-2=1 then [kd] else []),Sm x:=by
   split
   ·exact jZ hkd
   ·intro x hx;cases hx
  have hll:=h'.l;refine⟨_,rfl,q,L',rfl,h'.m,_,rfl,_,rfl,_,P.s3,rfl,_,rfl,_,rfl,few (by simp),_,rfl,_,_,rfl,rfl,rfl,_,_,rfl,rfl,_,_,rfl,rfl,gp,hn,?_⟩;generalize (if ((rs.length:Nat):Int)-2=1 then [kd] else [])=mm at hml hmm;refine⟨_,_,rfl,rfl,P.c0,by omega,_,rfl,_,rfl,_,rfl,_,P.s4,rfl,_,_,rfl,rfl,?_,?_,L',h'.m,by omega,?_⟩
  ·intro e;exact P.c0 (List.append_eq_nil_iff.mp e).1
  ·rw[List.length_append];omega
  refine⟨⟨L'++[.d (.tuple (c++mm++g))],dY h'.g (aF h'.ne.symm),h'.x.upd h'.n,ak,h'.a.app (.cons (eQ (by rw[List.length_append,List.length_append];omega) (iY (iY hC hmm) hG)) .nil),by rw[List.length_append,hll];rfl,h'.n,h'.ne⟩,_,rfl⟩
 ·rintro τ M' ⟨⟨L',h'⟩,x,rfl⟩;have hll:=h'.l;rw[show(pG.map W.d).length=8 from rfl] at hll;refine⟨_,rfl,_,rfl,_,rfl,_,L'.length,rfl,by simp only[abS,h'.m],rfl,p,(L'.length:Nat),rfl,h'.g,by omega,by omega,λ r M2 r0 r1 g2 f2=>?_⟩;have hm2:M2 q=some (.lst L'):=by rw[f2 q h'.ne];exact h'.m
  obtain⟨d,ed,hd⟩:=h'.a _ (List.getElem_mem (show r.toNat<L'.length by omega));exact⟨r,.d d,rfl,mF hm2 (by rw[yJ r0 r1,ed]),rfl,k d M2 hd g2 (h'.x.trans (Exb.of f2))⟩
theorem ajg{M M1:MH}{p q:Addr}{L:List W}{rs:List PyData}{Q:QD}(R:RSm rs)(h:OSt M M1 p q L 18)(k:∀ (d:PyData) M',Rg d->Bag M' p->Exb p M M'->Q (.d d) M') :
  abN av (EdQ Q) (τo p q rs none) M1:=by
 obtain⟨a,b,c,g,P⟩:=my R.l;have hB:∀ x∈b,Sm x:=λ x hx=>R.m x (P.bm x hx);have bl:b.length<=3:=by have:=P.bl;omega
 have rb:∀ {d},Sm d->Rg (.tuple ([d]++b)):=λ h=>eQ (by have:=P.bl;simp;omega) (iY (jZ h) hB);refine⟨_,rfl,_,rfl,few (by simp),_,rfl,few (by simp),_,rfl,_,rfl,_,P.s2,rfl,_,_,rfl,rfl,gp,zi bl,?_⟩;refine⟨_,rfl,few (by simp),_,rfl,_,rfl,_,P.s2,rfl,_,_,rfl,rfl,gp,zi bl,few (by simp),λ p1 hp1=>?_⟩;refine⟨q,p1,_,_,rfl,rfl,nQ h.m hp1,ak,ah5 h.l (by omega) 2 (by omega),λ p2 hp2=>?_⟩;exact ajt R (h.cat hp1 hp2 (.cons (rb (bd3 (by decide +kernel))) (.cons (rb (bd3 (by decide +kernel))) .nil))) k
theorem ajv{M M1:MH}{p q:Addr}{L:List W}{rs:List PyData}{Q:QD}(R:RSm rs)(h:OSt M M1 p q L 13)(k:∀ (d:PyData) M',Rg d->Bag M' p->Exb p M M'->Q (.d d) M') :
  ab6 av (EdQ Q) (τo p q rs none) M1:=by
 obtain⟨a,b,c,g,P⟩:=my R.l;have hB:∀ x∈b,Sm x:=λ x hx=>R.m x (P.bm x hx);have bl:b.length<=3:=by have:=P.bl;omega
 have rb:∀ {d},Sm d->Rg (.tuple ([d]++b)):=λ h=>eQ (by have:=P.bl;simp;omega) (iY (jZ h) hB);refine⟨_,rfl,_,rfl,few (by simp),_,rfl,_,rfl,_,P.s2,rfl,_,_,rfl,rfl,gp,zi bl,?_⟩;refine⟨_,rfl,few (by simp),_,rfl,_,rfl,_,P.s2,rfl,_,_,rfl,rfl,gp,zi bl,?_⟩;refine⟨_,rfl,few (by simp),_,rfl,_,rfl,_,P.s2,rfl,_,_,rfl,rfl,gp,zi bl,?_⟩;refine⟨_,rfl,few (by simp),_,rfl,few (by simp),_,rfl,_,rfl,_,P.s2,rfl,_,_,rfl,rfl,gp,zi bl,_,rfl,few (by simp),few (by simp),λ p1 hp1=>?_⟩;refine⟨q,p1,_,_,rfl,rfl,nQ h.m hp1,ak,ah5 h.l (by omega) 5 (by omega),λ p2 hp2=>?_⟩;exact ajg R (h.cat hp1 hp2 (.cons (rb (bd3 (by decide +kernel))) (.cons (rb (bd3 (by decide +kernel))) (.cons (rb (bd3 (by decide +kernel))) (.cons (rb (bd3 (by decide +kernel))) (.cons (eQ (by simp) (by simp)) .nil)))))) k
theorem ajc{M M1:MH}{p q:Addr}{L:List W}{rs:List PyData}{Q:QD}(R:RSm rs)(h:OSt M M1 p q L 8)(k:∀ (d:PyData) M',Rg d->Bag M' p->Exb p M M'->Q (.d d) M') :
  agf av (EdQ Q) (τo p q rs none) M1:=by
 obtain⟨a,b,c,g,P⟩:=my R.l;have hB:∀ x∈b,Sm x:=λ x hx=>R.m x (P.bm x hx);have hA:∀ x∈a,Sm x:=λ x hx=>R.m x (P.am x hx);have al:a.length<=3:=by have:=P.al;omega
 have bl:b.length<=3:=by have:=P.bl;omega
 have rb:∀ {d},Sm d->Rg (.tuple ([d]++b)):=λ h=>eQ (by have:=P.bl;simp;omega) (iY (jZ h) hB);have ra:∀ {d},Sm d->Rg (.tuple (a++[d])):=λ h=>eQ (by have:=P.al;simp;omega) (iY hA (jZ h));refine⟨_,rfl,_,rfl,_,rfl,_,rfl,_,P.s1,rfl,_,rfl,few (by simp),_,_,rfl,rfl,P.a0,aez al,?_⟩;refine⟨_,rfl,_,rfl,_,rfl,_,P.s1,rfl,_,rfl,few (by simp),_,_,rfl,rfl,P.a0,aez al,?_⟩;refine⟨_,rfl,few (by simp),_,rfl,_,rfl,_,P.s2,rfl,_,_,rfl,rfl,gp,zi bl,?_⟩;refine⟨_,rfl,few (by simp),_,rfl,_,rfl,_,P.s2,rfl,_,_,rfl,rfl,gp,zi bl,?_⟩;refine⟨_,rfl,few (by simp),_,rfl,_,rfl,_,P.s2,rfl,_,_,rfl,rfl,gp,zi bl,few (by simp),λ p1 hp1=>?_⟩;refine⟨q,p1,_,_,rfl,rfl,nQ h.m hp1,ak,ah5 h.l (by omega) 5 (by omega),λ p2 hp2=>?_⟩;exact ajv R (h.cat hp1 hp2 (.cons (ra (bd3 (by decide +kernel))) (.cons (ra (bd3 (by decide +kernel))) (.cons (rb (bd3 (by decide +kernel))) (.cons (rb (bd3 (by decide +kernel))) (.cons (rb (bd3 (by decide +kernel))) .nil)))))) k
theorem l0:Rd bF (kO av) kR:=by
 rintro ws M Q ⟨p,rs,rfl,hb,hlen,hrs,k⟩;have s16':=s16;obtain⟨a,b,c,g,P⟩:=my hlen;have hrl:rs.length<=3:=by omega
 have hr0:rs≠[]:=λ e=>by rw[e] at hlen;simp at hlen
 have hA:∀ x∈a,Sm x:=λ x hx=>hrs x (P.am x hx);have al:a.length<=3:=by have:=P.al;omega
 have ra:∀ {d},Sm d->Rg (.tuple (a++[d])):=λ h=>eQ (by have:=P.al;simp;omega) (iY hA (jZ h));refine⟨_,rfl,_,_,rfl,.t,λ z hz=>⟨z,rs,rfl,ak,?_⟩⟩;rw[ow hz];refine⟨_,rfl,_,rfl,_,rfl,_,P.s1,rfl,_,rfl,_,rfl,few (by simp),_,_,rfl,rfl,hr0,aez hrl,?_⟩;refine⟨_,rfl,_,rfl,_,rfl,_,P.s1,rfl,_,rfl,few (by simp),_,_,rfl,rfl,P.a0,aez al,?_⟩;refine⟨_,rfl,_,rfl,_,rfl,_,P.s1,rfl,_,rfl,_,rfl,few (by simp),_,_,rfl,rfl,P.a0,aez al,?_⟩;refine⟨_,rfl,_,rfl,_,rfl,_,P.s1,rfl,_,rfl,few (by simp),_,_,rfl,rfl,P.a0,aez al,few (by simp),λ p1 hp1=>?_⟩;have pp1:p≠p1:=λ e=>by obtain⟨o,ho⟩:=o9 hb;rw[e,hp1] at ho;cases ho
 exact ajc ⟨hlen,hrs⟩ ⟨dY hb (aF pp1),Exb.ext (Ext.new hp1),ak,.cons (afl (by omega) hrs) (.cons (eQ (by omega) hA) (.cons (eQ (by simp;omega) (iY hrs (jZ (bd3 (by decide +kernel))))) (.cons adW (.cons aii (.cons (ra (bd3 (by decide +kernel))) (.cons (ra (bd3 (by decide +kernel))) (.cons (ra (bd3 (by decide +kernel))) .nil))))))),rfl,hp1,pp1.symm⟩ k
structure Wh(n:Nat)(d:PyData):Prop where
 b:Bd 700000 7 d
 l:∀ ds,d=.list ds->ds.length<=n/\∀ x∈ds,Rg x
theorem jr{n:Nat}{ds:List PyData}(hn:n<=30)(hl:ds.length<=n)(h:∀ x∈ds,Rg x):Wh n (.list ds):=
 ⟨(yQ λ x hx=>(h x hx).b).mono (by omega) (by omega),λ ds' e=>(by cases e;exact⟨hl,h⟩)⟩
theorem aid{n:Nat}{d:PyData}(h:Sm d)(hn:∀ ds,d ≠ .list ds):Wh n d:=⟨h.mono (by omega) (by omega),λ ds e=>absurd e (hn ds)⟩
theorem Wh.rows{n:Nat}{d:PyData}(hn:n<=30)(h:Wh n d):Rows d:=λ ds e=>⟨by have:=(h.l ds e).1;omega,λ x hx=>((h.l ds e).2 x hx).rw⟩
theorem jX{a b:List PyData}(h:∀ x∈a,Rg x)(k:∀ x∈b,Rg x):∀ x∈a++b,Rg x:=λ x hx=>by
 rcases List.mem_append.mp hx with hx | hx
 ·exact h x hx
 ·exact k x hx
theorem ue{d:PyData}(h:Rg d):∀ x∈[d],Rg x:=λ x hx=>by rw[List.mem_singleton.mp hx];exact h
def cq:SpD:=λ ws M Q=>∃ (p:Addr) (ds rs:List PyData),ws=[.m p,.d (.list ds),.d (.tuple rs)]/\Bag M p/\ds.length<=16/\(∀ x∈ds,Rg x)/\RSm rs/\∀ (d:PyData) M',Wh (ds.length+8) d->Bag M' p->Exb p M M'->Q (.d d) M'
theorem vz:Ln cq 3:=by rintro ws M Q ⟨p,ds,rs,rfl,_⟩;rfl
def adu(bF:SpD):TSd:=
  bp (dIf (aZ (dOp ahc (ai 4) (dI 5)))
   (de (rj (rj (dSl (ai 3) (aK) (bE (ai 5))) (gW (ae (bf bF (ae (ai 0) (ae (ai 6) (aB)))) (aB)))) (dSl (ai 3) (bE (dOp dq (ai 5) (dOp eV (ai 4) (dI 2)))) (aK))))
   (cf)) <|
  bp (dIf (aZ (dOp ee (ai 4) (dI 5)))
   (de (rj (rj (dSl (ai 3) (aK) (bE (ai 5))) (gW (ae (ai 6) (aB)))) (dSl (ai 3) (bE (ai 5)) (aK))))
   (cf)) <|
  bp (dIf (aZ (dOp ee (ai 4) (dI 6)))
   (de (rj (ai 3) (dLC (dJ (dS "nopqrstu")) (gN 0) (rm) (dOp bP (dF (ae (dOp dq (ai 0) (dS "z")) (aB))) (dSl (ai 1) (bE (dI 1)) (aK))) 1 [2])))
   (cf)) <|
  de (rj (dSl (ai 3) (bE (ai 5)) (aK)) (dSl (ai 3) (aK) (bE (ai 5))))
theorem qK(xs:List PyData){t:Int}(h:0<=t):(D.cutD xs none (some t)).length+(D.cutD xs (some t) none).length<=xs.length:=by
 rw[kz h]
 by_cases q:t.toNat<=xs.length
 ·have e:t=((t.toNat:Nat):Int):=by omega
  rw[e,lU q,List.length_take,List.length_drop];omega
 ·have:=(kK xs none (some t)).length_le;rw[List.length_drop];omega
theorem mw{xs:List PyData}(h:∀ x∈xs,Rg x)(lo hi:Option Int):∀ x∈D.cutD xs lo hi,Rg x:=λ x hx=>h x ((kK xs lo hi).subset hx)
theorem afY:∀ c∈("nopqrstu" : Str).cps.toList,(eX (.str (⟨#[c]⟩ ++ "z"))&&gS (.str (⟨#[c]⟩ ++ "z"))&&decide ((PyData.str (⟨#[c]⟩ ++ "z")).depth<=3)&&decide (big (.str (⟨#[c]⟩ ++ "z"))<=2000))=true:=by decide +kernel
theorem aiy{M M1:MH}{p:Addr}{ds rs ss:List PyData}{way at':Int}{Q:QD}(hl:ds.length<=16)(hd:∀ x∈ds,Rg x)(R:RSm rs)(S:RSm ss)(g1:Bag M1 p)(x1:Exb p M M1)(w0:0<=way)(a0:0<=at')(k:∀ (d:PyData) M',Wh (ds.length+8) d->Bag M' p->Exb p M M'->Q (.d d) M') :
  adu bF (EdQ Q) [some (.m p),some (.d (.list ds)),some (.d (.tuple rs)),some (.d (.list ds)),some (.d (.int way)),some (.d (.int at')),some (.d (.tuple ss))] M1:=by
 have s16':=s16;have hc1:=(kK ds none (some at')).length_le;have hcp:=qK ds a0;refine⟨_,rfl,_,_,rfl,rfl,_,rfl,d3 (λ _=>?_) (λ _=>?_)⟩
 ·refine⟨_,rfl,_,rfl,_,rfl,_,rfl,rfl,_,rfl,_,rfl,p,ss,rfl,g1,S.l,S.m,λ d M2 hd2 g2 x2=>?_⟩;refine⟨_,rfl,few (by simp),_,_,.d,.d,by simp;omega,_,rfl,_,rfl,_,rfl,_,_,rfl,rfl,(show(0:Int)<2 by decide),.inl ⟨_,_,rfl,rfl,_,rfl,_,rfl,rfl,?_⟩⟩;have hc2:=(kK ds (some (at'+way % 2)) none).length_le;have hlen:(D.cutD ds none (some at')).length+(D.cutD ds (some (at'+way % 2)) none).length<=ds.length:=by have e:=qK ds a0;rw[kz (show(0:Int)<=at'+way % 2 by omega),List.length_drop];rw[kz a0,List.length_drop] at e;omega
  refine⟨_,_,.d,.d,by simp;omega,k _ M2 (jr (by omega) ?_ (jX (jX (mw hd _ _) (ue hd2)) (mw hd _ _))) g2 (x1.trans x2)⟩;simp only[List.length_append,List.length_singleton];omega
 ·refine⟨_,rfl,_,_,.d,.d,rfl,_,rfl,d3 (λ _=>?_) (λ _=>?_)⟩
  ·refine⟨_,rfl,_,rfl,_,rfl,_,rfl,rfl,_,rfl,_,rfl,few (by simp),_,_,.d,.d,by simp;omega,_,rfl,_,rfl,_,rfl,_,rfl,rfl,?_⟩;have hS:Rg (.tuple ss):=eQ (by have:=S.l;omega) S.m;refine⟨_,_,.d,.d,by simp;omega,k _ M1 (jr (by omega) ?_ (jX (jX (mw hd _ _) (ue hS)) (mw hd _ _))) g1 x1⟩;simp only[List.length_append,List.length_singleton];omega
  ·refine⟨_,rfl,_,_,.d,.d,rfl,_,rfl,d3 (λ _=>?_) (λ _=>?_)⟩
   ·obtain⟨a,b,c,g,P⟩:=my R.l;have hB:∀ x∈b,Sm x:=λ x hx=>R.m x (P.bm x hx);have bl:b.length<=3:=by have:=P.bl;omega
    refine⟨_,rfl,_,rfl,?_⟩;dsimp only;refine gA ("nopqrstu" : Str).cps.toList (λ c=>W.d (.str ⟨#[c]⟩)) (λ c=>.tuple ([.str (⟨#[c]⟩ ++ "z")]++b)) (λ τ=>∃ x,τ=[x,some (.d (.tuple rs))]) (by decide +kernel) ⟨_,rfl⟩ (λ c hc τ hτ Z h=>?_) (λ τ=>?_)
    ·obtain⟨x,rfl⟩:=hτ;refine⟨_,rfl,.inr ⟨_,_,rfl,rfl,?_,_,rfl,few (by simp),_,rfl,_,rfl,_,P.s2,rfl,_,_,rfl,rfl,gp,zi bl,_,rfl,h _ ⟨_,rfl⟩⟩⟩;show(1:Nat)+("z" : Str).length<=sizeLine;rw[show("z" : Str).length=1 from by decide +kernel];omega
    ·have hll:("nopqrstu" : Str).cps.toList.length=8:=by decide +kernel
     refine⟨_,_,.d,.d,by rw[List.length_map,hll];omega,k _ M1 (jr (by omega) (by rw[List.length_append,List.length_map,hll];exact Nat.le_refl _) (jX hd λ x hx=>?_)) g1 x1⟩;obtain⟨c,hc,rfl⟩:=List.mem_map.mp hx;exact eQ (by have:=P.bl;simp;omega) (iY (jZ (bd3 (afY c hc))) hB)
   ·refine⟨_,rfl,_,rfl,_,rfl,_,rfl,rfl,_,rfl,_,rfl,_,rfl,_,rfl,rfl,_,_,.d,.d,by omega,k _ M1 (jr (by omega) ?_ (jX (mw hd _ _) (mw hd _ _))) g1 x1⟩;rw[List.length_append];omega
theorem sI:Rd cq (tX av bF) uq:=by
 rintro ws M Q ⟨p,ds,rs,rfl,hb,hl,hd,R,k⟩;have s16':=s16;refine⟨_,rfl,_,_,rfl,.l,λ z hz=>⟨z,ds,rfl,ak,?_⟩⟩;rw[ow hz];refine⟨_,rfl,p,8,rfl,hb,by decide,by decide,λ way M1 w0 w1 g1 f1=>?_⟩;have x1:Exb p M M1:=Exb.of f1;refine⟨_,rfl,_,_,.d,.d,rfl,_,rfl,d3 (λ _=>?_) (λ _=>?_)⟩
 ·refine⟨_,rfl,_,_,rfl,.l,_,rfl,few (by simp),_,rfl,p,6,rfl,g1,by decide,by decide,λ r M2 r0 r1 g2 f2=>?_⟩;obtain⟨d,ed,hm⟩:=ade (M:=M2) (ds:=[.tuple ds,.none,.str "rows",.int 5,.dict [],.bool true]) r0 (by simpa using r1);refine⟨r,_,rfl,ed,rfl,k d M2 ?_ g2 (x1.trans (Exb.of f2))⟩;simp only[List.mem_cons,List.not_mem_nil,or_false] at hm;rcases hm with rfl | rfl | rfl | rfl | rfl | rfl
  ·exact⟨(abE λ x hx=>(hd x hx).b).mono (by omega) (by omega),λ ds' e=>by cases e⟩
  all_goals exact aid (bd3 (by decide +kernel)) (λ ds' e=>by cases e)
 ·refine⟨_,rfl,_,rfl,_,_,rfl,rfl,rfl,.inl ⟨_,_,rfl,rfl,p,((ds.length:Nat):Int)+1,rfl,g1,by omega,by omega,λ at' M2 a0 a1 g2 f2=>?_⟩⟩;refine⟨_,rfl,_,rfl,_,rfl,few (by simp),_,_,.d,.d,by simp;omega,_,rfl,_,rfl,_,_,rfl,rfl,rfl,.inl ⟨_,_,rfl,rfl,p,((ds.length:Nat):Int)+1,rfl,g2,by omega,by omega,λ r M3 r0 r1 g3 f3=>?_⟩⟩;have x3:Exb p M M3:=(x1.trans (Exb.of f2)).trans (Exb.of f3);obtain⟨d,ed,hm⟩:=ade (M:=M3) (ds:=ds++[.tuple rs]) r0 (by simpa using r1);refine⟨r,_,rfl,ed,rfl,?_⟩;have hRd:Rg d:=jX hd (ue (eQ (by have:=R.l;omega) R.m)) d hm;have rest:=λ ss (S:RSm ss)=>aiy (Q:=Q) hl hd R S g3 x3 w0 a0 k;refine⟨_,rfl,_,_,_,rfl,.d,.tuple,_,rfl,?_⟩;cases d with
  | tuple ss =>
   refine cN (by rw[aaV];rfl) ⟨_,rfl,_,_,rfl,rfl,rfl,_,rfl,_,_,rfl,rfl,rfl,_,_,.d,.d,rfl,_,rfl,?_⟩;rw[bL]
   by_cases e:((ss.length:Nat):Int)=((rs.length:Nat):Int)
   ·refine cN (by rw[decide_eq_true e];rfl) ?_;have hR:=R.l;exact rest ss ⟨by omega,(hRd.t ss rfl).2⟩
   ·exact cL (by rw[decide_eq_false e];rfl) ⟨_,rfl,rest rs R⟩
  | _=>exact cL rfl (iL ⟨_,rfl,rest rs R⟩)
def ab1(a9:SpD):TSd:=
   ou (nE (ae (dI 2) (aB))) (gN 9)
    (dIf (dOr (mN (aZ (bf a9 (ae (ai 8) (ae (dOp cY (ai 7) (dI 0)) (ae (dOp cY (ai 7) (dI 1)) (aB))))))) (mN (aZ (bf a9 (ae (ai 8) (ae (ai 3) (ae (ai 4) (aB))))))))
     (de (dC (.d (.bool false))))
     (cf))
def abI(av a9:SpD):TSd:=
   bp (cB (bf av (ae (ai 1) (ae (dI 5) (aB)))) (gN 8)) <|
   bp (dIf (yY (aZ (dOp aa3 (dOp cY (ai 7) (dI 1)) (gW (aB)))) (aZ (dOp ee (ai 8) (dI 2))))
    (cB (dI 1) (gN 8))
    (cf)) <|
   ab1 a9
def abr(av a9:SpD):TSd:=
   bp (cB (dOp cY (gy (ae (gW (ae (dOp cY (ai 6) (dI 0)) (ae (ai 4) (aB)))) (ae (gW (ae (ai 3) (ae (dOp cY (ai 6) (dI 1)) (aB)))) (ae (ai 6) (ae (ai 6) (aB)))))) (ai 5)) (gN 7)) <|
   abI av a9
def ag0(av cq a9:SpD):TSd:=
   bp (dIf (yY (aZ (dOp ee (ai 5) (dI 1))) (aZ (dCB d4 (ae (dOp cY (ai 6) (dI 1)) (ae (dC (.t "list")) (aB))))))
    (cB (bf cq (ae (ai 1) (ae (dOp cY (ai 6) (dI 1)) (ae (dF (ae (dS "w") (ae (dS "side") (ae (dI 2) (aB))))) (aB))))) (vC (ai 6) (dI 1)))
    (cf)) <|
   abr av a9
theorem adX{z:Str}(h:wd z=true):Sm (.str z):=by
 have ha:aby z=true:=by
  unfold aby
  rw[<- Array.all_toList];exact List.all_eq_true.mpr λ c hc=>decide_eq_true (by have:=aeL h c hc;simp only[eE,Bool.and_eq_true,decide_eq_true_eq] at this;omega)
 have hl:z.length<=8:=by simp only[wd,Bool.and_eq_true,decide_eq_true_eq] at h;exact h.1.2
 exact⟨by simp only[eX];exact ha,rfl,by simp[PyData.depth],by simp only[big];omega⟩
theorem abt{i:Int}(h0:0<=i)(h6:i<=6):Sm (.int i):=by
 have:i=0\/i=1\/i=2\/i=3\/i=4\/i=5\/i=6:=by omega
 rcases this with rfl | rfl | rfl | rfl | rfl | rfl | rfl<;>exact bd3 (by decide +kernel)
theorem aiP{B:Bs}(h:OkB B):∀ x∈B.map bD,Rg x:=λ x hx=>by
 obtain⟨r,hr,rfl⟩:=List.mem_map.mp hx;obtain⟨a,b,c⟩:=h.row r hr;exact eQ (by simp) λ x hx=>by
  rcases List.mem_cons.mp hx with rfl | hx
  ·exact adX a
  ·rw[List.mem_singleton.mp hx];exact abt b c
def u4:PyData:=.tuple [.str "last",.str "k",.int 1]
theorem adB:Rg u4:=eQ (by simp) λ x hx=>by simp only[List.mem_cons,List.not_mem_nil,or_false] at hx;rcases hx with rfl | rfl | rfl<;>exact bd3 (by decide +kernel)
theorem ajn{A:As}(h:OkA A):∀ x∈A.map aD,Rg x:=λ x hx=>by
 obtain⟨r,hr,rfl⟩:=List.mem_map.mp hx;obtain⟨a,b,c,d⟩:=h.row r hr;exact eQ (by simp) λ x hx=>by
  rcases List.mem_cons.mp hx with rfl | hx
  ·exact adX a
  ·rcases List.mem_cons.mp hx with rfl | hx
   ·exact adX b
   ·rw[List.mem_singleton.mp hx];exact abt c d
theorem ae8:RSm [.str "m",.int 3]:=⟨.inl rfl,λ x hx=>by simp only[List.mem_cons,List.not_mem_nil,or_false] at hx;rcases hx with rfl | rfl<;>exact bd3 (by decide +kernel)⟩
theorem afy:RSm [.str "w",.str "side",.int 2]:=⟨.inr rfl,λ x hx=>by simp only[List.mem_cons,List.not_mem_nil,or_false] at hx;rcases hx with rfl | rfl | rfl<;>exact bd3 (by decide +kernel)⟩
theorem yw{d1 d2:PyData}(h1:Wh 24 d1)(h2:Wh 24 d2):eP (.list [d1,d2])=true:=
 (yQ (b:=700000) (k:=7) (ds:=[d1,d2]) λ x hx=>by
  rcases List.mem_cons.mp hx with rfl | hx
  ·exact h1.b
  ·rw[List.mem_singleton.mp hx];exact h2.b).rp (by simp) (by omega)
def Hd(p:Addr)(M:MH)(w:W)(d1 d2:PyData):Prop:=w=.d (.list [d1,d2])\/∃ q,w=.m q/\q≠p/\M q=some (.lst [.d d1,.d d2])
theorem Hd.ix{p:Addr}{M:MH}{w:W}{d1 d2:PyData}(h:Hd p M w d1 d2):ixW M w 0=some (.d d1)/\ixW M w 1=some (.d d2)/\vw w=true:=by
 rcases h with rfl | ⟨q,rfl,_,hm⟩
 ·exact⟨rfl,rfl,rfl⟩
 ·exact⟨mF hm rfl,mF hm rfl,rfl⟩
theorem Hd.keep{p:Addr}{M M':MH}{w:W}{d1 d2:PyData}(h:Hd p M w d1 d2)(x:Exb p M M'):Hd p M' w d1 d2:=by
 rcases h with rfl | ⟨q,rfl,hq,hm⟩
 ·exact .inl rfl
 ·exact .inr ⟨q,rfl,hq,x q _ hq hm⟩
structure Tn(p:Addr)(M:MH)(bs as:PyData):Prop where
 g:Bag M p
 c:Code M
 cp:aP≠p
 w1:Wh 24 bs
 w2:Wh 24 as
 ne:∀ rows,as=.list rows->rows≠[]
theorem Tn.keep{p:Addr}{M M':MH}{bs as:PyData}(h:Tn p M bs as)(g:Bag M' p)(x:Exb p M M'):Tn p M' bs as:=⟨g,x _ _ h.cp h.c,h.cp,h.w1,h.w2,h.ne⟩
abbrev DOk(D:Ed)(p:Addr):Prop:=∀ x0 y2 y3 y4 y5 y6 y7 y8 y9 M',Bag M' p->Code M'->D.nx [x0,some (.m p),y2,y3,y4,y5,y6,y7,y8,y9] M'
theorem ahO{D:Ed}{p:Addr}{M:MH}{bs as d1 d2:PyData}{w:W}{door:Int}{x0 y2 y5 y6 y9:Option W}(k:DOk D p)(T:Tn p M bs as)(h:Hd p M w d1 d2)(h1:Wh 24 d1)(h2:Wh 24 d2)(o0:0<=door)(o5:door<5)(hne:door=2->∀ rows,d2=.list rows->rows≠[]) :
  ab1 a9 D [x0,some (.m p),y2,some (.d bs),some (.d as),y5,y6,some w,some (.d (.int door)),y9] M:=by
 refine⟨_,rfl,by omega,by omega,?_⟩;refine⟨λ i τ M'=>Tn p M' bs as/\Hd p M' w d1 d2/\∃ y9,τ=[x0,some (.m p),y2,some (.d bs),some (.d as),y5,y6,some w,some (.d (.int door)),y9],⟨T,h,_,rfl⟩,?_,?_⟩
 ·rintro i v τ M1 hv ⟨T1,h1',y9,rfl⟩;obtain⟨i0,i1,hf⟩:=h1'.ix;refine⟨_,rfl,_,rfl,0,_,rfl,i0,hf,_,rfl,1,_,rfl,i1,hf,door,d1,d2,rfl,⟨o0,o5,h1.rows (by omega),h2.rows (by omega),hne,T1.c⟩,yw h1 h2,λ M2 x2=>⟨_,rfl,je ?_⟩⟩;refine⟨_,rfl,_,rfl,_,rfl,door,bs,as,rfl,⟨o0,o5,T.w1.rows (by omega),T.w2.rows (by omega),λ _=>T.ne,x2 _ _ T1.c⟩,yw T.w1 T.w2,λ M3 x3=>⟨_,rfl,je ?_⟩⟩;have x:=x2.trans x3;exact⟨T1.keep (x.bag T1.g) (Exb.ext x),h1'.keep (Exb.ext x),_,rfl⟩
 ·rintro τ M1 ⟨T1,_,y9,rfl⟩;exact k _ _ _ _ _ _ _ _ _ M1 T1.g T1.c
theorem ahj{D:Ed}{p:Addr}{M:MH}{bs as d1 d2:PyData}{w:W}{x0 y2 y5 y6 y8 y9:Option W}(k:DOk D p)(T:Tn p M bs as)(h:Hd p M w d1 d2)(h1:Wh 24 d1)(h2:Wh 24 d2) :
  abI av a9 D [x0,some (.m p),y2,some (.d bs),some (.d as),y5,y6,some w,y8,y9] M:=by
 refine⟨_,rfl,p,5,rfl,T.g,by decide,by decide,λ door M2 o0 o5 b2 f2=>?_⟩;have T2:=T.keep b2 (Exb.of f2);have hh:=h.keep (Exb.of f2);obtain⟨i0,i1,hf⟩:=hh.ix;refine⟨_,rfl,1,_,rfl,i1,hf,_,rfl,few (by simp),d2,rfl,rfl,h2.b.l,_,rfl,?_⟩;cases hn:aeq d2 with
 | true =>
  refine iL ⟨_,rfl,_,_,.d,.d,rfl,_,rfl,?_⟩;rw[bL];refine d3 (λ _=>ahO k T2 hh h1 h2 (by omega) (by omega) (λ e=>absurd e (by decide))) (λ e=>ahO k T2 hh h1 h2 o0 o5 λ e2=>?_);exact absurd e2 (of_decide_eq_false e)
 | false =>
  refine je (je (ahO k T2 hh h1 h2 o0 o5 λ _ rows e e2=>?_));rw[e,e2] at hn;cases hn
theorem ah4{D:Ed}{p q:Addr}{M:MH}{bs as o1 o2:PyData}{pick:Int}{x0 y2 y7 y8 y9:Option W}(k:DOk D p)(T:Tn p M bs as)(hq:q≠p)(hm:M q=some (.lst [.d o1,.d o2]))(h1:Wh 24 o1)(h2:Wh 24 o2)(p0:0<=pick)(p4:pick<4) :
  abr av a9 D [x0,some (.m p),y2,some (.d bs),some (.d as),some (.d (.int pick)),some (.m q),y7,y8,y9] M:=by
 refine⟨_,rfl,0,_,rfl,mF hm rfl,rfl,_,rfl,_,rfl,few (by simp),_,rfl,_,rfl,1,_,rfl,mF hm rfl,rfl,_,rfl,few (by simp),_,rfl,_,rfl,few (by simp),λ h hh=>?_⟩;obtain⟨ob,hob⟩:=o9 T.g;have hp:p≠h:=λ e=>by rw[e,hh] at hob;cases hob
 have x:Exb p M (bY M h (.lst [.d (.list [o1,as]),.d (.list [bs,o2]),.m q,.m q])):=Exb.ext (Ext.new hh);have T2:=T.keep (dY T.g (aF hp)) x;have hm2:=x q _ hq hm;have hs:bY M h (.lst [.d (.list [o1,as]),.d (.list [bs,o2]),.m q,.m q]) h=some (.lst [.d (.list [o1,as]),.d (.list [bs,o2]),.m q,.m q]):=ak;have:pick=0\/pick=1\/pick=2\/pick=3:=by omega
 rcases this with rfl | rfl | rfl | rfl
 ·exact⟨_,rfl,0,_,rfl,mF hs rfl,rfl,ahj k T2 (.inl rfl) h1 T.w2⟩
 ·exact⟨_,rfl,1,_,rfl,mF hs rfl,rfl,ahj k T2 (.inl rfl) T.w1 h2⟩
 ·exact⟨_,rfl,2,_,rfl,mF hs rfl,rfl,ahj k T2 (.inr ⟨q,rfl,hq,hm2⟩) h1 h2⟩
 ·exact⟨_,rfl,3,_,rfl,mF hs rfl,rfl,ahj k T2 (.inr ⟨q,rfl,hq,hm2⟩) h1 h2⟩
theorem Wh.up{n m:Nat}{d:PyData}(h:Wh n d)(hn:n<=m):Wh m d:=⟨h.b,λ ds e=>⟨Nat.le_trans (h.l ds e).1 hn,(h.l ds e).2⟩⟩
theorem wj{d:PyData}(h:∀ ds,d ≠ .list ds):lX d "list" = false:=by
 cases d with
 | list ds=>exact absurd rfl (h ds)
 | _=>rfl
theorem ah9{D:Ed}{p q:Addr}{M:MH}{bs as o1 o2:PyData}{pick:Int}{x0 y2 y7 y8 y9:Option W}(k:DOk D p)(T:Tn p M bs as)(hq:q≠p)(hm:M q=some (.lst [.d o1,.d o2]))(h1:Wh 24 o1)(h2:Wh 16 o2)(p0:0<=pick)(p4:pick<4) :
  ag0 av cq a9 D [x0,some (.m p),y2,some (.d bs),some (.d as),some (.d (.int pick)),some (.m q),y7,y8,y9] M:=by
 refine⟨_,rfl,_,_,.d,.d,rfl,_,rfl,?_⟩;rw[bL];refine d3 (λ _=>?_) (λ _=>je (ah4 k T hq hm h1 (h2.up (by omega)) p0 p4));refine⟨_,rfl,1,_,rfl,mF hm rfl,rfl,_,_,_,rfl,.d,.list,_,rfl,?_⟩
 by_cases hl:∃ ds,o2=.list ds
 ·obtain⟨ds,rfl⟩:=hl;obtain⟨l1,l2⟩:=h2.l ds rfl;refine cL (yr ds) ⟨_,rfl,_,rfl,1,_,rfl,mF hm rfl,rfl,_,rfl,few (by simp),p,ds,_,rfl,T.g,l1,l2,afy,λ d M2 hd b2 x2=>?_⟩;have hm2:=x2 q _ hq hm;have hpq:p≠q:=hq.symm;have T2:=T.keep b2 x2;refine⟨_,rfl,q,_,1,1,rfl,rfl,hm2,rfl,?_⟩;exact ah4 k ⟨dY b2 (aF hpq),by have c2:=T2.c;unfold Code at c2 ⊢;rw[aF λ e=>by rw[e,hm2] at c2;cases c2];exact c2,T.cp,T.w1,T.w2,T.ne⟩ hq ak h1 (hd.up (by omega)) p0 p4
 ·exact cN (wj λ ds e=>hl ⟨ds,e⟩) (ah4 k T hq hm h1 (h2.up (by omega)) p0 p4)
def lb:SpD:=λ ws M Q=>∃ ns:List Int,ws=[.d (.list (ns.map PyData.int))]/\ns.length<=63/\Code M/\∀ M',Q (.d (.bool true)) M'
theorem adH:Ln lb 1:=by rintro ws M Q ⟨ns,rfl,_⟩;rfl
theorem zV:∀ ns:List Int,ns.length<=63->lb [.d (.list (ns.map PyData.int))] (M1T aP cJ ⟨122,31,122,66⟩) (λ w _=>w=.d (.bool true)):=λ ns h=>⟨ns,rfl,h,if_pos rfl,λ _=>rfl⟩
theorem zA:Rd lb (af4 fc cS du av cq a9) afw:=by
 rintro ws M Q ⟨ns,rfl,hl,hc,k⟩;have s16':=s16;refine⟨_,rfl,ns,rfl,by omega,λ p M1 hp f1 b1=>?_⟩;have cp:aP≠p:=λ e=>by unfold Code at hc;rw[e,hp] at hc;cases hc
 have c1:Code M1:=by unfold Code;rw[f1 _ cp];exact hc
 refine⟨_,rfl,by omega,by omega,?_⟩;refine⟨λ i τ M'=>Bag M' p/\Code M'/\∃ x0 y2 y3 y4 y5 y6 y7 y8 y9,τ=[x0,some (.m p),y2,y3,y4,y5,y6,y7,y8,y9],⟨b1,c1,_,_,_,_,_,_,_,_,_,rfl⟩,?_,?_⟩
 ·rintro i w τ M2 hw ⟨b2,c2,x0,y2,y3,y4,y5,y6,y7,y8,y9,rfl⟩;refine⟨_,rfl,p,8,6,rfl,b2,by decide,by decide,by decide,by decide,λ B M3 hB b3 x3=>?_⟩;refine⟨_,rfl,p,7,6,rfl,b3,by decide,by decide,by decide,by decide,λ A a M4 hA hAl b4 ap m4 x4=>?_⟩;have hBl:=hB.len;have hAl':A.length<=7:=by omega
  refine⟨_,rfl,few (by simp),_,rfl,few (by simp),A.map aD,[u4],.m m4,.d,by rw[List.length_map];simp;omega,_,_,rfl,?_⟩;have x24:=x3.trans x4;have hRA:∀ x∈A.map aD++[u4],Rg x:=jX (ajn hA) (ue adB);have hlA:(A.map aD++[u4]).length<=8:=by rw[List.length_append,List.length_map];simp;omega
  have hlB:(B.map bD).length<=8:=by rw[List.length_map];exact hBl
  have neA:∀ rows,PyData.list (A.map aD++[u4])=.list rows->rows≠[]:=λ rows e e2=>by rw[e2] at e;have:=PyData.list.inj e;simp at this
  generalize A.map aD++[u4]=as at hRA hlA neA;have T:Tn p M4 (bsD B) (.list as):=⟨b4,x24 _ _ cp c2,cp,jr (by omega) (by omega) (aiP hB),jr (by omega) (by omega) hRA,neA⟩;refine⟨_,rfl,p,4,rfl,b4,by decide,by decide,λ pick M5 k0 k1 b5 f5=>?_⟩;have T5:=T.keep b5 (Exb.of f5);refine⟨_,rfl,_,rfl,_,rfl,few (by simp),p,B.map bD,_,rfl,b5,by omega,aiP hB,ae8,λ o1 M6 w1 b6 x6=>?_⟩;refine⟨_,rfl,_,rfl,_,rfl,few (by simp),p,as,_,rfl,b6,by omega,hRA,afy,λ o2 M7 w2 b7 x7=>⟨few (by simp),λ q hq=>?_⟩⟩;have T7:=(T5.keep b6 x6).keep b7 x7;obtain⟨ob,hob⟩:=o9 b7;have pq:p≠q:=λ e=>by rw[e,hq] at hob;cases hob
  have T8:=T7.keep (dY b7 (aF pq)) (Exb.ext (Ext.new (o:=.lst [.d o1,.d o2]) hq));have hm:bY M7 q (.lst [.d o1,.d o2]) q=some (.lst [.d o1,.d o2]):=ak;refine⟨_,rfl,_,_,.d,.d,rfl,_,rfl,?_⟩;rw[bL];have kk:DOk {nx:=λ τ M'=>Bag M' p/\Code M'/\∃ x0 y2 y3 y4 y5 y6 y7 y8 y9,τ=[x0,some (.m p),y2,y3,y4,y5,y6,y7,y8,y9],rt:=Q} p:=λ _ _ _ _ _ _ _ _ _ M' b c=>⟨b,c,_,_,_,_,_,_,_,_,_,rfl⟩;refine d3 (λ _=>?_) (λ _=>je (ah9 kk T8 pq.symm hm (w1.up (by omega)) (w2.up (by omega)) k0 k1));refine⟨_,rfl,0,_,rfl,mF hm rfl,rfl,_,_,_,rfl,.d,.list,_,rfl,?_⟩
  by_cases hl:∃ ds,o1=.list ds
  ·obtain⟨ds,rfl⟩:=hl;obtain⟨l1,l2⟩:=w1.l ds rfl;refine cL (yr ds) ⟨_,rfl,_,rfl,0,_,rfl,mF hm rfl,rfl,_,rfl,few (by simp),p,ds,_,rfl,T8.g,by omega,l2,ae8,λ d M9 hd b9 x9=>?_⟩;have hm9:=x9 q _ pq.symm hm;have T9:=T8.keep b9 x9;refine⟨_,rfl,q,_,0,0,rfl,rfl,hm9,rfl,?_⟩;exact ah9 kk ⟨dY b9 (aF pq),by have c9:=T9.c;unfold Code at c9 ⊢;rw[aF λ e=>by rw[e,hm9] at c9;cases c9];exact c9,cp,T8.w1,T8.w2,T8.ne⟩ pq.symm ak (hd.up (by omega)) (w2.up (by omega)) k0 k1
  ·exact cN (wj λ ds e=>hl ⟨ds,e⟩) (ah9 kk T8 pq.symm hm (w1.up (by omega)) (w2.up (by omega)) k0 k1)
 ·rintro τ M' ⟨_,_,x0,y2,y3,y4,y5,y6,y7,y8,y9,rfl⟩;exact k M'
abbrev q_0:List Str:=["_law_script"]
abbrev q_1:List Str:=["_law_bag_here", "_law_many"]
abbrev q_2:List Str:=["_law_bag_here", "_law_most", "_law_top"]
abbrev q_3:List Str:=["_law_bag_here", "_law_row"]
abbrev q_4:List Str:=["_law_bag_here", "_law_rows", "_law_row"]
abbrev q_5:List Str:=["thing"]
abbrev q_6:List Str:=["thing", "low", "high"]
abbrev q_7:List Str:=["demands", "kind", "many"]
abbrev q_8:List Str:=["rooms", "demands", "kind", "copies"]
abbrev q_9:List Str:=["_law_door", "_law_berths_here", "_law_asked_here"]
abbrev vE:List Str:=["_law_thing"]
abbrev aeA:List Str:=["_law_rows", "_law_size"]
abbrev vA:List Str:=["self", "at"]
abbrev aes:List Str:=["row", "least"]
abbrev aeB:List Str:=["berths", "least"]
abbrev aeu:List Str:=["row"]
abbrev rl:List Str:=["asked"]
abbrev fW:List Str:=["berths", "asked"]
abbrev sU:List Str:=["rooms", "demands"]
abbrev tm:List Str:=["berths"]
abbrev aba:List Str:=["rooms", "asked"]
abbrev aep:List Str:=["rooms", "asked", "ran"]
abbrev aey:List Str:=["berths", "asked", "at"]
abbrev aeo:List Str:=["self", "first", "demanded", "room"]
abbrev aeD:List Str:=["numbers"]
local macro_rules | `(tactic| walk_at "sc")=>`(tactic| exact⟨rfl,rfl,rfl,by decide +kernel,rfl,by decide +kernel,by decide +kernel⟩)
local macro_rules | `(tactic| walk_at "b4")=>`(tactic| (intro _ _ _ _ _ _ us hl;obtain⟨_,_,_,_,e⟩:=D.aht hl;subst e;rfl))
local macro_rules | `(tactic| walk_at "b3")=>`(tactic| (intro _ _ _ _ _ _ us hl;obtain⟨_,_,_,e⟩:=D.aeI hl;subst e;rfl))
local macro_rules | `(tactic| walk_at "b2")=>`(tactic| (intro _ _ _ _ _ _ us hl;obtain⟨_,_,e⟩:=D.aeG hl;subst e;rfl))
local macro_rules | `(tactic| walk_at "b1")=>`(tactic| (intro _ _ _ _ _ _ us hl;obtain⟨_,e⟩:=D.aaI hl;subst e;rfl))
def top(i:Nat):Stmt:=PySem.Challenge.pw_placedworks_k38_sums_refused.main.body.getD i (.Pass ⟨0,0,0,0⟩)
abbrev nv:Stmt:=top 34
abbrev kD:Stmt:=top 35
abbrev gH:Stmt:=top 36
abbrev i8:Stmt:=top 37
abbrev fR:Stmt:=top 41
abbrev kA:Stmt:=top 42
abbrev dk:Stmt:=inClass (top 3) 0
abbrev iJ:Stmt:=top 10
abbrev gF:Stmt:=top 8
abbrev fL:Stmt:=top 9
abbrev dj:Stmt:=top 17
abbrev bU:Stmt:=top 16
abbrev dN:Stmt:=inClass (top 4) 0
abbrev dR:Stmt:=top 19
abbrev dW:Stmt:=top 18
abbrev bR:Stmt:=top 15
abbrev dZ:Stmt:=top 23
abbrev dA:Stmt:=top 20
abbrev dE:Stmt:=top 21
abbrev gO:Stmt:=top 24
abbrev fV:Stmt:=top 22
abbrev dQ:Stmt:=top 25
abbrev gw:Stmt:=top 26
abbrev iR:Stmt:=top 27
abbrev dU:Stmt:=top 28
abbrev gM:Stmt:=top 29
abbrev n9:Stmt:=top 32
abbrev eG:Stmt:=inClass (top 5) 0
abbrev bM:Stmt:=top 31
abbrev ko:Stmt:=top 30
abbrev ff:Stmt:=top 43
abbrev fj:Stmt:=top 39
abbrev fU:Stmt:=top 38
abbrev iZ:Stmt:=top 40
abbrev iK:Stmt:=top 44
abbrev nG:Stmt:=top 45
structure Env(K:FG)(mg:Str->Option Value):Prop where
 m_BadAsked:mg "BadAsked" = some (.ref aA)
 m_BadBerths:mg "BadBerths" = some (.ref aw)
 m_BadName:mg "BadName" = some (.ref dM)
 m_NoRoom:mg "NoRoom" = some (.ref aC)
 m_PlaceError:mg "PlaceError" = some (.ref cC)
 x_BadAsked:XO.XC K aA
 x_BadBerths:XO.XC K aw
 x_NoRoom:XO.XC K aC
 e_BadAsked_PlaceError:W.exmOne K (.ref aA) (.ref cC)=some true
 e_BadBerths_PlaceError:W.exmOne K (.ref aw) (.ref cC)=some true
 e_NoRoom_PlaceError:W.exmOne K (.ref aC) (.ref cC)=some true
 h_greatest_first:W.codeHdIn K bX aP=true
 i_BadAsked_BadAsked:W.kitAny K (.ref aA) [.ref aA]=some true
 i_BadAsked_BadBerths:W.kitAny K (.ref aA) [.ref aw]=some false
 i_BadAsked_BadName_NoRoom:W.kitAny K (.ref aA) [.ref dM,.ref aC]=some false
 i_BadAsked_NoRoom:W.kitAny K (.ref aA) [.ref aC]=some false
 i_BadBerths_BadAsked:W.kitAny K (.ref aw) [.ref aA]=some false
 i_BadBerths_BadBerths:W.kitAny K (.ref aw) [.ref aw]=some true
 i_BadBerths_BadName_NoRoom:W.kitAny K (.ref aw) [.ref dM,.ref aC]=some false
 i_BadBerths_NoRoom:W.kitAny K (.ref aw) [.ref aC]=some false
 i_NoRoom_BadAsked:W.kitAny K (.ref aC) [.ref aA]=some false
 i_NoRoom_BadBerths:W.kitAny K (.ref aC) [.ref aw]=some false
 i_NoRoom_BadName_NoRoom:W.kitAny K (.ref aC) [.ref dM,.ref aC]=some true
 i_NoRoom_NoRoom:W.kitAny K (.ref aC) [.ref aC]=some true
 n_BadAsked_at:fF K aA "at"
 n_BadBerths_at:fF K aw "at"
 n_NoRoom_demanded:fF K aC "demanded"
 n_NoRoom_first:fF K aC "first"
 n_NoRoom_room:fF K aC "room"
 b_abs:mg "abs" = none
 b_all:mg "all" = none
 b_bool:mg "bool" = none
 b_dict:mg "dict" = none
 b_enumerate:mg "enumerate" = none
 b_int:mg "int" = none
 b_isinstance:mg "isinstance" = none
 b_len:mg "len" = none
 b_list:mg "list" = none
 b_min:mg "min" = none
 b_range:mg "range" = none
 b_repr:mg "repr" = none
 b_sorted:mg "sorted" = none
 b_str:mg "str" = none
 b_sum:mg "sum" = none
 b_tuple:mg "tuple" = none
 b_zip:mg "zip" = none
 c_LONGEST_WORD:∃ t,mg "LONGEST_WORD" = some (.int 8 t)
 c_MOST_BERTHS:∃ t,mg "MOST_BERTHS" = some (.int 6 t)
 c_MOST_COPIES:∃ t,mg "MOST_COPIES" = some (.int 6 t)
 c_MOST_ROWS:∃ t,mg "MOST_ROWS" = some (.int 8 t)
section
variable (P:Program)(w:World)(K:FG)(mg:Str->Option Value)(base:Heap)
abbrev wA:=ZZ P w K mg base (Fn K mg "_law_bag" nv q_0) 1 q_0 fc
abbrev gG:=ZZ P w K mg base (Fn K mg "_law_take" kD q_1) 1 q_1 av
abbrev mZ:=ZZ P w K mg base (Fn K mg "_law_berths" gH q_2) 2 q_2 cS
abbrev oX:=ZZ P w K mg base (Fn K mg "_law_asked" i8 q_2) 2 q_2 du
abbrev k9:=ZZ P w K mg base (Fn K mg "_law_odd_row" fR q_3) 2 q_3 bF
abbrev t9:=ZZ P w K mg base (Fn K mg "_law_bent" kA q_4) 3 q_4 cq
abbrev kJ:=ZZ P w K mg base (Fn K mg "is_word" iJ q_5) 1 q_5 bS
abbrev mW:=ZZ P w K mg base (Fn K mg "is_whole" gF q_5) 1 q_5 cU
abbrev iE:=ZZ P w K mg base (Fn K mg "is_within" fL q_6) 2 q_6 bx
abbrev fJ:=ZZ P w K mg base (Fn K mg "with_more" fV q_7) 1 q_7 a6
abbrev gX:=ZZ P w K mg base (Fn K mg "greatest_run" dQ q_8) 2 q_8 bI
abbrev jO:=ZZ P w K mg base (Fn K mg "_law_asked_by" ff q_9) 7 q_9 cu
abbrev jJ:=ZZ P w K mg base (Fn K mg "_law_is_count" fj vE) 1 vE cv
abbrev kP:=ZZ P w K mg base (Fn K mg "_law_is_word" fU vE) 1 vE cD
abbrev pE:=ZZ P w K mg base (Fn K mg "_law_first" iZ aeA) 2 aeA cW
abbrev qG:=ZZ P w K mg base (Fn K mg "_law_right" iK q_9) 8 q_9 a9
end
section
variable {P:Program}{w:World}{K:FG}{mg:Str->Option Value}{base:Heap}
theorem ahP:(["_law_cell"]:List Str).Nodup:=by decide +kernel
theorem aaj:aU yA q_0 (aj nv):=by walk_at "sc"
theorem aaa(E:Env K mg)(F:Fn K mg "_law_bag" nv q_0 f fq) :
  cj P w K mg base CX0 1 f fq q_0 (dX K fc):=by
 refine cM (t:=xT) F.fn aaj wb (λ cdv A outer s H E' hr=>?_) uI;refine Jd.h ?_;exact ah (az (dG (aq (ag) (aq (ag) (aq (ag) (aq (h9 rfl (vj (own:=(["_law_cell"]:List Str)) (fr:=[]) rfl) (bC (aQ (dvQ 0) (aR) (aS (ag)))) (λ _ _ _ _ _ _=>ax (i:=0) ahP rfl (Or.inl rfl)) (λ _ _ _ _ _ _=>cI) (λ _ _ _ _ _ _=>fQ zt agS rfl E.b_abs ae4 (aq (dvQ 0) (aa)))) (aa)))))))
theorem fG:aU kB q_1 (aj kD):=by walk_at "sc"
theorem yB(E:Env K mg)(F:Fn K mg "_law_take" kD q_1 f fq) :
  cj P w K mg base CX0 1 f fq q_1 (dX K av):=by
 refine cM (t:=om) F.fn fG uz (λ cdv A outer s H E' hr=>?_) iq;refine Jd.h ?_;exact af (aY (aI (xN hr.h) agV (bc ba bb (dvQ 0) (ag)) (ag))
   (af (ay (i:=2) fG.nd rfl (Or.inl rfl) (ag)) <|
   af (aY (aI afb abK (bc ba bb (dvQ 0) (ag)) (fQ cA eD rfl E.b_len eF (aq (bc ba bb (dvQ 0) (ag)) (aa))))
    (ah (ay (i:=2) fG.nd rfl (Or.inl rfl) (bc ba bb (bc ba bb (dvQ 0) (ag)) (bc ba bb (dvQ 0) (ag)))))
    (aH)) <|
   af (wZ (dvQ 0) (ag) (ag) ab0) <|
   af (aY (aI acx yO (dvQ 2) (ag))
    (ah (gP (dvQ 2) (iU (dvQ 0) (ag))))
    (aH)) <|
   ah (gP (aN gx eS (aN cn bz (aN cn bz (aN m9 jC (bc ba bb (dvQ 0) (ag)) (ag)) (aN gx eS (dvQ 2) (ag))) (aN m9 jC (ag) (bc ba bb (dvQ 0) (ag)))) (ag)) (iU (dvQ 0) (ag))))
   (aH)) <|
  af (aY (aI wR oZ (bc ba bb (dvQ 0) (ag)) (ag))
   (af (ay (i:=3) fG.nd rfl (Or.inl rfl) (aN gx eS (bc ba bb (dvQ 0) (ag)) (dvQ 1))) <|
   af (gP (aN xt yg (bc ba bb (dvQ 0) (ag)) (dvQ 1)) (iU (dvQ 0) (ag))) <|
   ah (az (dvQ 3)))
   (aH)) <|
  af (ay (i:=4) fG.nd rfl (Or.inl rfl) (aN gx eS (aN m9 jC (aN cn bz (bc ba bb (dvQ 0) (ag)) (ag)) (ag)) (ag))) <|
  af (ay (i:=5) fG.nd rfl (Or.inl rfl) (aN gx eS (aN m9 jC (aN gx eS (aN m9 jC (dvQ 4) (dvQ 4)) (ag)) (ag)) (ag))) <|
  af (aY (aI wR oZ (dvQ 1) (ag))
   (ah (az (aN gx eS (aN cn bz (aN m9 jC (dvQ 5) (ag)) (dvQ 4)) (dvQ 1))))
   (aH)) <|
  ah (az (aN gx eS (aN xt yg (dvQ 5) (ag)) (dvQ 1)))
theorem ahY:(["_law_k", "_law_word", "_law_bag_here", "_law_top"]:List Str).Nodup:=by decide +kernel
theorem il:aU ng q_2 (aj gH):=by walk_at "sc"
theorem sJ(E:Env K mg)(F:Fn K mg "_law_berths" gH q_2 f fq)(z1:gG P w K mg base) :
  cj P w K mg base CX0 2 f fq q_2 (dX K cS):=by
 obtain⟨_,_,G1,O1⟩:=z1;refine cM (t:=mR av) F.fn il qS (λ cdv A outer s H E' hr=>?_) nJ;refine Jd.h ?_;exact af (ay (i:=3) il.nd rfl (Or.inl rfl) (dB O1 hr.m rfl G1.mg G1.fn.kp G1.bd (aq (dvQ 0) (aq (aN cn bz (dvQ 1) (ag)) (aa))))) <|
  af (ay (i:=4) il.nd rfl (Or.inr rfl) (bc ba bb (ck (aq (aL) (aq (aL) (aq (aL) (aa))))) (dB O1 hr.m rfl G1.mg G1.fn.kp G1.bd (aq (dvQ 0) (aq (ag) (aa)))))) <|
  ah (az (h9 rfl (vj (own:=(["_law_k"]:List Str)) (fr:=[4,0,2]) rfl) (dP rfl E.b_range (aq (dvQ 3) (aa))) (λ _ _ _ _ _ _=>ax (i:=0) ahY rfl (Or.inl rfl)) (λ _ _ _ _ _ _=>cI) (λ _ _ _ _ _ _=>aX (aq (aN cn bz (dvQ 1) (aN ab7 aa0 (bc ba bb (aL) (dvQ 0)) (aN cn bz (ag) (aN gx eS (dvQ 0) (ag))))) (aq (dB O1 hr.m rfl G1.mg G1.fn.kp G1.bd (aq (dvQ 2) (aq (aN cn bz (dvQ 3) (ag)) (aa)))) (aa))))))
theorem dO:aU pZ q_2 (aj i8):=by walk_at "sc"
theorem uH(E:Env K mg)(F:Fn K mg "_law_asked" i8 q_2 f fq)(z1:gG P w K mg base) :
  cj P w K mg base CX0 2 f fq q_2 (dX K du):=by
 obtain⟨_,_,G1,O1⟩:=z1;refine cM (t:=qM av) F.fn dO sL (λ cdv A outer s H E' hr=>?_) qy;refine Jd.h ?_;exact af (ay (i:=3) dO.nd rfl (Or.inl rfl) (dB O1 hr.m rfl G1.mg G1.fn.kp G1.bd (aq (dvQ 0) (aq (aN cn bz (dvQ 1) (ag)) (aa))))) <|
  af (ay (i:=4) dO.nd rfl (Or.inl rfl) (dB O1 hr.m rfl G1.mg G1.fn.kp G1.bd (aq (dvQ 0) (aq (ag) (aa))))) <|
  af (ay (i:=5) dO.nd rfl (Or.inl rfl) (aQ (ck (aq (aL) (aq (aL) (aq (aL) (aq (aL) (aq (aL) (aq (aL) (aq (aL) (aq (aL) (aq (aL) (aa))))))))))) (aR) (aS (aN cn bz (ag) (dB O1 hr.m rfl G1.mg G1.fn.kp G1.bd (aq (dvQ 0) (aq (ag) (aa)))))))) <|
  af (ay (i:=6) dO.nd rfl (Or.inl rfl) (dG (aa))) <|
  af (cE PassesOwn.never rfl (dP rfl E.b_range (aq (dvQ 3) (aa))) (ax (i:=7) dO.nd rfl (Or.inl rfl))
   (af (ay (i:=8) dO.nd rfl (Or.inl rfl) (bc ba bb (ck (aq (aN cn bz (aL) (bc ba bb (aL) (aN gx eS (aN cn bz (dvQ 7) (dvQ 4)) (ag)))) (aq (aL) (aa)))) (ad2 qY abp rfl E.b_int uc (aq (iF (df hr.h) cx (dvQ 7) (ag)) (aa))))) <|
   ah (cG (fz (dvQ 6) (aX (aq (dvQ 8) (aq (bc ba bb (dvQ 5) (dB O1 hr.m rfl G1.mg G1.fn.kp G1.bd (aq (dvQ 0) (aq (fQ cA eD rfl E.b_len eF (aq (dvQ 5) (aa))) (aa))))) (aq (dB O1 hr.m rfl G1.mg G1.fn.kp G1.bd (aq (dvQ 0) (aq (aN cn bz (dvQ 2) (ag)) (aa)))) (aa))))))))) <|
  ah (az (dvQ 6))
theorem dr:aU kR q_3 (aj fR):=by walk_at "sc"
theorem pW(E:Env K mg)(F:Fn K mg "_law_odd_row" fR q_3 f fq)(z1:gG P w K mg base) :
  cj P w K mg base CX0 2 f fq q_3 (dX K bF):=by
 obtain⟨_,_,G1,O1⟩:=z1;refine cM (t:=kO av) F.fn dr oK (λ cdv A outer s H E' hr=>?_) l0;refine Jd.h ?_;exact af (ay (i:=2) dr.nd rfl (Or.inl rfl) (dG (aq (eK (ad2 jQ pP rfl E.b_list ip (aq (dvQ 1) (aa)))) (aq (aQ (dvQ 1) (aR) (aS (fZ f7 eA (ag)))) (aq (aN cK bZ (dvQ 1) (aX (aq (ag) (aa)))) (aq (cZ) (aq (aL) (aq (aN cK bZ (aQ (dvQ 1) (aR) (aS (fZ f7 eA (ag)))) (aX (aq (ag) (aa)))) (aq (aN cK bZ (aQ (dvQ 1) (aR) (aS (fZ f7 eA (ag)))) (aX (aq (fZ f7 eA (ag)) (aa)))) (aq (aN cK bZ (aQ (dvQ 1) (aR) (aS (fZ f7 eA (ag)))) (aX (aq (fg) (aa)))) (aa))))))))))) <|
  af (ay (i:=2) dr.nd rfl (Or.inl rfl) (aN oh ny (dvQ 2) (dG (aq (aN cK bZ (aQ (dvQ 1) (aR) (aS (fZ f7 eA (ag)))) (aX (aq (aL) (aa)))) (aq (aN cK bZ (aQ (dvQ 1) (aR) (aS (fZ f7 eA (ag)))) (aX (aq (cZ) (aa)))) (aq (aN cK bZ (aX (aq (aL) (aa))) (aQ (dvQ 1) (aS (ag)) (aR))) (aq (aN cK bZ (aX (aq (aL) (aa))) (aQ (dvQ 1) (aS (ag)) (aR))) (aq (aN cK bZ (aX (aq (aL) (aa))) (aQ (dvQ 1) (aS (ag)) (aR))) (aa))))))))) <|
  af (ay (i:=2) dr.nd rfl (Or.inl rfl) (aN oh ny (dvQ 2) (dG (aq (aN cK bZ (aX (aq (ag) (aa))) (aQ (dvQ 1) (aS (ag)) (aR))) (aq (aN cK bZ (aX (aq (cZ) (aa))) (aQ (dvQ 1) (aS (ag)) (aR))) (aq (aN cK bZ (aX (aq (aL) (aa))) (aQ (dvQ 1) (aS (ag)) (aR))) (aq (aN cK bZ (aX (aq (aX (aa)) (aa))) (aQ (dvQ 1) (aS (ag)) (aR))) (aq (aX (aa)) (aa))))))))) <|
  af (ay (i:=2) dr.nd rfl (Or.inl rfl) (aN oh ny (dvQ 2) (dG (aq (aN cK bZ (aX (aq (ck (aq (aL) (aa))) (aa))) (aQ (dvQ 1) (aS (ag)) (aR))) (aq (aN cK bZ (aX (aq (qi) (aa))) (aQ (dvQ 1) (aS (ag)) (aR))) (aa)))))) <|
  af (cE PassesOwn.never rfl (bC (ck (aq (aL) (aq (aL) (aq (aL) (aq (aL) (aq (ag) (aq (aX (aq (aL) (aa))) (aq (cZ) (aq (ck (aq (aL) (aa))) (aa))))))))))) (ax (i:=3) dr.nd rfl (Or.inl rfl))
   (ah (cG (fz (dvQ 2) (aN cK bZ (aN cK bZ (aQ (dvQ 1) (aR) (aS (ag))) (aN acM aaG (aX (aq (dvQ 3) (aa))) (aN xR sH (fQ cA eD rfl E.b_len eF (aq (dvQ 1) (aa))) (ag)))) (aQ (dvQ 1) (aS (fZ f7 eA (ag))) (aR))))))) <|
  ah (az (bc ba bb (dvQ 2) (dB O1 hr.m rfl G1.mg G1.fn.kp G1.bd (aq (dvQ 0) (aq (fQ cA eD rfl E.b_len eF (aq (dvQ 2) (aa))) (aa))))))
theorem ahL:(["_law_letter", "_law_row"]:List Str).Nodup:=by decide +kernel
theorem fw:aU uq q_4 (aj kA):=by walk_at "sc"
theorem wX(E:Env K mg)(F:Fn K mg "_law_bent" kA q_4 f fq)(z1:gG P w K mg base)(z4:k9 P w K mg base) :
  cj P w K mg base CX0 3 f fq q_4 (dX K cq):=by
 obtain⟨_,_,G1,O1⟩:=z1;obtain⟨_,_,G4,O4⟩:=z4;refine cM (t:=tX av bF) F.fn fw vz (λ cdv A outer s H E' hr=>?_) sI;refine Jd.h ?_;exact af (ay (i:=3) fw.nd rfl (Or.inl rfl) (eK (ad2 jQ pP rfl E.b_list ip (aq (dvQ 1) (aa))))) <|
  af (ay (i:=4) fw.nd rfl (Or.inl rfl) (dB O1 hr.m rfl G1.mg G1.fn.kp G1.bd (aq (dvQ 0) (aq (ag) (aa))))) <|
  af (aY (aI (df hr.h) cx (dvQ 4) (ag))
   (ah (az (bc ba bb (ck (aq (ad2 nP uA rfl E.b_tuple i5 (aq (dvQ 3) (aa))) (aq (cZ) (aq (aL) (aq (ag) (aq (qi) (aq (fg) (aa)))))))) (dB O1 hr.m rfl G1.mg G1.fn.kp G1.bd (aq (dvQ 0) (aq (ag) (aa)))))))
   (aH)) <|
  af (ay (i:=5) fw.nd rfl (Or.inl rfl) (dB O1 hr.m rfl G1.mg G1.fn.kp G1.bd (aq (dvQ 0) (aq (aN cn bz (fQ cA eD rfl E.b_len eF (aq (dvQ 3) (aa))) (ag)) (aa))))) <|
  af (ay (i:=6) fw.nd rfl (Or.inl rfl) (bc ba bb (gC (dvQ 3) (ck (aq (dvQ 2) (aa)))) (dB O1 hr.m rfl G1.mg G1.fn.kp G1.bd (aq (dvQ 0) (aq (aN cn bz (fQ cA eD rfl E.b_len eF (aq (dvQ 3) (aa))) (ag)) (aa)))))) <|
  af (aY (e9 (eh (cy (cz (fQ bW dn rfl E.b_isinstance aW (aq (dvQ 6) (aq (cF rfl E.b_tuple i5) (aa)))))) (fh (aI (uu hr.h) oE (fQ cA eD rfl E.b_len eF (aq (dvQ 6) (aa))) (fQ cA eD rfl E.b_len eF (aq (dvQ 2) (aa)))))))
   (ah (ay (i:=6) fw.nd rfl (Or.inl rfl) (dvQ 2)))
   (aH)) <|
  af (aY (aI afb abK (dvQ 4) (ag))
   (ah (az (gC (gC (aQ (dvQ 3) (aR) (aS (dvQ 5))) (ck (aq (dB O4 hr.m rfl G4.mg G4.fn.kp G4.bd (aq (dvQ 0) (aq (dvQ 6) (aa)))) (aa)))) (aQ (dvQ 3) (aS (aN cn bz (dvQ 5) (aN gx eS (dvQ 4) (ag)))) (aR)))))
   (aH)) <|
  af (aY (aI (df hr.h) cx (dvQ 4) (ag))
   (ah (az (gC (gC (aQ (dvQ 3) (aR) (aS (dvQ 5))) (ck (aq (dvQ 6) (aa)))) (aQ (dvQ 3) (aS (dvQ 5)) (aR)))))
   (aH)) <|
  af (aY (aI (df hr.h) cx (dvQ 4) (ag))
   (ah (az (gC (dvQ 3) (h9 rfl (vj (own:=(["_law_letter"]:List Str)) (fr:=[2]) rfl) (bC (aL)) (λ _ _ _ _ _ _=>ax (i:=0) ahL rfl (Or.inl rfl)) (λ _ _ _ _ _ _=>cI) (λ _ _ _ _ _ _=>aN cK bZ (aX (aq (aN cn bz (dvQ 0) (aL)) (aa))) (aQ (dvQ 1) (aS (ag)) (aR)))))))
   (aH)) <|
  ah (az (gC (aQ (dvQ 3) (aS (dvQ 5)) (aR)) (aQ (dvQ 3) (aR) (aS (dvQ 5)))))
theorem jA:aU j3 vA (aj dk):=by walk_at "sc"
theorem jo(E:Env K mg)(F:Xi K aw "BadBerths.__init__" dk vA f fq):cj P w K mg base CX0 1 f fq vA (nr aw ["at"]):=af2 F.fn jA F.xm.xc E.n_BadBerths_at rfl (λ _=>rfl) rfl rfl
theorem ahs:(["sign"]:List Str).Nodup:=by decide +kernel
theorem vc:aU pB q_5 (aj iJ):=by walk_at "sc"
theorem u9(E:Env K mg)(F:Fn K mg "is_word" iJ q_5 f fq) :
  cj P w K mg base CX0 1 f fq q_5 (dX K bS):=by
 refine cM (t:=pM) F.fn vc sD (λ cdv A outer s H E' hr=>?_) oU;refine Jd.h ?_;exact af (aY (e9 (eh (cy (cz (fQ bW dn rfl E.b_isinstance aW (aq (dvQ 0) (aq (cF rfl E.b_str abY) (aa)))))) (fh (cy (mv gg ef gg ef (ag) (fQ cA eD rfl E.b_len eF (aq (dvQ 0) (aa))) (gB rfl (E.c_LONGEST_WORD).choose_spec))))))
   (ah (az (fg)))
   (aH)) <|
  ah (az (fQ (oQ rfl) abx rfl E.b_all abl (aq (h9 rfl (vj (own:=(["sign"]:List Str)) (fr:=[]) rfl) (bC (dvQ 0)) (λ _ _ _ _ _ _=>ax (i:=0) ahs rfl (Or.inl rfl)) (λ _ _ _ _ _ _=>cI) (λ _ _ _ _ _ _=>lh gg ef gg ef (aL) (dvQ 0) (aL))) (aa))))
theorem sO:aU mB q_5 (aj gF):=by walk_at "sc"
theorem sx(E:Env K mg)(F:Fn K mg "is_whole" gF q_5 f fq) :
  cj P w K mg base CX0 1 f fq q_5 (dX K cU):=by
 refine cM (t:=mH) F.fn sO qT (λ cdv A outer s H E' hr=>?_) nN;refine Jd.h ?_;exact ah (az (ft (fQ bW dn rfl E.b_isinstance aW (aq (dvQ 0) (aq (cF rfl E.b_int uc) (aa)))) (jw (vU (fQ bW dn rfl E.b_isinstance aW (aq (dvQ 0) (aq (cF rfl E.b_bool ym) (aa))))))))
theorem pf:aU lG q_6 (aj fL):=by walk_at "sc"
theorem pO(E:Env K mg)(F:Fn K mg "is_within" fL q_6 f fq)(z8:mW P w K mg base) :
  cj P w K mg base CX0 2 f fq q_6 (dX K bx):=by
 obtain⟨_,_,G8,O8⟩:=z8;refine cM (t:=lI cU) F.fn pf nu (λ cdv A outer s H E' hr=>?_) ma;refine Jd.h ?_;exact ah (az (ft (dB O8 hr.m rfl G8.mg G8.fn.kp G8.bd (aq (dvQ 0) (aa))) (jw (lh gg ef gg ef (dvQ 1) (dvQ 0) (dvQ 2)))))
theorem jl:aU gc aes (aj dj):=by walk_at "sc"
theorem jq(E:Env K mg)(F:Fn K mg "is_machine_row" dj aes f fq)(z7:kJ P w K mg base)(z9:iE P w K mg base) :
  cj P w K mg base CX0 3 f fq aes (dX K bq):=by
 obtain⟨_,_,G7,O7⟩:=z7;obtain⟨_,_,G9,O9⟩:=z9;refine cM (t:=gf bS bx) F.fn jl i9 (λ cdv A outer s H E' hr=>?_) iw;refine Jd.h ?_;exact ah (az (ft (fQ bW dn rfl E.b_isinstance aW (aq (dvQ 0) (aq (cF rfl E.b_tuple i5) (aa)))) (ft (iF (df hr.h) cx (fQ cA eD rfl E.b_len eF (aq (dvQ 0) (aa))) (ag)) (ft (dB O7 hr.m rfl G7.mg G7.fn.kp G7.bd (aq (bc ba bb (dvQ 0) (ag)) (aa))) (jw (dB O9 hr.m rfl G9.mg G9.fn.kp G9.bd (aq (bc ba bb (dvQ 0) (ag)) (aq (dvQ 1) (aq (gB rfl (E.c_MOST_BERTHS).choose_spec) (aa))))))))))
theorem eC:aU gu aeB (aj bU):=by walk_at "sc"
theorem j1(E:Env K mg)(F:FnD K mg "refuse_berths" bU aeB 0 f fq)
  (G6:Xi K aw "BadBerths.__init__" dk vA f6 fd6)(O6:cj P w K mg base CX0 1 f6 fd6 vA (nr aw ["at"]))
  (G10:Fn K mg "is_machine_row" dj aes f10 fd10)(O10:cj P w K mg base CX0 3 f10 fd10 aes (dX K bq)) :
  cj P w K mg base (CXE P w) 4 f fq aeB (eL K bw):=by
 refine aa7 (t:=λ Ex=>gD Ex bq) F.fn eC jx (λ cdv A outer s H E' Ex hr hE hP=>?_) jd;refine Jd.h ?_;exact af (aY (cy (cz (fQ bW dn rfl E.b_isinstance aW (aq (dvQ 0) (aq (cF rfl E.b_list ip) (aa))))))
   (ah (fC hE G6.xm O6 hr.m rfl E.m_BadBerths G6.bd (aq (ag) (aa))))
   (aH)) <|
  ah (cE hP rfl (lK rfl E.b_enumerate (aq (dvQ 0) (aa))) (dm rfl (aJ (ax (i:=2) eC.nd rfl (Or.inl rfl)) (aJ (ax (i:=3) eC.nd rfl (Or.inl rfl)) (cH))))
   (ah (aY (e9 (eh (aI acx yO (dvQ 2) (gB rfl (E.c_MOST_ROWS).choose_spec)) (eh (cy (cz (dB O10 hr.m rfl G10.mg G10.fn.kp G10.bd (aq (dvQ 3) (aq (dvQ 1) (aa)))))) (fh (e9 (fM (aI wR oZ (dvQ 2) (ag)) (fu (aI gg ef (bc ba bb (dvQ 3) (ag)) (bc ba bb (bc ba bb (dvQ 0) (aN xR sH (dvQ 2) (ag))) (ag))))))))))
    (ah (fC hE G6.xm O6 hr.m rfl E.m_BadBerths G6.bd (aq (dvQ 2) (aa))))
    (aH))))
theorem j9:aU lu vA (aj dN):=by walk_at "sc"
theorem j8(E:Env K mg)(F:Xi K aA "BadAsked.__init__" dN vA f fq):cj P w K mg base CX0 1 f fq vA (nr aA ["at"]):=af2 F.fn j9 F.xm.xc E.n_BadAsked_at rfl (λ _=>rfl) rfl rfl
theorem kF:aU ig aeu (aj dR):=by walk_at "sc"
theorem lQ(E:Env K mg)(F:Fn K mg "is_asked_row" dR aeu f fq)(z7:kJ P w K mg base)(z9:iE P w K mg base) :
  cj P w K mg base CX0 3 f fq aeu (dX K bK):=by
 obtain⟨_,_,G7,O7⟩:=z7;obtain⟨_,_,G9,O9⟩:=z9;refine cM (t:=hZ bS bx) F.fn kF j7 (λ cdv A outer s H E' hr=>?_) jj;refine Jd.h ?_;exact af (aY (e9 (eh (cy (cz (fQ bW dn rfl E.b_isinstance aW (aq (dvQ 0) (aq (cF rfl E.b_tuple i5) (aa)))))) (fh (aI (uu hr.h) oE (fQ cA eD rfl E.b_len eF (aq (dvQ 0) (aa))) (ag)))))
   (ah (az (fg)))
   (aH)) <|
  ah (az (ft (dB O7 hr.m rfl G7.mg G7.fn.kp G7.bd (aq (bc ba bb (dvQ 0) (ag)) (aa))) (ft (dB O7 hr.m rfl G7.mg G7.fn.kp G7.bd (aq (bc ba bb (dvQ 0) (ag)) (aa))) (jw (dB O9 hr.m rfl G9.mg G9.fn.kp G9.bd (aq (bc ba bb (dvQ 0) (ag)) (aq (ag) (aq (gB rfl (E.c_MOST_COPIES).choose_spec) (aa)))))))))
theorem aik:(["ahead"]:List Str).Nodup:=by decide +kernel
theorem eW:aU ie rl (aj dW):=by walk_at "sc"
theorem lT(E:Env K mg)(F:Fn K mg "refuse_asked" dW rl f fq)
  (G12:Xi K aA "BadAsked.__init__" dN vA f12 fd12)(O12:cj P w K mg base CX0 1 f12 fd12 vA (nr aA ["at"]))
  (G13:Fn K mg "is_asked_row" dR aeu f13 fd13)(O13:cj P w K mg base CX0 3 f13 fd13 aeu (dX K bK)) :
  cj P w K mg base (CXE P w) 4 f fq rl (eL K bJ):=by
 refine iI (t:=λ Ex=>hV Ex bK) F.fn eW ka (λ cdv A outer s H E' Ex hr hE hP=>?_) jz;refine Jd.h ?_;exact af (aY (cy (cz (fQ bW dn rfl E.b_isinstance aW (aq (dvQ 0) (aq (cF rfl E.b_list ip) (aa))))))
   (ah (fC hE G12.xm O12 hr.m rfl E.m_BadAsked G12.bd (aq (ag) (aa))))
   (aH)) <|
  ah (cE hP rfl (lK rfl E.b_enumerate (aq (dvQ 0) (aa))) (dm rfl (aJ (ax (i:=1) eW.nd rfl (Or.inl rfl)) (aJ (ax (i:=2) eW.nd rfl (Or.inl rfl)) (cH))))
   (ah (aY (e9 (eh (aI acx yO (dvQ 1) (gB rfl (E.c_MOST_ROWS).choose_spec)) (eh (cy (cz (dB O13 hr.m rfl G13.mg G13.fn.kp G13.bd (aq (dvQ 2) (aa))))) (fh (aI ql (t7 false) (bc ba bb (dvQ 2) (ag)) (h9 rfl (vj (own:=(["ahead"]:List Str)) (fr:=[]) rfl) (bC (aQ (dvQ 0) (aR) (aS (dvQ 1)))) (λ _ _ _ _ _ _=>ax (i:=0) aik rfl (Or.inl rfl)) (λ _ _ _ _ _ _=>cI) (λ _ _ _ _ _ _=>bc ba bb (dvQ 0) (ag))))))))
    (ah (fC hE G12.xm O12 hr.m rfl E.m_BadAsked G12.bd (aq (dvQ 1) (aa))))
    (aH))))
theorem kM:aU g7 fW (aj bR):=by walk_at "sc"
theorem kH(E:Env K mg)(F:Fn K mg "refuse_wrong" bR fW f fq)
  (G11:FnD K mg "refuse_berths" bU aeB 0 f11 fd11)(O11:cj P w K mg base (CXE P w) 4 f11 fd11 aeB (eL K bw))
  (G14:Fn K mg "refuse_asked" dW rl f14 fd14)(O14:cj P w K mg base (CXE P w) 4 f14 fd14 rl (eL K bJ)) :
  cj P w K mg base (CXE P w) 5 f fq fW (eL K au):=by
 refine iI (t:=λ Ex=>hJ Ex bw bJ) F.fn kM j6 (λ cdv A outer s H E' Ex hr hE hP=>?_) jE;refine Jd.h ?_;exact af (cG (aiw hE O11 hr.m rfl G11.mg G11.fn.kp G11.bd (aq (dvQ 0) (aa)))) <|
  ah (cG (xw hE O14 hr.m rfl G14.mg G14.fn.kp G14.bd (aq (dvQ 1) (aa))))
theorem aiz:(["berths", "at"]:List Str).Nodup:=by decide +kernel
theorem eO:aU qg sU (aj dZ):=by walk_at "sc"
theorem vn(E:Env K mg)(F:Fn K mg "lacking" dZ sU f fq) :
  cj P w K mg base CX0 1 f fq sU (dX K aM):=by
 refine cM (t:=pS) F.fn eO sS (λ cdv A outer s H E' hr=>?_) pj;refine Jd.h ?_;exact af (ay (i:=2) eO.nd rfl (Or.inl rfl) (ag)) <|
  af (cE PassesOwn.never rfl (lK rfl E.b_enumerate (aq (eK (vt rfl rfl E.b_sorted (dvQ 1))) (aa))) (dm rfl (aJ (ax (i:=3) eO.nd rfl (Or.inr rfl)) (aJ (ax (i:=4) eO.nd rfl (Or.inl rfl)) (cH))))
   (af (xO (i:=2) eO.nd rfl (Or.inl rfl) (dvQ 4) ab0) <|
   af (ay (i:=5) eO.nd rfl (Or.inl rfl) (fQ (xo rfl) aeT rfl E.b_sum aga (aq (h9 rfl (vj (own:=(["berths"]:List Str)) (fr:=[3]) rfl) (bC (dvQ 0)) (λ _ _ _ _ _ _=>ax (i:=0) aiz rfl (Or.inl rfl)) (λ _ _ _ _ _ _=>cI) (λ _ _ _ _ _ _=>fQ (ze rfl) adt rfl E.b_min ag6 (aq (dvQ 0) (aq (aN cn bz (dvQ 1) (ag)) (aa))))) (aa)))) <|
   ah (aY (aI wR oZ (dvQ 2) (dvQ 5))
    (ah (az (aX (aq (aN cn bz (dvQ 3) (ag)) (aq (dvQ 2) (aq (dvQ 5) (aa)))))))
    (aH)))) <|
  ah (az (cZ))
theorem af9:(["machine", "many"]:List Str).Nodup:=by decide +kernel
theorem rW:aU mr tm (aj dA):=by walk_at "sc"
theorem rq(E:Env K mg)(F:Fn K mg "rooms_of" dA tm f fq) :
  cj P w K mg base CX0 1 f fq tm (dX K aE):=by
 refine cM (t:=mP) F.fn rW qP (λ cdv A outer s H E' hr=>?_) oF;refine Jd.h ?_;exact ah (az (h9 rfl (vj (own:=(["machine", "many"]:List Str)) (fr:=[]) rfl) (bC (dvQ 0)) (λ _ _ _ _ _ _=>dm rfl (aJ (ax (i:=0) af9 rfl (Or.inl rfl)) (aJ (ax (i:=1) af9 rfl (Or.inl rfl)) (cH)))) (λ _ _ _ _ _ _=>cI) (λ _ _ _ _ _ _=>dvQ 1)))
theorem dH:aU jU rl (aj dE):=by walk_at "sc"
theorem oN(E:Env K mg)(F:Fn K mg "demands_of" dE rl f fq) :
  cj P w K mg base CX0 1 f fq rl (dX K aT):=by
 refine cM (t:=jT) F.fn dH l8 (λ cdv A outer s H E' hr=>?_) lJ;refine Jd.h ?_;exact af (ay (i:=1) dH.nd rfl (Or.inl rfl) (jF)) <|
  af (cE PassesOwn.never rfl (bC (dvQ 0)) (dm rfl (aJ (ax (i:=2) dH.nd rfl (Or.inl rfl)) (aJ (ax (i:=3) dH.nd rfl (Or.inl rfl)) (aJ (ax (i:=4) dH.nd rfl (Or.inl rfl)) (cH)))))
   (ah (pw (qE hr) (dvQ 1) (dvQ 3) (aN cn bz (uw (qE hr) (dvQ 1) (dvQ 3) (ag)) (dvQ 4))))) <|
  ah (az (dvQ 1))
theorem sj:aU m8 fW (aj gO):=by walk_at "sc"
theorem rG(E:Env K mg)(F:Fn K mg "short_of" gO fW f fq)
  (G15:Fn K mg "refuse_wrong" bR fW f15 fd15)(O15:cj P w K mg base (CXE P w) 5 f15 fd15 fW (eL K au))
  (G16:Fn K mg "lacking" dZ sU f16 fd16)(O16:cj P w K mg base CX0 1 f16 fd16 sU (dX K aM))
  (G17:Fn K mg "rooms_of" dA tm f17 fd17)(O17:cj P w K mg base CX0 1 f17 fd17 tm (dX K aE))
  (G18:Fn K mg "demands_of" dE rl f18 fd18)(O18:cj P w K mg base CX0 1 f18 fd18 rl (dX K aT)) :
  cj P w K mg base (CXE P w) 6 f fq fW (eL K cT):=by
 refine iI (t:=λ Ex=>mx Ex au aM aE aT) F.fn sj qD (λ cdv A outer s H E' Ex hr hE hP=>?_) nY;refine Jd.h ?_;exact af (cG (xw hE O15 hr.m rfl G15.mg G15.fn.kp G15.bd (aq (dvQ 0) (aq (dvQ 1) (aa))))) <|
  ah (az (dB O16 hr.m rfl G16.mg G16.fn.kp G16.bd (aq (dB O17 hr.m rfl G17.mg G17.fn.kp G17.bd (aq (dvQ 0) (aa))) (aq (dB O18 hr.m rfl G18.mg G18.fn.kp G18.bd (aq (dvQ 1) (aa))) (aa)))))
theorem jM:aU kN q_7 (aj fV):=by walk_at "sc"
theorem pT(E:Env K mg)(F:Fn K mg "with_more" fV q_7 f fq) :
  cj P w K mg base CX0 1 f fq q_7 (dX K a6):=by
 refine cM (t:=lV) F.fn jM nZ (λ cdv A outer s H E' hr=>?_) l6;refine Jd.h ?_;exact af (ay (i:=3) jM.nd rfl (Or.inl rfl) (ad2 sP xG rfl E.b_dict yC (aq (dvQ 0) (aa)))) <|
  af (pw (qE hr) (dvQ 3) (dvQ 1) (aN cn bz (uw (qE hr) (dvQ 3) (dvQ 1) (ag)) (dvQ 2))) <|
  ah (az (dvQ 3))
theorem gq:aU ia q_8 (aj dQ):=by walk_at "sc"
theorem lP(E:Env K mg)(F:Fn K mg "greatest_run" dQ q_8 f fq)
  (G16:Fn K mg "lacking" dZ sU f16 fd16)(O16:cj P w K mg base CX0 1 f16 fd16 sU (dX K aM))(z20:fJ P w K mg base) :
  cj P w K mg base CX0 2 f fq q_8 (dX K bI):=by
 obtain⟨_,_,G20,O20⟩:=z20;refine cM (t:=hU aM a6) F.fn gq kf (λ cdv A outer s H E' hr=>?_) jk;refine Jd.h ?_;exact af (cE PassesOwn.never rfl (qa rfl E.b_range (aq (dvQ 3) (aq (ag) (aq (fZ f7 eA (ag)) (aa))))) (ax (i:=4) gq.nd rfl (Or.inl rfl))
   (ah (aY (aI agT aca (dB O16 hr.m rfl G16.mg G16.fn.kp G16.bd (aq (dvQ 0) (aq (dB O20 hr.m rfl G20.mg G20.fn.kp G20.bd (aq (dvQ 1) (aq (dvQ 2) (aq (dvQ 4) (aa))))) (aa)))) (cZ))
    (ah (az (dvQ 4)))
    (aH)))) <|
  ah (az (ag))
theorem dy:aU qF aba (aj gw):=by walk_at "sc"
theorem uC(E:Env K mg)(F:Fn K mg "running" gw aba f fq)(z21:gX P w K mg base)(z20:fJ P w K mg base) :
  cj P w K mg base CX0 3 f fq aba (dX K bT):=by
 obtain⟨_,_,G21,O21⟩:=z21;obtain⟨_,_,G20,O20⟩:=z20;refine cM (t:=qO bI a6) F.fn dy rY (λ cdv A outer s H E' hr=>?_) o6;refine Jd.h ?_;exact af (ay (i:=2) dy.nd rfl (Or.inl rfl) (jF)) <|
  af (ay (i:=3) dy.nd rfl (Or.inl rfl) (dG (aa))) <|
  af (cE PassesOwn.never rfl (bC (dvQ 1)) (dm rfl (aJ (ax (i:=4) dy.nd rfl (Or.inl rfl)) (aJ (ax (i:=5) dy.nd rfl (Or.inl rfl)) (aJ (ax (i:=6) dy.nd rfl (Or.inl rfl)) (cH)))))
   (af (ay (i:=7) dy.nd rfl (Or.inl rfl) (dB O21 hr.m rfl G21.mg G21.fn.kp G21.bd (aq (dvQ 0) (aq (dvQ 2) (aq (dvQ 5) (aq (dvQ 6) (aa))))))) <|
   af (ay (i:=2) dy.nd rfl (Or.inl rfl) (dB O20 hr.m rfl G20.mg G20.fn.kp G20.bd (aq (dvQ 2) (aq (dvQ 5) (aq (dvQ 7) (aa)))))) <|
   ah (cG (fz (dvQ 3) (aX (aq (dvQ 4) (aq (dvQ 5) (aq (dvQ 7) (aa))))))))) <|
  ah (az (dvQ 3))
theorem acB:(["wish", "kind", "run"]:List Str).Nodup:=by decide +kernel
theorem uS:aU pF fW (aj iR):=by walk_at "sc"
theorem uX(E:Env K mg)(F:Fn K mg "runs_of" iR fW f fq)
  (G15:Fn K mg "refuse_wrong" bR fW f15 fd15)(O15:cj P w K mg base (CXE P w) 5 f15 fd15 fW (eL K au))
  (G22:Fn K mg "running" gw aba f22 fd22)(O22:cj P w K mg base CX0 3 f22 fd22 aba (dX K bT))
  (G17:Fn K mg "rooms_of" dA tm f17 fd17)(O17:cj P w K mg base CX0 1 f17 fd17 tm (dX K aE)) :
  cj P w K mg base (CXE P w) 6 f fq fW (eL K dw):=by
 refine iI (t:=λ Ex=>o7 Ex au bT aE) F.fn uS rM (λ cdv A outer s H E' Ex hr hE hP=>?_) qX;refine Jd.h ?_;exact af (cG (xw hE O15 hr.m rfl G15.mg G15.fn.kp G15.bd (aq (dvQ 0) (aq (dvQ 1) (aa))))) <|
  ah (az (adp rfl (vj (own:=(["wish", "kind", "run"]:List Str)) (fr:=[]) rfl) (bC (eK (dB O22 hr.m rfl G22.mg G22.fn.kp G22.bd (aq (dB O17 hr.m rfl G17.mg G17.fn.kp G17.bd (aq (dvQ 0) (aa))) (aq (dvQ 1) (aa)))))) (λ _ _ _ _ _ _=>dm rfl (aJ (ax (i:=0) acB rfl (Or.inl rfl)) (aJ (ax (i:=1) acB rfl (Or.inl rfl)) (aJ (ax (i:=2) acB rfl (Or.inl rfl)) (cH))))) (λ _ _ _ _ _ _=>cI) (λ _ _ _ _ _ _=>aX (aq (dvQ 0) (aq (dvQ 2) (aa))))))
theorem bo:aU gZ aep (aj dU):=by walk_at "sc"
theorem lg(E:Env K mg)(F:Fn K mg "shortages_of" dU aep f fq)(z20:fJ P w K mg base)
  (G16:Fn K mg "lacking" dZ sU f16 fd16)(O16:cj P w K mg base CX0 1 f16 fd16 sU (dX K aM)) :
  cj P w K mg base CX0 2 f fq aep (dX K bG):=by
 obtain⟨_,_,G20,O20⟩:=z20;refine cM (t:=ib a6 aM) F.fn bo j2 (λ cdv A outer s H E' hr=>?_) jv;refine Jd.h ?_;exact af (ay (i:=3) bo.nd rfl (Or.inl rfl) (jF)) <|
  af (ay (i:=4) bo.nd rfl (Or.inl rfl) (dG (aa))) <|
  af (cE PassesOwn.never rfl (aai rfl E.b_zip (aq (dvQ 1) (aq (dvQ 2) (aa)))) (dm rfl (aJ (dm rfl (aJ (ax (i:=5) bo.nd rfl (Or.inl rfl)) (aJ (ax (i:=6) bo.nd rfl (Or.inl rfl)) (aJ (ax (i:=7) bo.nd rfl (Or.inl rfl)) (cH))))) (aJ (dm rfl (aJ (ax (i:=8) bo.nd rfl (Or.inl rfl)) (aJ (ax (i:=9) bo.nd rfl (Or.inl rfl)) (aJ (ax (i:=10) bo.nd rfl (Or.inl rfl)) (cH))))) (cH))))
   (af (ay (i:=3) bo.nd rfl (Or.inl rfl) (dB O20 hr.m rfl G20.mg G20.fn.kp G20.bd (aq (dvQ 3) (aq (dvQ 6) (aq (dvQ 10) (aa)))))) <|
   ah (cG (fz (dvQ 4) (yF (aI (df hr.h) cx (dvQ 10) (dvQ 7)) (cZ) (dB O16 hr.m rfl G16.mg G16.fn.kp G16.bd (aq (dvQ 0) (aq (dB O20 hr.m rfl G20.mg G20.fn.kp G20.bd (aq (dvQ 3) (aq (dvQ 6) (aq (ag) (aa))))) (aa))))))))) <|
  ah (az (dvQ 4))
theorem lS:aU mO aey (aj gM):=by walk_at "sc"
theorem rL(E:Env K mg)(F:Fn K mg "shortage" gM aey f fq)
  (G15:Fn K mg "refuse_wrong" bR fW f15 fd15)(O15:cj P w K mg base (CXE P w) 5 f15 fd15 fW (eL K au))
  (G17:Fn K mg "rooms_of" dA tm f17 fd17)(O17:cj P w K mg base CX0 1 f17 fd17 tm (dX K aE))
  (G24:Fn K mg "shortages_of" dU aep f24 fd24)(O24:cj P w K mg base CX0 2 f24 fd24 aep (dX K bG))
  (G22:Fn K mg "running" gw aba f22 fd22)(O22:cj P w K mg base CX0 3 f22 fd22 aba (dX K bT)) :
  cj P w K mg base (CXE P w) 6 f fq aey (eL K cQ):=by
 refine iI (t:=λ Ex=>nc Ex au aE bG bT) F.fn lS pK (λ cdv A outer s H E' Ex hr hE hP=>?_) n5;refine Jd.h ?_;exact af (cG (xw hE O15 hr.m rfl G15.mg G15.fn.kp G15.bd (aq (dvQ 0) (aq (dvQ 1) (aa))))) <|
  af (ay (i:=3) lS.nd rfl (Or.inl rfl) (dB O17 hr.m rfl G17.mg G17.fn.kp G17.bd (aq (dvQ 0) (aa)))) <|
  ah (az (bc ba bb (eK (dB O24 hr.m rfl G24.mg G24.fn.kp G24.bd (aq (dvQ 3) (aq (dvQ 1) (aq (eK (dB O22 hr.m rfl G22.mg G22.fn.kp G22.bd (aq (dvQ 3) (aq (dvQ 1) (aa))))) (aa)))))) (dvQ 2)))
theorem i6:aU wQ fW (aj n9):=by walk_at "sc"
theorem aag(E:Env K mg)(F:Fn K mg "bears" n9 fW f fq)
  (G15:Fn K mg "refuse_wrong" bR fW f15 fd15)(O15:cj P w K mg base (CXE P w) 5 f15 fd15 fW (eL K au))
  (G18:Fn K mg "demands_of" dE rl f18 fd18)(O18:cj P w K mg base CX0 1 f18 fd18 rl (dX K aT))
  (G17:Fn K mg "rooms_of" dA tm f17 fd17)(O17:cj P w K mg base CX0 1 f17 fd17 tm (dX K aE))
  (G16:Fn K mg "lacking" dZ sU f16 fd16)(O16:cj P w K mg base CX0 1 f16 fd16 sU (dX K aM)) :
  cj P w K mg base (CXE P w) 6 f fq fW (eL K fk):=by
 refine iI (t:=λ Ex=>xX Ex au aT aE aM) F.fn i6 xy (λ cdv A outer s H E' Ex hr hE hP=>?_) uU;refine Jd.h ?_;exact af (cG (xw hE O15 hr.m rfl G15.mg G15.fn.kp G15.bd (aq (dvQ 0) (aq (dvQ 1) (aa))))) <|
  af (ay (i:=2) i6.nd rfl (Or.inl rfl) (dB O18 hr.m rfl G18.mg G18.fn.kp G18.bd (aq (dvQ 1) (aa)))) <|
  af (ay (i:=3) i6.nd rfl (Or.inl rfl) (eK (vg rfl rfl E.b_sorted (dB O17 hr.m rfl G17.mg G17.fn.kp G17.bd (aq (dvQ 0) (aa)))))) <|
  af (aY (aI lj iV (dB O16 hr.m rfl G16.mg G16.fn.kp G16.bd (aq (dvQ 3) (aq (dvQ 2) (aa)))) (cZ))
   (ah (az (cZ)))
   (aH)) <|
  af (cE hP rfl (dP rfl E.b_range (aq (fQ cA eD rfl E.b_len eF (aq (dvQ 3) (aa))) (aa))) (ax (i:=4) i6.nd rfl (Or.inl rfl))
   (af (ay (i:=5) i6.nd rfl (Or.inl rfl) (dB O16 hr.m rfl G16.mg G16.fn.kp G16.bd (aq (aQ (dvQ 3) (aS (aN cn bz (dvQ 4) (ag))) (aR)) (aq (dvQ 2) (aa))))) <|
   ah (aY (aI lj iV (dvQ 5) (cZ))
    (ah (az (aX (aq (dvQ 4) (aq (dvQ 5) (aa))))))
    (aH)))) <|
  ah (az (aX (aq (fQ cA eD rfl E.b_len eF (aq (dvQ 3) (aa))) (aq (cZ) (aa)))))
theorem lZ:aU nq aeo (aj eG):=by walk_at "sc"
theorem mh(E:Env K mg)(F:Xi K aC "NoRoom.__init__" eG aeo f fq):cj P w K mg base CX0 1 f fq aeo (nr aC ["first", "demanded", "room"]):=ahD F.fn lZ F.xm.xc E.n_NoRoom_first E.n_NoRoom_demanded E.n_NoRoom_room rfl (λ _=>rfl) (λ _=>rfl) (λ _=>rfl) (by decide) (by decide)
theorem ji:aU f9 aeD (aj bM):=by walk_at "sc"
theorem ju(E:Env K mg)(F:Fn K mg "greatest_first" bM aeD f fq)(hcd:fq.code=.ref bX) :
  cj P w K mg base CX0 4 f fq aeD (dX K bh):=by
 refine adj (t:=gb) F.fn hcd ji ja (λ A outer s H E' hr=>?_) iy;refine Jd.h ?_;exact ah (az (yy (k:=0) (q:=cJ) hr.m rfl rfl E.b_sorted (ahW (x:= "word") (fr:=[0]) rfl) rfl E.h_greatest_first rfl (λ _ _ _ _ _=>rfl) (dvQ 0) (λ _ _ _ _ _ _ hr=>aX (aq (fZ f7 eA (nO (qE hr) (dvQ 1) (dvQ 0))) (aq (dvQ 0) (aa))))))
theorem aic:(["machine"]:List Str).Nodup:=by decide +kernel
theorem af3:(["machine", "kinds"]:List Str).Nodup:=by decide +kernel
theorem cO:aU tD fW (aj ko):=by walk_at "sc"
theorem w6(E:Env K mg)(F:Fn K mg "laying" ko fW f fq)
  (G15:Fn K mg "refuse_wrong" bR fW f15 fd15)(O15:cj P w K mg base (CXE P w) 5 f15 fd15 fW (eL K au))
  (G18:Fn K mg "demands_of" dE rl f18 fd18)(O18:cj P w K mg base CX0 1 f18 fd18 rl (dX K aT))
  (G16:Fn K mg "lacking" dZ sU f16 fd16)(O16:cj P w K mg base CX0 1 f16 fd16 sU (dX K aM))
  (G17:Fn K mg "rooms_of" dA tm f17 fd17)(O17:cj P w K mg base CX0 1 f17 fd17 tm (dX K aE))
  (G27:Xi K aC "NoRoom.__init__" eG aeo f27 fd27)(O27:cj P w K mg base CX0 1 f27 fd27 aeo (nr aC ["first", "demanded", "room"]))
  (G28:Fn K mg "greatest_first" bM aeD f28 fd28)(O28:cj P w K mg base CX0 4 f28 fd28 aeD (dX K bh)) :
  cj P w K mg base (CXE P w) 6 f fq fW (eL K d9):=by
 refine iI (t:=λ Ex=>tL Ex au aT aM aE bh) F.fn cO vi (λ cdv A outer s H E' Ex hr hE hP=>?_) sR;refine Jd.h ?_;exact af (cG (xw hE O15 hr.m rfl G15.mg G15.fn.kp G15.bd (aq (dvQ 0) (aq (dvQ 1) (aa))))) <|
  af (ay (i:=2) cO.nd rfl (Or.inl rfl) (dB O18 hr.m rfl G18.mg G18.fn.kp G18.bd (aq (dvQ 1) (aa)))) <|
  af (ay (i:=3) cO.nd rfl (Or.inl rfl) (dB O16 hr.m rfl G16.mg G16.fn.kp G16.bd (aq (dB O17 hr.m rfl G17.mg G17.fn.kp G17.bd (aq (dvQ 0) (aa))) (aq (dvQ 2) (aa))))) <|
  af (aY (aI lj iV (dvQ 3) (cZ))
   (af (gP (dvQ 3) (dm rfl (aJ (ax (i:=4) cO.nd rfl (Or.inl rfl)) (aJ (ax (i:=5) cO.nd rfl (Or.inl rfl)) (aJ (ax (i:=6) cO.nd rfl (Or.inl rfl)) (cH)))))) <|
   ah (fC hE G27.xm O27 hr.m rfl E.m_NoRoom G27.bd (aq (dvQ 4) (aq (dvQ 5) (aq (dvQ 6) (aa))))))
   (aH)) <|
  af (ay (i:=7) cO.nd rfl (Or.inl rfl) (ad2 (sG rfl) vJ rfl E.b_dict yC (aq (dvQ 0) (aa)))) <|
  af (uy (u5 (i:=8) cO.nd rfl (Or.inl rfl) rfl (vj (own:=(["machine"]:List Str)) (fr:=[]) rfl) (va (dvQ 7)) (λ _ _ _ _ _ _=>ax (i:=0) aic rfl (Or.inl rfl)) (λ _ _ _ _ _ _=>cI) (λ _ _ _ _ _ _=>dvQ 0) (λ _ _ _ _ _ _=>dG (aa)))) <|
  af (cE hP rfl (bC (eK (dB O28 hr.m rfl G28.mg G28.fn.kp G28.bd (aq (dvQ 2) (aa))))) (ax (i:=9) cO.nd rfl (Or.inl rfl))
   (af (ay (i:=10) cO.nd rfl (Or.inl rfl) (aQ (eK (dB O28 hr.m rfl G28.mg G28.fn.kp G28.bd (aq (dvQ 7) (aa)))) (aR) (aS (nO (qE hr) (dvQ 2) (dvQ 9))))) <|
   ah (cE hP rfl (bC (dvQ 10)) (ax (i:=11) cO.nd rfl (Or.inl rfl))
    (af (cG (fz (nO (qE hr) (dvQ 8) (dvQ 11)) (dvQ 9))) <|
    ah (wg (qE hr) (dvQ 7) (dvQ 11) (ag) agG))))) <|
  ah (az (aaL (vX (ag1 rfl (vj (own:=(["machine", "kinds"]:List Str)) (fr:=[]) rfl) (rV (dvQ 8)) (λ _ _ _ _ _ _=>dm rfl (aJ (ax (i:=0) af3 rfl (Or.inl rfl)) (aJ (ax (i:=1) af3 rfl (Or.inl rfl)) (cH)))) (λ _ _ _ _ _ _=>cI) (λ _ _ _ _ _ _=>dvQ 0) (λ _ _ _ _ _ _=>fQ pX aaw rfl E.b_sorted iN (aq (dvQ 1) (aa)))))))
theorem cw:aU jK q_9 (aj ff):=by walk_at "sc"
theorem nM(E:Env K mg)(F:Fn K mg "_law_asked_by" ff q_9 f fq)
  (G19:Fn K mg "short_of" gO fW f19 fd19)(O19:cj P w K mg base (CXE P w) 6 f19 fd19 fW (eL K cT))
  (G23:Fn K mg "runs_of" iR fW f23 fd23)(O23:cj P w K mg base (CXE P w) 6 f23 fd23 fW (eL K dw))
  (G25:Fn K mg "shortage" gM aey f25 fd25)(O25:cj P w K mg base (CXE P w) 6 f25 fd25 aey (eL K cQ))
  (G26:Fn K mg "bears" n9 fW f26 fd26)(O26:cj P w K mg base (CXE P w) 6 f26 fd26 fW (eL K fk))
  (G29:Fn K mg "laying" ko fW f29 fd29)(O29:cj P w K mg base (CXE P w) 6 f29 fd29 fW (eL K d9)) :
  cj P w K mg base CX0 7 f fq q_9 (dX K cu):=by
 refine cM (t:=jH cT dw cQ fk d9) F.fn cw l4 (λ cdv A outer s H E' hr=>?_) lH;refine Jd.h ?_;exact af (aaR rfl rfl (λ _ _ _ _ hE hP =>
   ah (aY (aI (df hr.h) cx (dvQ 0) (ag))
    (ah (ay (i:=3) cw.nd rfl (Or.inl rfl) (xw hE O19 hr.m rfl G19.mg G19.fn.kp G19.bd (aq (dvQ 1) (aq (dvQ 2) (aa))))))
    (ah (aY (aI (df hr.h) cx (dvQ 0) (ag))
     (ah (ay (i:=3) cw.nd rfl (Or.inl rfl) (xw hE O23 hr.m rfl G23.mg G23.fn.kp G23.bd (aq (dvQ 1) (aq (dvQ 2) (aa))))))
     (ah (aY (aI (df hr.h) cx (dvQ 0) (ag))
      (ah (ay (i:=3) cw.nd rfl (Or.inl rfl) (xw hE O25 hr.m rfl G25.mg G25.fn.kp G25.bd (aq (dvQ 1) (aq (dvQ 2) (aq (ag) (aa)))))))
      (ah (aY (aI (df hr.h) cx (dvQ 0) (ag))
       (ah (ay (i:=3) cw.nd rfl (Or.inl rfl) (xw hE O26 hr.m rfl G26.mg G26.fn.kp G26.bd (aq (dvQ 1) (aq (dvQ 2) (aa))))))
       (ah (ay (i:=3) cw.nd rfl (Or.inl rfl) (xw hE O29 hr.m rfl G29.mg G29.fn.kp G29.bd (aq (dvQ 1) (aq (dvQ 2) (aa)))))))))))))) (afq (i:=4) rfl E.m_PlaceError (jf.cons E.e_BadBerths_PlaceError (jf.cons E.e_BadAsked_PlaceError (jf.cons E.e_NoRoom_PlaceError (jf.nil)))) cw.nd rfl rfl rfl (λ _ =>
   af (ay (i:=5) cw.nd rfl (Or.inl rfl) (ck (aq (nR E.b_isinstance (jf.cons ⟨E.x_BadBerths,E.i_BadBerths_BadBerths⟩ (jf.cons ⟨E.x_BadAsked,E.i_BadAsked_BadBerths⟩ (jf.cons ⟨E.x_NoRoom,E.i_NoRoom_BadBerths⟩ (jf.nil)))) rfl E.m_BadBerths (dvQ 4)) (aq (nR E.b_isinstance (jf.cons ⟨E.x_BadBerths,E.i_BadBerths_BadAsked⟩ (jf.cons ⟨E.x_BadAsked,E.i_BadAsked_BadAsked⟩ (jf.cons ⟨E.x_NoRoom,E.i_NoRoom_BadAsked⟩ (jf.nil)))) rfl E.m_BadAsked (dvQ 4)) (aq (aa1 (cs:=[.ref dM,.ref aC]) E.b_isinstance (jf.cons ⟨E.x_BadBerths,E.i_BadBerths_BadName_NoRoom⟩ (jf.cons ⟨E.x_BadAsked,E.i_BadAsked_BadName_NoRoom⟩ (jf.cons ⟨E.x_NoRoom,E.i_NoRoom_BadName_NoRoom⟩ (jf.nil)))) (tj rfl E.m_BadName (tj rfl E.m_NoRoom (acC))) (dvQ 4)) (aa)))))) <|
    af (aY (aI (df (hr.h.mark _)) cx (dvQ 5) (ck (aq (fg) (aq (fg) (aq (fg) (aa))))))
     (ah (az (aX (aq (aL) (aq (tE (vB.cons ⟨E.x_BadBerths,E.n_BadBerths_at⟩ (vB.cons ⟨E.x_BadAsked,E.n_BadAsked_at⟩ (vB.nil))) (dvQ 4)) (aa))))))
     (aH)) <|
    af (aY (aI (df (hr.h.mark _)) cx (dvQ 5) (ck (aq (fg) (aq (fg) (aq (fg) (aa))))))
     (ah (az (aX (aq (aL) (aq (tE (vB.cons ⟨E.x_BadBerths,E.n_BadBerths_at⟩ (vB.cons ⟨E.x_BadAsked,E.n_BadAsked_at⟩ (vB.nil))) (dvQ 4)) (aa))))))
     (aH)) <|
    ah (az (aX (aq (bc ba bb (ck (aq (aL) (aq (aL) (aa)))) (ad2 qY abp rfl E.b_int uc (aq (ft (nR E.b_isinstance (jf.cons ⟨E.x_BadBerths,E.i_BadBerths_NoRoom⟩ (jf.cons ⟨E.x_BadAsked,E.i_BadAsked_NoRoom⟩ (jf.cons ⟨E.x_NoRoom,E.i_NoRoom_NoRoom⟩ (jf.nil)))) rfl E.m_NoRoom (dvQ 4)) (jw (iF (df (hr.h.mark _)) cx (dvQ 0) (ag)))) (aa)))) (aq (ag) (aa)))))) (aa2))) <|
  ah (az (aX (aq (aL) (aq (ag) (aa)))))
theorem oA:aU jY vE (aj fj):=by walk_at "sc"
theorem oj(E:Env K mg)(F:Fn K mg "_law_is_count" fj vE f fq) :
  cj P w K mg base CX0 1 f fq vE (dX K cv):=by
 refine cM (t:=jS) F.fn oA me (λ cdv A outer s H E' hr=>?_) lD;refine Jd.h ?_;exact ah (az (ft (fQ bW dn rfl E.b_isinstance aW (aq (dvQ 0) (aq (cF rfl E.b_int uc) (aa)))) (ft (vU (fQ bW dn rfl E.b_isinstance aW (aq (dvQ 0) (aq (cF rfl E.b_bool ym) (aa))))) (jw (lh gg ef gg ef (ag) (dvQ 0) (ag))))))
theorem ago:(["_law_sign"]:List Str).Nodup:=by decide +kernel
theorem pN:aU lN vE (aj fU):=by walk_at "sc"
theorem pH(E:Env K mg)(F:Fn K mg "_law_is_word" fU vE f fq) :
  cj P w K mg base CX0 1 f fq vE (dX K cD):=by
 refine cM (t:=kL) F.fn pN oM (λ cdv A outer s H E' hr=>?_) mj;refine Jd.h ?_;exact af (aY (e9 (eh (cy (cz (fQ bW dn rfl E.b_isinstance aW (aq (dvQ 0) (aq (cF rfl E.b_str abY) (aa)))))) (fh (cy (mv gg ef gg ef (ag) (fQ cA eD rfl E.b_len eF (aq (dvQ 0) (aa))) (ag))))))
   (ah (az (fg)))
   (aH)) <|
  ah (az (iF (abF hr.h) vR (h9 rfl (vj (own:=(["_law_sign"]:List Str)) (fr:=[]) rfl) (bC (dvQ 0)) (λ _ _ _ _ _ _=>ax (i:=0) ago rfl (Or.inl rfl)) (λ _ _ _ _ _ _=>zh (aI ad9 zz (dvQ 0) (aL))) (λ _ _ _ _ _ _=>dvQ 0)) (ck (aa))))
theorem ae0:(["_law_word"]:List Str).Nodup:=by decide +kernel
theorem afQ:(["_law_other"]:List Str).Nodup:=by decide +kernel
theorem js:aU qW aeA (aj iZ):=by walk_at "sc"
theorem uV(E:Env K mg)(F:Fn K mg "_law_first" iZ aeA f fq)(z31:jJ P w K mg base)(z32:kP P w K mg base) :
  cj P w K mg base CX0 2 f fq aeA (dX K cW):=by
 obtain⟨_,_,G31,O31⟩:=z31;obtain⟨_,_,G32,O32⟩:=z32;refine cM (t:=pY cv cD) F.fn js sF (λ cdv A outer s H E' hr=>?_) qR;refine Jd.h ?_;exact af (aY (cy (cz (fQ bW dn rfl E.b_isinstance aW (aq (dvQ 0) (aq (cF rfl E.b_list ip) (aa))))))
   (ah (az (ag)))
   (aH)) <|
  af (cE PassesOwn.never rfl (dP rfl E.b_range (aq (fQ cA eD rfl E.b_len eF (aq (dvQ 0) (aa))) (aa))) (ax (i:=2) js.nd rfl (Or.inl rfl))
   (af (ay (i:=3) js.nd rfl (Or.inl rfl) (bc ba bb (dvQ 0) (dvQ 2))) <|
   af (aY (e9 (eh (aI (df hr.h) cx (dvQ 2) (ag)) (eh (cy (cz (fQ bW dn rfl E.b_isinstance aW (aq (dvQ 3) (aq (cF rfl E.b_tuple i5) (aa)))))) (eh (aI (uu hr.h) oE (fQ cA eD rfl E.b_len eF (aq (dvQ 3) (aa))) (dvQ 1)) (fh (cy (cz (dB O31 hr.m rfl G31.mg G31.fn.kp G31.bd (aq (bc ba bb (dvQ 3) (fZ f7 eA (ag))) (aa))))))))))
    (ah (az (dvQ 2)))
    (aH)) <|
   af (aY (cy (cz (fQ (oQ rfl) abx rfl E.b_all abl (aq (h9 rfl (vj (own:=(["_law_word"]:List Str)) (fr:=[]) rfl) (bC (aQ (dvQ 3) (aR) (aS (fZ f7 eA (ag))))) (λ _ _ _ _ _ _=>ax (i:=0) ae0 rfl (Or.inl rfl)) (λ _ _ _ _ _ _=>cI) (λ _ _ _ _ _ _=>dB O32 hr.m rfl G32.mg G32.fn.kp G32.bd (aq (dvQ 0) (aa)))) (aa)))))
    (ah (az (dvQ 2)))
    (aH)) <|
   af (aY (e9 (fM (aI (df hr.h) cx (dvQ 1) (ag)) (fM (aI wR oZ (dvQ 2) (ag)) (fu (aI gg ef (bc ba bb (dvQ 3) (ag)) (bc ba bb (bc ba bb (dvQ 0) (aN xR sH (dvQ 2) (ag))) (ag)))))))
    (ah (az (dvQ 2)))
    (aH)) <|
   ah (aY (e9 (fM (aI (df hr.h) cx (dvQ 1) (ag)) (fu (aI ql (t7 false) (bc ba bb (dvQ 3) (ag)) (h9 rfl (vj (own:=(["_law_other"]:List Str)) (fr:=[]) rfl) (bC (aQ (dvQ 0) (aR) (aS (dvQ 2)))) (λ _ _ _ _ _ _=>ax (i:=0) afQ rfl (Or.inl rfl)) (λ _ _ _ _ _ _=>cI) (λ _ _ _ _ _ _=>bc ba bb (dvQ 0) (ag)))))))
    (ah (az (dvQ 2)))
    (aH)))) <|
  ah (az (cZ))
theorem gK:aU qJ q_9 (aj iK):=by walk_at "sc"
theorem uY(E:Env K mg)(F:Fn K mg "_law_right" iK q_9 f fq)(z30:jO P w K mg base)(z33:pE P w K mg base) :
  cj P w K mg base CX0 8 f fq q_9 (dX K a9):=by
 obtain⟨_,_,G30,O30⟩:=z30;obtain⟨_,_,G33,O33⟩:=z33;refine cM (t:=pU cu cW) F.fn gK rR (λ cdv A outer s H E' hr=>?_) qt;refine Jd.h ?_;exact af (ay (i:=3) gK.nd rfl (Or.inl rfl) (fQ (mU hr.h) sW rfl E.b_repr wU (aq (ck (aq (dvQ 1) (aq (dvQ 2) (aa)))) (aa)))) <|
  af (ay (i:=4) gK.nd rfl (Or.inl rfl) (dB O30 hr.m rfl G30.mg G30.fn.kp G30.bd (aq (dvQ 0) (aq (dvQ 1) (aq (dvQ 2) (aa)))))) <|
  af (aY (aI (uu hr.h) oE (fQ (mU hr.h) sW rfl E.b_repr wU (aq (ck (aq (dvQ 1) (aq (dvQ 2) (aa)))) (aa))) (dvQ 3))
   (ah (az (fg)))
   (aH)) <|
  af (tV (i:=5) (j:=6) rfl gK.nd rfl rfl (by decide) rfl rfl (aq (dB O33 hr.m rfl G33.mg G33.fn.kp G33.bd (aq (dvQ 1) (aq (ag) (aa)))) (aq (dB O33 hr.m rfl G33.mg G33.fn.kp G33.bd (aq (dvQ 2) (aq (ag) (aa)))) (aa)))) <|
  af (aY (aI lj iV (dvQ 5) (cZ))
   (ah (az (iF (df hr.h) cx (dvQ 4) (aX (aq (aL) (aq (dvQ 5) (aa)))))))
   (aH)) <|
  af (aY (aI lj iV (dvQ 6) (cZ))
   (ah (az (iF (df hr.h) cx (dvQ 4) (aX (aq (aL) (aq (dvQ 6) (aa)))))))
   (aH)) <|
  ah (az (iF (afn hr.h) acy (dvQ 4) (ck (aq (aX (aq (aL) (aq (ag) (aa)))) (aq (aX (aq (aL) (aq (ag) (aa)))) (aa))))))
theorem g8:aU afw q_0 (aj nG):=by walk_at "sc"
theorem aff(E:Env K mg)(F:Fn K mg "law" nG q_0 f fq)(z0:wA P w K mg base)(z2:mZ P w K mg base)(z3:oX P w K mg base)(z1:gG P w K mg base)(z5:t9 P w K mg base)(z34:qG P w K mg base) :
  cj P w K mg base CX0 9 f fq q_0 (dX K lb):=by
 obtain⟨_,_,G0,O0⟩:=z0;obtain⟨_,_,G2,O2⟩:=z2;obtain⟨_,_,G3,O3⟩:=z3;obtain⟨_,_,G1,O1⟩:=z1;obtain⟨_,_,G5,O5⟩:=z5;obtain⟨_,_,G34,O34⟩:=z34;refine cM (t:=af4 fc cS du av cq a9) F.fn g8 adH (λ cdv A outer s H E' hr=>?_) zA;refine Jd.h ?_;exact af (ay (i:=1) g8.nd rfl (Or.inl rfl) (dB O0 hr.m rfl G0.mg G0.fn.kp G0.bd (aq (dvQ 0) (aa)))) <|
  af (cE PassesOwn.never rfl (dP rfl E.b_range (aq (ag) (aa))) (ax (i:=2) g8.nd rfl (Or.inl rfl))
   (af (tV (i:=3) (j:=4) rfl g8.nd rfl rfl (by decide) rfl rfl (aq (dB O2 hr.m rfl G2.mg G2.fn.kp G2.bd (aq (dvQ 1) (aq (ag) (aq (ag) (aa))))) (aq (gC (dB O3 hr.m rfl G3.mg G3.fn.kp G3.bd (aq (dvQ 1) (aq (ag) (aq (ag) (aa))))) (ck (aq (aX (aq (aL) (aq (aL) (aq (ag) (aa))))) (aa)))) (aa)))) <|
   af (ay (i:=5) g8.nd rfl (Or.inl rfl) (dB O1 hr.m rfl G1.mg G1.fn.kp G1.bd (aq (dvQ 1) (aq (ag) (aa))))) <|
   af (ay (i:=6) g8.nd rfl (Or.inl rfl) (dG (aq (dB O5 hr.m rfl G5.mg G5.fn.kp G5.bd (aq (dvQ 1) (aq (dvQ 3) (aq (aX (aq (aL) (aq (ag) (aa)))) (aa))))) (aq (dB O5 hr.m rfl G5.mg G5.fn.kp G5.bd (aq (dvQ 1) (aq (dvQ 4) (aq (aX (aq (aL) (aq (aL) (aq (ag) (aa))))) (aa))))) (aa))))) <|
   af (aY (e9 (fM (aI (df hr.h) cx (dvQ 5) (ag)) (fu (cz (fQ bW dn rfl E.b_isinstance aW (aq (bc ba bb (dvQ 6) (ag)) (aq (cF rfl E.b_list ip) (aa))))))))
    (ah (gP (dB O5 hr.m rfl G5.mg G5.fn.kp G5.bd (aq (dvQ 1) (aq (bc ba bb (dvQ 6) (ag)) (aq (aX (aq (aL) (aq (ag) (aa)))) (aa))))) (iU (dvQ 6) (ag))))
    (aH)) <|
   af (aY (e9 (fM (aI (df hr.h) cx (dvQ 5) (ag)) (fu (cz (fQ bW dn rfl E.b_isinstance aW (aq (bc ba bb (dvQ 6) (ag)) (aq (cF rfl E.b_list ip) (aa))))))))
    (ah (gP (dB O5 hr.m rfl G5.mg G5.fn.kp G5.bd (aq (dvQ 1) (aq (bc ba bb (dvQ 6) (ag)) (aq (aX (aq (aL) (aq (aL) (aq (ag) (aa))))) (aa))))) (iU (dvQ 6) (ag))))
    (aH)) <|
   af (ay (i:=7) g8.nd rfl (Or.inl rfl) (bc ba bb (dG (aq (ck (aq (bc ba bb (dvQ 6) (ag)) (aq (dvQ 4) (aa)))) (aq (ck (aq (dvQ 3) (aq (bc ba bb (dvQ 6) (ag)) (aa)))) (aq (dvQ 6) (aq (dvQ 6) (aa)))))) (dvQ 5))) <|
   af (ay (i:=8) g8.nd rfl (Or.inl rfl) (dB O1 hr.m rfl G1.mg G1.fn.kp G1.bd (aq (dvQ 1) (aq (ag) (aa))))) <|
   af (aY (e9 (fM (aI (abF hr.h) vR (bc ba bb (dvQ 7) (ag)) (ck (aa))) (fu (aI (df hr.h) cx (dvQ 8) (ag)))))
    (ah (ay (i:=8) g8.nd rfl (Or.inl rfl) (ag)))
    (aH)) <|
   ah (cE PassesOwn.never rfl (dP rfl E.b_range (aq (ag) (aa))) (ax (i:=9) g8.nd rfl (Or.inl rfl))
    (ah (aY (e9 (eh (cy (cz (dB O34 hr.m rfl G34.mg G34.fn.kp G34.bd (aq (dvQ 8) (aq (bc ba bb (dvQ 7) (ag)) (aq (bc ba bb (dvQ 7) (ag)) (aa))))))) (fh (cy (cz (dB O34 hr.m rfl G34.mg G34.fn.kp G34.bd (aq (dvQ 8) (aq (dvQ 3) (aq (dvQ 4) (aa))))))))))
     (ah (az (fg)))
     (aH)))))) <|
  ah (az (fg))
theorem all_mk{l:W.OpenLaw}{w:World}{K:FG}{h:Heap}{mg:Str->Option Value}{fa:Addr}(X:K.In h)(G:h.Ns mainGlobals mg)(hfa:mg "law" = some (.ref fa))
  (p0:PFn K "_law_bag" nv)
  (p1:PFn K "_law_take" kD)
  (p2:PFn K "_law_berths" gH)
  (p3:PFn K "_law_asked" i8)
  (p4:PFn K "_law_odd_row" fR)
  (p5:PFn K "_law_bent" kA)
  (p6:PXi K aw "BadBerths.__init__" dk)
  (p7:PFn K "is_word" iJ)
  (p8:PFn K "is_whole" gF)
  (p9:PFn K "is_within" fL)
  (p10:PFn K "is_machine_row" dj)
  {f11:Addr}{oc11 kV11 dc11 pm11 cd11 ct11:Value}{od11 an11:Option Addr}{sl11:Array (Option Value)}
  {T_refuse_berths:Addr}{tk11:Tok}{n_refuse_berths:Nat}{oc2_refuse_berths:Value}{od2_refuse_berths:Option Addr}{sl2_refuse_berths:Array (Option Value)}
  (a11:W.nsIn K mainGlobals "refuse_berths" = some (some (.ref f11)))(l11:K.lookup f11=some ⟨oc11,od11,.func (W.fnOf "refuse_berths" "refuse_berths" (bH bU) (bj bU) (aj bU) (.ref T_refuse_berths) kV11 dc11 pm11 an11 cd11 ct11),sl11⟩)(c11:W.codeIn K cd11 "refuse_berths" = true)(k11:W.keepIn K (.ref f11)=true)
  (dt11:K.lookup T_refuse_berths=some ⟨oc2_refuse_berths,od2_refuse_berths,.seq #[.int 0 tk11] n_refuse_berths,sl2_refuse_berths⟩)
  (p12:PXi K aA "BadAsked.__init__" dN)
  (p13:PFn K "is_asked_row" dR)
  (p14:PFn K "refuse_asked" dW)
  (p15:PFn K "refuse_wrong" bR)
  (p16:PFn K "lacking" dZ)
  (p17:PFn K "rooms_of" dA)
  (p18:PFn K "demands_of" dE)
  (p19:PFn K "short_of" gO)
  (p20:PFn K "with_more" fV)
  (p21:PFn K "greatest_run" dQ)
  (p22:PFn K "running" gw)
  (p23:PFn K "runs_of" iR)
  (p24:PFn K "shortages_of" dU)
  (p25:PFn K "shortage" gM)
  (p26:PFn K "bears" n9)
  (p27:PXi K aC "NoRoom.__init__" eG)
  {f28:Addr}{oc28 kV28 dc28 pm28 cd28 ct28:Value}{od28 an28:Option Addr}{sl28:Array (Option Value)}
  (a28:W.nsIn K mainGlobals "greatest_first" = some (some (.ref f28)))(l28:K.lookup f28=some ⟨oc28,od28,.func (W.fnOf "greatest_first" "greatest_first" (bH bM) (bj bM) (aj bM) .none kV28 dc28 pm28 an28 cd28 ct28),sl28⟩)(c28:W.codeIn K cd28 "greatest_first" = true)(k28:W.keepIn K (.ref f28)=true)
  (cc28:cd28=.ref bX)
  (p29:PFn K "laying" ko)
  (p30:PFn K "_law_asked_by" ff)
  (p31:PFn K "_law_is_count" fj)
  (p32:PFn K "_law_is_word" fU)
  (p33:PFn K "_law_first" iZ)
  (p34:PFn K "_law_right" iK)
  {f35:Addr}{oc35 kV35 dc35 pm35 cd35 ct35:Value}{od35 an35:Option Addr}{sl35:Array (Option Value)}
  (a35:W.nsIn K mainGlobals "law" = some (some (.ref f35)))(l35:K.lookup f35=some ⟨oc35,od35,.func (W.fnOf "law" "law" (bH nG) (bj nG) (aj nG) .none kV35 dc35 pm35 an35 cd35 ct35),sl35⟩)(c35:W.codeIn K cd35 "law" = true)(k35:W.keepIn K (.ref f35)=true)
  (xg_BadAsked:W.nsIn K mainGlobals "BadAsked" = some (some (.ref aA)))
  (xg_BadBerths:W.nsIn K mainGlobals "BadBerths" = some (some (.ref aw)))
  (xg_BadName:W.nsIn K mainGlobals "BadName" = some (some (.ref dM)))
  (xg_NoRoom:W.nsIn K mainGlobals "NoRoom" = some (some (.ref aC)))
  (xg_PlaceError:W.nsIn K mainGlobals "PlaceError" = some (some (.ref cC)))
  (xg1:W.specialIn K (.builtin "object.__class__") "__get__" = some (some (.builtin "getset_descriptor.__get__")))(xg2:W.takesIn K (.builtin "object.__class__")=some true)
  (x1_BadAsked:PXc K aA)
  (x1_BadBerths:PXc K aw)
  (x1_NoRoom:PXc K aC)
  (xf_e_BadAsked_PlaceError:W.exmOne K (.ref aA) (.ref cC)=some true)
  (xf_e_BadBerths_PlaceError:W.exmOne K (.ref aw) (.ref cC)=some true)
  (xf_e_NoRoom_PlaceError:W.exmOne K (.ref aC) (.ref cC)=some true)
  (xf_h_greatest_first:W.codeHdIn K bX aP=true)
  (xf_i_BadAsked_BadAsked:W.kitAny K (.ref aA) [.ref aA]=some true)
  (xf_i_BadAsked_BadBerths:W.kitAny K (.ref aA) [.ref aw]=some false)
  (xf_i_BadAsked_BadName_NoRoom:W.kitAny K (.ref aA) [.ref dM,.ref aC]=some false)
  (xf_i_BadAsked_NoRoom:W.kitAny K (.ref aA) [.ref aC]=some false)
  (xf_i_BadBerths_BadAsked:W.kitAny K (.ref aw) [.ref aA]=some false)
  (xf_i_BadBerths_BadBerths:W.kitAny K (.ref aw) [.ref aw]=some true)
  (xf_i_BadBerths_BadName_NoRoom:W.kitAny K (.ref aw) [.ref dM,.ref aC]=some false)
  (xf_i_BadBerths_NoRoom:W.kitAny K (.ref aw) [.ref aC]=some false)
  (xf_i_NoRoom_BadAsked:W.kitAny K (.ref aC) [.ref aA]=some false)
  (xf_i_NoRoom_BadBerths:W.kitAny K (.ref aC) [.ref aw]=some false)
  (xf_i_NoRoom_BadName_NoRoom:W.kitAny K (.ref aC) [.ref dM,.ref aC]=some true)
  (xf_i_NoRoom_NoRoom:W.kitAny K (.ref aC) [.ref aC]=some true)
  (n_BadAsked_at:W.findIn K (.ref aA) "at" = some none)
  (n_BadBerths_at:W.findIn K (.ref aw) "at" = some none)
  (n_NoRoom_demanded:W.findIn K (.ref aC) "demanded" = some none)
  (n_NoRoom_first:W.findIn K (.ref aC) "first" = some none)
  (n_NoRoom_room:W.findIn K (.ref aC) "room" = some none)
  (b_abs:W.nsIn K mainGlobals "abs" = some none)
  (b_all:W.nsIn K mainGlobals "all" = some none)
  (b_bool:W.nsIn K mainGlobals "bool" = some none)
  (b_dict:W.nsIn K mainGlobals "dict" = some none)
  (b_enumerate:W.nsIn K mainGlobals "enumerate" = some none)
  (b_int:W.nsIn K mainGlobals "int" = some none)
  (b_isinstance:W.nsIn K mainGlobals "isinstance" = some none)
  (b_len:W.nsIn K mainGlobals "len" = some none)
  (b_list:W.nsIn K mainGlobals "list" = some none)
  (b_min:W.nsIn K mainGlobals "min" = some none)
  (b_range:W.nsIn K mainGlobals "range" = some none)
  (b_repr:W.nsIn K mainGlobals "repr" = some none)
  (b_sorted:W.nsIn K mainGlobals "sorted" = some none)
  (b_str:W.nsIn K mainGlobals "str" = some none)
  (b_sum:W.nsIn K mainGlobals "sum" = some none)
  (b_tuple:W.nsIn K mainGlobals "tuple" = some none)
  (b_zip:W.nsIn K mainGlobals "zip" = some none)
  {t_LONGEST_WORD:Tok}(g_LONGEST_WORD:W.nsIn K mainGlobals "LONGEST_WORD" = some (some (.int 8 t_LONGEST_WORD)))
  {t_MOST_BERTHS:Tok}(g_MOST_BERTHS:W.nsIn K mainGlobals "MOST_BERTHS" = some (some (.int 6 t_MOST_BERTHS)))
  {t_MOST_COPIES:Tok}(g_MOST_COPIES:W.nsIn K mainGlobals "MOST_COPIES" = some (some (.int 6 t_MOST_COPIES)))
  {t_MOST_ROWS:Tok}(g_MOST_ROWS:W.nsIn K mainGlobals "MOST_ROWS" = some (some (.int 8 t_MOST_ROWS))) :
  ∃ fq:FuncData,(∀ (s:Shared) (v:Value),BindsTo s fq ⟨[v],[]⟩ [("_law_script",v)])/\∀ base:Heap,K.In base->base.Ns mainGlobals mg->cj l.prog w K mg base CX0 9 fa fq q_0 (dX K lb):=by
 have e:=hfa.symm.trans (W.mg_of X G a35);cases e;have E:Env K mg:=⟨W.mg_of X G xg_BadAsked,W.mg_of X G xg_BadBerths,W.mg_of X G xg_BadName,W.mg_of X G xg_NoRoom,W.mg_of X G xg_PlaceError,x1_BadAsked.xc xg1 xg2,x1_BadBerths.xc xg1 xg2,x1_NoRoom.xc xg1 xg2,xf_e_BadAsked_PlaceError,xf_e_BadBerths_PlaceError,xf_e_NoRoom_PlaceError,xf_h_greatest_first,xf_i_BadAsked_BadAsked,xf_i_BadAsked_BadBerths,xf_i_BadAsked_BadName_NoRoom,xf_i_BadAsked_NoRoom,xf_i_BadBerths_BadAsked,xf_i_BadBerths_BadBerths,xf_i_BadBerths_BadName_NoRoom,xf_i_BadBerths_NoRoom,xf_i_NoRoom_BadAsked,xf_i_NoRoom_BadBerths,xf_i_NoRoom_BadName_NoRoom,xf_i_NoRoom_NoRoom,n_BadAsked_at,n_BadBerths_at,n_NoRoom_demanded,n_NoRoom_first,n_NoRoom_room,W.mg_none_of X G b_abs,W.mg_none_of X G b_all,W.mg_none_of X G b_bool,W.mg_none_of X G b_dict,W.mg_none_of X G b_enumerate,W.mg_none_of X G b_int,W.mg_none_of X G b_isinstance,W.mg_none_of X G b_len,W.mg_none_of X G b_list,W.mg_none_of X G b_min,W.mg_none_of X G b_range,W.mg_none_of X G b_repr,W.mg_none_of X G b_sorted,W.mg_none_of X G b_str,W.mg_none_of X G b_sum,W.mg_none_of X G b_tuple,W.mg_none_of X G b_zip,⟨_,W.mg_of X G g_LONGEST_WORD⟩,⟨_,W.mg_of X G g_MOST_BERTHS⟩,⟨_,W.mg_of X G g_MOST_COPIES⟩,⟨_,W.mg_of X G g_MOST_ROWS⟩⟩;obtain⟨_,_,G0⟩:=p0.fn (ps:=q_0) X G (by walk_at "b1");obtain⟨_,_,G1⟩:=p1.fn (ps:=q_1) X G (by walk_at "b2");obtain⟨_,_,G2⟩:=p2.fn (ps:=q_2) X G (by walk_at "b3");obtain⟨_,_,G3⟩:=p3.fn (ps:=q_2) X G (by walk_at "b3");obtain⟨_,_,G4⟩:=p4.fn (ps:=q_3) X G (by walk_at "b2");obtain⟨_,_,G5⟩:=p5.fn (ps:=q_4) X G (by walk_at "b3");obtain⟨_,_,G6⟩:=p6.xi (ps:=vA) E.x_BadBerths (by walk_at "b2");obtain⟨_,_,G7⟩:=p7.fn (ps:=q_5) X G (by walk_at "b1");obtain⟨_,_,G8⟩:=p8.fn (ps:=q_5) X G (by walk_at "b1");obtain⟨_,_,G9⟩:=p9.fn (ps:=q_6) X G (by walk_at "b3");obtain⟨_,_,G10⟩:=p10.fn (ps:=aes) X G (by walk_at "b2");have G11:FnD K mg "refuse_berths" bU aeB 0 _ _:=agD X G a11 l11 c11 k11 dt11 (λ us hl=>match us,hl with | [_],_=>⟨_,rfl,rfl⟩)
 obtain⟨_,_,G12⟩:=p12.xi (ps:=vA) E.x_BadAsked (by walk_at "b2");obtain⟨_,_,G13⟩:=p13.fn (ps:=aeu) X G (by walk_at "b1");obtain⟨_,_,G14⟩:=p14.fn (ps:=rl) X G (by walk_at "b1");obtain⟨_,_,G15⟩:=p15.fn (ps:=fW) X G (by walk_at "b2");obtain⟨_,_,G16⟩:=p16.fn (ps:=sU) X G (by walk_at "b2");obtain⟨_,_,G17⟩:=p17.fn (ps:=tm) X G (by walk_at "b1");obtain⟨_,_,G18⟩:=p18.fn (ps:=rl) X G (by walk_at "b1");obtain⟨_,_,G19⟩:=p19.fn (ps:=fW) X G (by walk_at "b2");obtain⟨_,_,G20⟩:=p20.fn (ps:=q_7) X G (by walk_at "b3");obtain⟨_,_,G21⟩:=p21.fn (ps:=q_8) X G (by walk_at "b4");obtain⟨_,_,G22⟩:=p22.fn (ps:=aba) X G (by walk_at "b2");obtain⟨_,_,G23⟩:=p23.fn (ps:=fW) X G (by walk_at "b2");obtain⟨_,_,G24⟩:=p24.fn (ps:=aep) X G (by walk_at "b3");obtain⟨_,_,G25⟩:=p25.fn (ps:=aey) X G (by walk_at "b3");obtain⟨_,_,G26⟩:=p26.fn (ps:=fW) X G (by walk_at "b2");obtain⟨_,_,G27⟩:=p27.xi (ps:=aeo) E.x_NoRoom (by walk_at "b4");have G28:Fn K mg "greatest_first" bM aeD _ _:=adJ X G a28 l28 c28 k28 (λ _ _ _ _ _ _ us hl=>by obtain⟨_,rfl⟩:=D.aaI hl;rfl);obtain⟨_,_,G29⟩:=p29.fn (ps:=fW) X G (by walk_at "b2");obtain⟨_,_,G30⟩:=p30.fn (ps:=q_9) X G (by walk_at "b3");obtain⟨_,_,G31⟩:=p31.fn (ps:=vE) X G (by walk_at "b1");obtain⟨_,_,G32⟩:=p32.fn (ps:=vE) X G (by walk_at "b1");obtain⟨_,_,G33⟩:=p33.fn (ps:=aeA) X G (by walk_at "b2");obtain⟨_,_,G34⟩:=p34.fn (ps:=q_9) X G (by walk_at "b3");have G35:Fn K mg "law" nG q_0 _ _:=adJ X G a35 l35 c35 k35 (λ _ _ _ _ _ _ us hl=>by obtain⟨_,rfl⟩:=D.aaI hl;rfl);refine⟨W.fnOf "law" "law" (bH nG) (bj nG) (aj nG) .none kV35 dc35 pm35 an35 cd35 ct35,λ s v=>.of_eq rfl,λ base _ _=>?_⟩;have z0:wA l.prog w K mg base:=⟨_,_,G0,aaa E G0⟩;have z1:gG l.prog w K mg base:=⟨_,_,G1,yB E G1⟩;have z2:mZ l.prog w K mg base:=⟨_,_,G2,sJ E G2 z1⟩;have z3:oX l.prog w K mg base:=⟨_,_,G3,uH E G3 z1⟩;have z4:k9 l.prog w K mg base:=⟨_,_,G4,pW E G4 z1⟩;have z5:t9 l.prog w K mg base:=⟨_,_,G5,wX E G5 z1 z4⟩;have O6:=jo (P:=l.prog) (w:=w) (base:=base) E G6;have z7:kJ l.prog w K mg base:=⟨_,_,G7,u9 E G7⟩;have z8:mW l.prog w K mg base:=⟨_,_,G8,sx E G8⟩;have z9:iE l.prog w K mg base:=⟨_,_,G9,pO E G9 z8⟩;have O10:=jq (P:=l.prog) (w:=w) (base:=base) E G10 z7 z9;have O11:=j1 (P:=l.prog) (w:=w) (base:=base) E G11 G6 O6 G10 O10;have O12:=j8 (P:=l.prog) (w:=w) (base:=base) E G12;have O13:=lQ (P:=l.prog) (w:=w) (base:=base) E G13 z7 z9;have O14:=lT (P:=l.prog) (w:=w) (base:=base) E G14 G12 O12 G13 O13;have O15:=kH (P:=l.prog) (w:=w) (base:=base) E G15 G11 O11 G14 O14;have O16:=vn (P:=l.prog) (w:=w) (base:=base) E G16;have O17:=rq (P:=l.prog) (w:=w) (base:=base) E G17;have O18:=oN (P:=l.prog) (w:=w) (base:=base) E G18;have O19:=rG (P:=l.prog) (w:=w) (base:=base) E G19 G15 O15 G16 O16 G17 O17 G18 O18;have z20:fJ l.prog w K mg base:=⟨_,_,G20,pT E G20⟩;have z21:gX l.prog w K mg base:=⟨_,_,G21,lP E G21 G16 O16 z20⟩;have O22:=uC (P:=l.prog) (w:=w) (base:=base) E G22 z21 z20;have O23:=uX (P:=l.prog) (w:=w) (base:=base) E G23 G15 O15 G22 O22 G17 O17;have O24:=lg (P:=l.prog) (w:=w) (base:=base) E G24 z20 G16 O16;have O25:=rL (P:=l.prog) (w:=w) (base:=base) E G25 G15 O15 G17 O17 G24 O24 G22 O22;have O26:=aag (P:=l.prog) (w:=w) (base:=base) E G26 G15 O15 G18 O18 G17 O17 G16 O16;have O27:=mh (P:=l.prog) (w:=w) (base:=base) E G27;have O28:=ju (P:=l.prog) (w:=w) (base:=base) E G28 cc28;have O29:=w6 (P:=l.prog) (w:=w) (base:=base) E G29 G15 O15 G18 O18 G16 O16 G17 O17 G27 O27 G28 O28;have z30:jO l.prog w K mg base:=⟨_,_,G30,nM E G30 G19 O19 G23 O23 G25 O25 G26 O26 G29 O29⟩;have z31:jJ l.prog w K mg base:=⟨_,_,G31,oj E G31⟩;have z32:kP l.prog w K mg base:=⟨_,_,G32,pH E G32⟩;have z33:pE l.prog w K mg base:=⟨_,_,G33,uV E G33 z31 z32⟩;have z34:qG l.prog w K mg base:=⟨_,_,G34,uY E G34 z30 z33⟩;have O35:=aff (P:=l.prog) (w:=w) (base:=base) E G35 z0 z2 z3 z1 z5 z34;exact O35
end
theorem walk{l:W.OpenLaw}{q:Program}{loose:List Str}{XP:(Str->Option Value)->Heap->Prop}{YP:World->Heap->Prop}{d:DefRec}{K:Params->FG}(hq:PyProof.Rows.importsNone q=true)(hn:l.most=some 63)(hdf:d.params.defaults=[])
  (hT:∀ w:World,W.codeHdIn (K w.params) bX aP=true/\(K w.params).lookup aP=none)(hY:∀ (w:World) (h:Heap),YP w h->(K w.params).In h/\∀ T∈[aP],h.get? T=some {cls:=.none,data:=.fields #[]})
  (F:∀ (w:World) (mg:Str->Option Value) (fa:Addr) (h:Heap),(K w.params).In h->h.Ns mainGlobals mg->mg d.name=some (.ref fa) ->
   ∃ fq:FuncData,(∀ (s:Shared) (u:Value),BindsTo s fq ⟨[u],[]⟩ [("_law_script",u)])/\∀ base:Heap,(K w.params).In base->base.Ns mainGlobals mg->cj l.prog w (K w.params) mg base CX0 9 fa fq q_0 (dX (K w.params) lb)) :
  W.WalkO q loose XP YP l.row.toRowW d [] (λ f vs=>PySem.call f vs):=
 L2.aak (n:=63) (k:=9) (x:= "_law_script") (CX:=λ _=>CX0) (sp:=λ w=>dX (K w.params) lb) hq hn (by decide) hdf ⟨rfl,rfl,by decide,by decide⟩ [aP] (λ w T h=>by rw[List.mem_singleton.mp h];exact⟨⟨_,(hT w).1⟩,(hT w).2⟩) hY F (λ _ H a ns hl hO hB hS=>D.vm (q:=cJ) (lpos:=⟨122,31,122,66⟩) hl hO hB hS zV) λ _ _ _ _ _ z=>z
end K38
end
namespace PySem.W.Fast
def tw11374121602635019262:=0
def tw5369553041988303386:=0
def tw7083792331096842744:=0
def tw15511186463036875992:=0
def tw6908918171681226261:=0
def tw7986791116697801173:=0
def tw15727060472404351533:=0
def tw13108755618115418411:=0
def tw14219350528549666378:=0
def tw12249862471052290632:=0
def tw9407378059489838119:=0
def tw12867906027291865986:=0
def tw15297500674901824865:=0
def tw4713819389423527654:=0
end PySem.W.Fast
open PySem PySem.W PyProof.Rows
local macro_rules | `(tactic| walk_at "kf")=>`(tactic| (refine' D.ae3 ?a ?l ?c ?k; (case a=>k_is); (case l=>k_is); (case c=>k_is); (case k=>k_is)))
local macro_rules | `(tactic| walk_at "km")=>`(tactic| (refine' D.aeQ ?a ?i ?l ?c ?k; (case a=>k_is); (case i=>k_is); (case l=>k_is); (case c=>k_is); (case k=>k_is)))
local macro_rules | `(tactic| walk_at "kx")=>`(tactic| (refine' D.agN ?a ?i ?l ?c ?k ?m ?t ?n; (case a=>k_is); (case i=>k_is); (case l=>k_is); (case c=>k_is); (case k=>k_is); (case m=>kernel_rfl); (case t=>k_is); (case n=>k_is)))
local macro_rules | `(tactic| walk_at "ke")=>`(tactic| (refine' ⟨?a,?b,?c,?d,?e⟩; (case a=>kernel_rfl); (case b=>k_is); (case c=>k_is); (case d=>k_is); (case e=>k_is)))
set_option maxRecDepth 100000
set_option maxHeartbeats 0
theorem PySem.Challenge.cw_placedworks_k38_sums_refused_holds : PySem.Challenge.rw_placedworks_k38_sums_refused.Holds := by
 w_on;o_law;k_head; (case hw=>w_witness2)
 k_fill
 refine K38.walk (l:=PySem.Challenge.rw_placedworks_k38_sums_refused) ?Q rfl rfl ?T (λ w h Y=>⟨PySem.W.km_in_of Y,PySem.W.km_tabs_of Y⟩) ?F
 case Q=>kernel_rfl
 case T=>(intro w;exact⟨by kernel_rfl,by kernel_rfl⟩)
 case F =>
  intro w mg fa h KX G hmg;refine' K38.all_mk KX G hmg ?v0 ?v1 ?v2 ?v3 ?v4 ?v5 ?v6 ?v7 ?v8 ?v9 ?v10 ?v11 ?v12 ?v13 ?v14 ?v15 ?v16 ?v17 ?v18 ?v19 ?v20 ?v21 ?v22 ?v23 ?v24 ?v25 ?v26 ?v27 ?v28 ?v29 ?v30 ?v31 ?v32 ?v33 ?v34 ?v35 ?v36 ?v37 ?v38 ?v39 ?v40 ?v41 ?v42 ?v43 ?v44 ?v45 ?v46 ?v47 ?v48 ?v49 ?v50 ?v51 ?v52 ?v53 ?v54 ?v55 ?v56 ?v57 ?v58 ?v59 ?v60 ?v61 ?v62 ?v63 ?v64 ?v65 ?v66 ?v67 ?v68 ?v69 ?v70 ?v71 ?v72 ?v73 ?v74 ?v75 ?v76 ?v77 ?v78 ?v79 ?v80 ?v81 ?v82 ?v83 ?v84 ?v85 ?v86 ?v87 ?v88 ?v89 ?v90 ?v91 ?v92 ?v93 ?v94 ?v95 ?v96 ?v97 ?v98
  (case v0 | v1 | v2 | v3 | v4 | v5 | v7 | v8 | v9 | v10 | v17 | v18 | v19 | v20 | v21 | v22 | v23 | v24 | v25 | v26 | v27 | v28 | v29 | v30 | v37 | v38 | v39 | v40 | v41 | v42=>walk_at "kf")
  (case v6 | v16 | v31=>walk_at "kx")
  (case v11 | v12 | v13 | v14 | v15 | v32 | v33 | v34 | v35 | v43 | v44 | v45 | v46 | v47 | v48 | v49 | v50 | v51 | v52 | v53 | v73 | v74 | v75 | v76 | v77 | v78 | v79 | v80 | v81 | v82 | v83 | v84 | v85 | v86 | v87 | v88 | v89 | v90 | v91 | v92 | v93 | v94 | v95 | v96 | v97 | v98=>k_is)
  (case v36=>exact rfl)
  (case v54 | v55 | v56=>walk_at "ke")
  (case v57 | v58 | v59 | v60 | v61 | v62 | v63 | v64 | v65 | v66 | v67 | v68 | v69 | v70 | v71 | v72=>kernel_rfl)
