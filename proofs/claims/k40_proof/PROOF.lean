import PyProof.Rows.All
import Wide.All
import OpenK.AllK
import Wide.FinOn
import Lean
import PyProof.EqAt
import PyProof.EqKinds
import PyProof.TupleCall
import KE.KSortTup
import KE.KDictSum
import PyProof.Rows.Range3
import PyProof.Rows.SortRev
import PyProof.StrBlock2
import PyProof.ZipIter
import PyProof.Rows.ZipGen
import PyProof.NeKinds
import PyProof.DictCompW
import PyProof.DictWalks
import PyProof.AttrMissHeap
import PyProof.WalksS
import KE.KDictOf
import KE.KListMore
import KE.KEqDict
import PyProof.StationsW
import PyProof.InstStoreFacts
import PyProof.ExcBaseAll.ValueError
import PyProof.ExcClass2
import PyProof.RulesAs
import KE.KTryMore
import PyProof.ExcArgs
import KE.KIsAll
import OpenK.KOwn
import PyProof.P3In
import PyProof.DictUpdate
import PyProof.MeetsSeq2
import KE.KIntText
import KE.KRevSl
import PyProof.Rows.StrLawsPart
import PyProof.EnumMake
import PyProof.Draws
import PyProof.ListRange
import PyProof.TupleOfStr
import KE.KLam
import KE.KNestM
import KE.KMinKey
import PyProof.Rows.StrSplitMax
import PyProof.StrLawsOccR
import PySem.Challenge.RW_placedworks_k40_happenings_written
set_option genSizeOf false
set_option genSizeOfSpec false
set_option bootstrap.genMatcherCode false
set_option Elab.async false
set_option linter.all false
set_option maxRecDepth 100000
abbrev FG:=PySem.W.Frag
abbrev PN:=List (PySem.Addr×PySem.Obj)
abbrev VP:=PySem.Value->PySem.Shared->Prop
abbrev ND(x:PySem.Str):Prop:=(x==("__debug__" : PySem.Str))=false
section
open PySem PySem.Spec PyProof.Rows
namespace L2
abbrev Key:=Sum Int Str
def nM:Key->Value->Bool
 | .inl k,v=>Value.isInt k v
 | .inr x,v=>Value.isStrOf x v
def ajo(w:World):Key->Int
 | .inl k=>hashInt k
 | .inr x=>hashStr w x
theorem bI:∀ {k:Key} {v:Value},nM k v=true->(∃ i t,k=Sum.inl i/\v=Value.int i t)\/(∃ x t,k=Sum.inr x/\v=Value.str x t)
 | .inl i,v,h=>by obtain⟨t,e⟩:=Value.isInt_shape (k:=i) (v:=v) h;exact .inl ⟨i,t,rfl,e⟩
 | .inr x,v,h=>by obtain⟨t,e⟩:=Value.isStrOf_shape (x:=x) (v:=v) h;exact .inr ⟨x,t,rfl,e⟩
theorem yU(i:Int)(t:Tok):nM (.inl i) (.int i t)=true:=by simp[nM,Value.isInt]
theorem yF(x:Str)(t:Tok):nM (.inr x) (.str x t)=true:=by simp[nM,Value.isStrOf]
theorem afX(a b:Int):decide ((Sum.inl a:Key)=Sum.inl b)=(a==b):=by
 by_cases e:a=b
 ·subst e;simp
 ·have h:¬ (Sum.inl a:Key)=Sum.inl b:=λ q=>e (Sum.inl.inj q);rw[decide_eq_false h];exact(beq_eq_false_iff_ne.mpr e).symm
theorem agl(a b:Str):decide ((Sum.inr a:Key)=Sum.inr b)=decide (a=b):=by
 by_cases e:a=b
 ·subst e;simp
 ·have h:¬ (Sum.inr a:Key)=Sum.inr b:=λ q=>e (Sum.inr.inj q);rw[decide_eq_false h,decide_eq_false e]
theorem afc(a:Int)(b:Str):decide ((Sum.inl a:Key)=Sum.inr b)=false:=decide_eq_false (λ q=>nomatch q)
theorem afV(a:Str)(b:Int):decide ((Sum.inr a:Key)=Sum.inl b)=false:=decide_eq_false (λ q=>nomatch q)
def a9(prog:Program)(w:World):PySem.KeyKind prog w Key where
 is:=nM
 hash:=ajo w
 inj:=λ v a b ha hb=>by
  rcases bI ha with ⟨i,t,rfl,rfl⟩ | ⟨x,t,rfl,rfl⟩
  ·rcases bI hb with ⟨j,u,rfl,e⟩ | ⟨y,u,rfl,e⟩
   ·injection e with e1 _;rw[e1]
   ·exact nomatch e
  ·rcases bI hb with ⟨j,u,rfl,e⟩ | ⟨y,u,rfl,e⟩
   ·exact nomatch e
   ·injection e with e1 _;rw[e1]
 byValue:=λ k v h=>by
  rcases bI h with ⟨i,t,rfl,rfl⟩ | ⟨x,t,rfl,rfl⟩<;>rfl
 pyHash:=λ hv h=>by
  rcases bI hv with ⟨i,t,rfl,rfl⟩ | ⟨x,t,rfl,rfl⟩
  ·exact wpAny_pyHash_int h
  ·exact wpAny_pyHash_str h
 eqBool:=λ hu hv h=>by
  rcases bI hu with ⟨i,t,rfl,rfl⟩ | ⟨x,t,rfl,rfl⟩
  ·rcases bI hv with ⟨j,u,rfl,rfl⟩ | ⟨y,u,rfl,rfl⟩
   ·rw[afX] at h;exact wpAny_eqBool_int h
   ·rw[afc] at h;exact SeqAt.EqAt.int_str i t y u _ _ _ _ h
  ·rcases bI hv with ⟨j,u,rfl,rfl⟩ | ⟨y,u,rfl,rfl⟩
   ·rw[afV] at h;exact SeqAt.EqAt.str_int x t j u _ _ _ _ h
   ·rw[agl] at h;exact wpAny_eqBool_str h
 «strs»:=λ k x t v h=>by
  rcases bI h with ⟨i,u,rfl,e⟩ | ⟨y,u,rfl,e⟩
  ·exact nomatch e
  ·injection e with e1 _
   subst e1;cases v<;>rfl
theorem vN(prog:Program)(w:World)(k:Key)(v:Value):(a9 prog w).is k v=nM k v:=rfl
theorem r9(prog:Program)(w:World)(i:Int)(t:Tok):(a9 prog w).is (.inl i) (.int i t)=true:=yU i t
theorem tP(prog:Program)(w:World)(x:Str)(t:Tok):(a9 prog w).is (.inr x) (.str x t)=true:=yF x t
inductive V where
 | non | bl (b:Bool) | int (i:Int) | str (x:Str) | byt (b:Array UInt8) | flt (b:UInt64) | ref (a:Addr) | ty (n:String)
 deriving DecidableEq
def RelV:V->Value->Prop
 | .non,u=>u=Value.none
 | .bl b,u=>u=Value.bool b
 | .int i,u=>∃ t,u=Value.int i t
 | .str x,u=>∃ t,u=Value.str x t
 | .byt b,u=>∃ t,u=Value.bytes b t
 | .flt b,u=>∃ t,u=Value.float b t
 | .ref a,u=>u=Value.ref a
 | .ty n,u=>u=Value.type n
abbrev Vals:List V->List Value->Prop:=Paired RelV
theorem Vals.length{xs:List V}{us:List Value}(r:Vals xs us):xs.length=us.length:=Paired.length r
theorem Vals.get:∀ {xs:List V} {us:List Value} {i:Nat} {x:V},Vals xs us->xs[i]? =some x->∃ u,us[i]? =some u/\RelV x u
 | _,_,_,_,.nil,e=>by simp at e
 | _,_,0,_,.cons r _,e=>by simp at e;subst e;exact⟨_,rfl,r⟩
 | _,_,i+1,x,.cons _ t,e=>by obtain⟨u,h1,h2⟩:=Vals.get (i:=i) (x:=x) t (by simpa using e);exact⟨u,by simpa using h1,h2⟩
theorem Vals.set{x:V}{u:Value}(r:RelV x u):∀ {xs:List V} {us:List Value} (i:Nat),Vals xs us->Vals (xs.set i x) (us.set i u)
 | _,_,_,.nil=>.nil
 | _,_,0,.cons _ t=>.cons r t
 | _,_,i+1,.cons q t=>.cons q (Vals.set r i t)
theorem Vals.append:∀ {xs ys:List V} {us ws:List Value},Vals xs us->Vals ys ws->Vals (xs++ys) (us++ws)
 | _,_,_,_,.nil,s=>s
 | _,_,_,_,.cons r t,s=>.cons r (Vals.append t s)
theorem Vals.take:∀ {xs:List V} {us:List Value} (n:Nat),Vals xs us->Vals (xs.take n) (us.take n)
 | _,_,0,_=>.nil
 | _,_,_+1,.nil=>.nil
 | _,_,n+1,.cons r t=>.cons r (Vals.take n t)
theorem Vals.drop:∀ {xs:List V} {us:List Value} (n:Nat),Vals xs us->Vals (xs.drop n) (us.drop n)
 | _,_,0,r=>r
 | _,_,_+1,.nil=>.nil
 | _,_,n+1,.cons _ t=>Vals.drop n t
def vw:Option V->Option Value->Prop
 | some v,some u=>RelV v u
 | none,none=>True
 | _,_=>False
def KV{κ:Type}:List (κ×V)->List (κ×Value)->Prop:=Paired λ(p:κ×V) (q:κ×Value)=>p.1=q.1/\RelV p.2 q.2
def kV:Key->V
 | .inl i=>.int i
 | .inr x=>.str x
inductive HO where
 | lst (xs:List V)
 | tup (xs:List V)
 | dK (kvs:List (Key×V)) | dT (kvs:List (List Key×V))
 | set (S:Int->Bool) (n:Nat)
 | ins (C dx:Addr) (fs:List (Str×V))
 | own (x:Addr)
 | xd (fs:List (Str×V))
 | met (f x:Addr)
 | rng (lo hi:Int)
 | frz (o:Obj) (u:HO)
 | tbl (ps:Array Value)
 | ext (φ:Heap->Prop)
abbrev Hp:=Addr->Option HO
def upd(H:Hp)(a:Addr)(o:HO):Hp:=λ b=>if b=a then some o else H b
theorem aP{H:Hp}{a:Addr}{o:HO}:upd H a o a=some o:=by unfold upd;rw[if_pos rfl]
theorem aO{H:Hp}{a b:Addr}{o:HO}(h:b≠a):upd H a o b=H b:=by unfold upd;rw[if_neg h]
theorem tD{H:Hp}{a:Addr}{o u:HO}:upd (upd H a o) a u=upd H a u:=by
 funext b;unfold upd;split<;>rfl
theorem afb{H:Hp}{a b:Addr}{o u:HO}(h:H a=some o)(h':H b=some u)(d:o≠u):a≠b:=by intro e;subst e;rw[h] at h';exact d (Option.some.inj h')
theorem bo{H:Hp}{a b:Addr}{o:HO}(h:H a=some o)(h':H b=none):a≠b:=by intro e;subst e;rw[h] at h';cases h'
def zw(h:Heap)(a:Addr)(items:Array Value):Prop:=∃ o,h.get? a=some o/\o.cls=.type "tuple" /\ o.dict=none/\∃ n,o.data=.seq items n
theorem zw.tup{h:Heap}{a:Addr}{items:Array Value}(x:zw h a items):IsTup h a items:=let ⟨o,h1,h2,_,h3⟩:=x; ⟨o,h1,h2,h3⟩
theorem zw.new(h:Heap)(items:Array Value):zw (h.push {cls:=.type "tuple",data:=.seq items}) h.objs.size items:=⟨_,Heap.get?_push_size _ rfl,rfl,rfl,_,rfl⟩
section
variable (P:Program)(w:World)
def cR(H:Hp)(h:Heap)(a:Addr):HO->Prop
 | .lst xs=>xs.length<=sizeLine/\∃ (its:List Value) (n:Nat),Vals xs its/\h.get? a=some {cls:=.type "list",data:=.seq its.toArray n}
 | .tup xs=>xs.length<=sizeLine/\∃ its:List Value,Vals xs its/\zw h a its.toArray
 | .dK kvs=>kvs.length<=sizeLine/\(a==sysModules)=false/\∃ vs,KV kvs vs/\h.DictOf (a9 P w) a vs
 | .dT kvs=>kvs.length<=sizeLine/\(a==sysModules)=false/\∃ xs:List (List Key×Addr×Value),
   Paired (λ(p:List Key×V) (q:List Key×Addr×Value)=>p.1=q.1/\H q.2.1=some (.tup (p.1.map kV))/\RelV p.2 q.2.2) kvs xs /\
   ∃ o es ep,h.get? a=some o/\o.ExactDict/\o.data=.dict es ep/\es.toList=xs.map (entryOfKey (tupleKind (a9 P w)))/\(xs.map (·.1)).Nodup
 | .set S n=>h.SetOf (intKind P w) a S n
 | .ins C dx fs=>H dx=some (.own a)/\fs.length<=1000/\dx≠a/\h.get? a=some (W.instObj C dx) /\
   ∃ mA,h.Ns1 dx mA/\(∀ f,vw (fs.lookup f) (mA f))/\PySem.Within mA (fs.map (·.1))
 | .own _=>∃ o,h.get? a=some o
 | .xd fs=>∃ mA,h.Ns1 a mA/\∀ f,vw (fs.lookup f) (mA f)
 | .rng lo hi=>∃ t u v,h.get? a=some {cls:=.type "range",data:=.fields #[.int lo t,.int hi u,.int 1 v]}
 | .frz o u=>h.get? a=some o/\cR H h a u
 | .tbl ps=>h.get? a=some {cls:=.none,data:=.fields ps}
 | .met f x=>h.get? a=some (W.methodObj (.ref f) (.ref x))
 | .ext φ=>φ h/\(∃ o,h.get? a=some o)/\∀ h1 h2:Heap,φ h1->(∀ o,h1.get? a=some o->h2.get? a=some o)->φ h2
def HOk(H:Hp)(h:Heap):Prop:=∀ a o,H a=some o->cR P w H h a o
end
section
variable {P:Program}{w:World}{H H':Hp}{h h':Heap}{a:Addr}{o:HO}
theorem cR.lt(x:cR P w H h a o):a<h.objs.size:=by
 cases o with
 | lst xs=>obtain⟨_,_,_,_,e⟩:=x;exact Heap.lt_size e
 | tup xs=>obtain⟨_,_,_,p⟩:=x;exact p.tup.lt
 | dK kvs=>obtain⟨_,_,_,_,o,_,_,e,_⟩:=x;exact Heap.lt_size e
 | dT kvs=>obtain⟨_,_,_,_,o,_,_,e,_⟩:=x;exact Heap.lt_size e
 | set S n=>obtain⟨o,_,_,_,e,_⟩:=x;exact Heap.lt_size e
 | ins C dx fs=>obtain⟨_,_,_,e,_⟩:=x;exact Heap.lt_size e
 | own y=>obtain⟨_,e⟩:=x;exact Heap.lt_size e
 | xd fs=>obtain⟨_,⟨_,_,_,e,_⟩,_⟩:=x;exact Heap.lt_size e
 | rng lo hi=>obtain⟨_,_,_,e⟩:=x;exact Heap.lt_size e
 | frz ob u=>obtain⟨e,_⟩:=x;exact Heap.lt_size e
 | tbl ps=>exact Heap.lt_size (show h.get? a=some _ from x)
 | met f y=>exact Heap.lt_size (show h.get? a=some _ from x)
 | ext φ=>obtain⟨_,⟨_,e⟩,_⟩:=x;exact Heap.lt_size e
theorem Paired.xQ{α β:Type}{F G:α->β->Prop}:∀ {l₁:List α} {l₂:List β},Paired F l₁ l₂->(∀ a b,F a b->G a b)->Paired G l₁ l₂
 | _,_,.nil,_=>.nil
 | _,_,.cons r t,f=>.cons (f _ _ r) (Paired.xQ t f)
theorem cR.vA(x:cR P w H h a o)(k:∀ b u,(b=a\/H b=some (.own a))->h.get? b=some u->h'.get? b=some u)
  (ho:∀ b,H b=some (.own a)->H' b=some (.own a))(ht:∀ b xs,H b=some (.tup xs)->H' b=some (.tup xs)):cR P w H' h' a o:=by
 induction o with
 | lst xs=>obtain⟨z,its,n,r,e⟩:=x;exact⟨z,its,n,r,k _ _ (.inl rfl) e⟩
 | tup xs=>obtain⟨z,its,r,ob,e,c⟩:=x;exact⟨z,its,r,ob,k _ _ (.inl rfl) e,c⟩
 | dK kvs=>obtain⟨z,y,vs,r,ob,es,ep,e,c⟩:=x;exact⟨z,y,vs,r,ob,es,ep,k _ _ (.inl rfl) e,c⟩
 | dT kvs =>
  obtain⟨z,y,xs,r,ob,es,ep,e,c⟩:=x;exact⟨z,y,xs,Paired.xQ r λ p q z=>⟨z.1,ht _ _ z.2.1,z.2.2⟩,ob,es,ep,k _ _ (.inl rfl) e,c⟩
 | set S n=>obtain⟨ob,es,ep,t,e,c⟩:=x;exact⟨ob,es,ep,t,k _ _ (.inl rfl) e,c⟩
 | ins C dx fs =>
  obtain⟨d,z,ne,e,mA,⟨od,es,ep,e2,c⟩,r⟩:=x;exact⟨ho _ d,z,ne,k _ _ (.inl rfl) e,mA,⟨od,es,ep,k _ _ (.inr d) e2,c⟩,r⟩
 | own y=>obtain⟨ob,e⟩:=x;exact⟨ob,k _ _ (.inl rfl) e⟩
 | xd fs=>obtain⟨mA,⟨od,es,ep,e,c⟩,r⟩:=x;exact⟨mA,⟨od,es,ep,k _ _ (.inl rfl) e,c⟩,r⟩
 | rng lo hi=>obtain⟨t,u,v,e⟩:=x;exact⟨t,u,v,k _ _ (.inl rfl) e⟩
 | frz ob u ih=>obtain⟨e,q⟩:=x;exact⟨k _ _ (.inl rfl) e,ih q⟩
 | tbl ps =>
  have e:h.get? a=some {cls:=.none,data:=.fields ps}:=x;show h'.get? a=some {cls:=.none,data:=.fields ps};exact k a _ (.inl rfl) e
 | met f y =>
  have e:h.get? a=some (W.methodObj (.ref f) (.ref y)):=x;show h'.get? a=some (W.methodObj (.ref f) (.ref y));exact k a _ (.inl rfl) e
 | ext φ=>obtain⟨p,⟨o,e⟩,st⟩:=x;exact⟨st _ _ p λ o q=>k _ _ (.inl rfl) q,⟨o,k _ _ (.inl rfl) e⟩,st⟩
theorem HOk.lt(x:HOk P w H h)(e:H a=some o):a<h.objs.size:=(x a o e).lt
theorem HOk.fresh(x:HOk P w H h)(e:h.objs.size<=a):H a=none:=by
 cases q:H a with
 | none=>rfl
 | some u=>exact absurd (Nat.lt_of_lt_of_le (x.lt q) e) (Nat.lt_irrefl _)
theorem HOk.kept(x:HOk P w H h)(k:∀ b u,h.get? b=some u->h'.get? b=some u):HOk P w H h':=λ a o e =>
 (x a o e).vA (λ b u _ q=>k b u q) (λ _ q=>q) λ _ _ q=>q
theorem HOk.laid(x:HOk P w H h)(k:∀ b u,h.get? b=some u->h'.get? b=some u)(hp:h.objs.size<=a)(new:cR P w (upd H a o) h' a o):HOk P w (upd H a o) h':=λ b u e=>by
 have hn:=x.fresh hp
 by_cases hb:b=a
 ·subst hb;rw[aP] at e;cases e;exact new
 ·rw[aO hb] at e;exact(x b u e).vA (λ c v _ q=>k c v q) (λ c q=>by rw[aO (bo q hn)];exact q) λ c xs q=>by rw[aO (bo q hn)];exact q
end
def Rd(H:Hp)(a:Addr)(u:HO):Prop:=H a=some u\/∃ o,H a=some (.frz o u)
theorem Rd.ok{P:Program}{w:World}{H:Hp}{h:Heap}{a:Addr}{u:HO}(r:Rd H a u)(x:HOk P w H h):cR P w H h a u:=by
 rcases r with r | ⟨o,r⟩
 ·exact x a u r
 ·obtain⟨_,q⟩:=x a _ r;exact q
def Mut:Option HO->Prop
 | some (.lst _)=>True
 | some (.dK _)=>True
 | some (.dT _)=>True
 | some (.set _ _)=>True
 | some (.ins _ _ _)=>True
 | some (.ext _)=>True
 | _=>False
section
variable {P:Program}{w:World}{H:Hp}{h h':Heap}{x e:Addr}{o':HO}
theorem HOk.write(ok:HOk P w H h)(mu:Mut (H x))(he:e=x\/H e=some (.own x))(k:∀ b u,b≠e->h.get? b=some u->h'.get? b=some u)(heo:∃ u,h'.get? e=some u)
  (new:cR P w (upd H x o') h' x o'):HOk P w (upd H x o') h':=λ b u q=>by
 have nown:∀ c y,H c=some (.own y)->c≠x:=λ c y r z=>by subst z;rw[r] at mu;exact mu
 have ntup:∀ c xs,H c=some (.tup xs)->c≠x:=λ c xs r z=>by subst z;rw[r] at mu;exact mu
 by_cases hb:b=x
 ·subst hb;rw[aP] at q;cases q;exact new
 ·rw[aO hb] at q
  by_cases hbe:b=e
  ·have q':H b=some (.own x):=by
    rcases he with z | z
    ·exact absurd (hbe.trans z) hb
    ·rw[hbe];exact z
   rw[q] at q';cases q';obtain⟨v,hv⟩:=heo;exact⟨v,by rw[hbe];exact hv⟩
  ·refine(ok b u q).vA (λ c v hc r=>k c v ?_ r) (λ c r=>by rw[aO (nown c b r)];exact r) λ c xs r=>by rw[aO (ntup c xs r)];exact r
   rcases hc with rfl | hc
   ·exact hbe
   ·rintro rfl;rcases he with z | z
    ·exact nown c b hc z
    ·rw[hc] at z;cases z;exact hb rfl
end
structure Un(fs ex:List Addr)(H H':Hp)(h h':Heap):Prop where
 keep:∀ b o,h.get? b=some o->H b=none->b ∉ fs->b ∉ ex->h'.get? b=some o
 slot:∀ b o,h.get? b=some o->H b=none->b∈fs->b ∉ ex->∃ sl,h'.get? b=some {o with slots:=sl}
 free:∀ b o,h.get? b=some o->H b=none->b ∉ ex->H' b=none
 there:∀ b o,h.get? b=some o->b ∉ ex->∃ o',h'.get? b=some o'
 tups:∀ b xs,H b=some (.tup xs)->H' b=some (.tup xs)
 frzs:∀ b o u,H b=some (.frz o u)->H' b=some (.frz o u)
 tbls:∀ b ps,H b=some (.tbl ps)->∃ more,H' b=some (.tbl (ps++more))
section
variable {fs fs' ex ex':List Addr}{H H1 H2:Hp}{h h1 h2 h':Heap}{a x e:Addr}{o:HO}
theorem Un.any(u:Un fs ex H H1 h h1){b:Addr}{ob:Obj}(q:h.get? b=some ob)(n:H b=none)(hx:b ∉ ex):∃ sl,h1.get? b=some {ob with slots:=sl}:=by
 by_cases hb:b∈fs
 ·exact u.slot b ob q n hb hx
 ·exact⟨ob.slots,u.keep b ob q n hb hx⟩
theorem Un.kept(k:∀ b u,h.get? b=some u->h'.get? b=some u):Un fs ex H H h h':=
 ⟨λ b ob q _ _ _=>k b ob q,λ b ob q _ _ _=>⟨ob.slots,k b ob q⟩,λ _ _ _ n _=>n,λ b ob q _=>⟨ob,k b ob q⟩,λ _ _ q=>q,λ _ _ _ q=>q,λ _ ps q=>⟨#[],by rw[q];simp⟩⟩
theorem Un.refl:Un fs ex H H h h:=Un.kept λ _ _ q=>q
theorem Un.laid(k:∀ b u,h.get? b=some u->h'.get? b=some u)(hp:h.objs.size<=a)(hn:H a=none):Un fs ex H (upd H a o) h h' where
 keep:=λ b u q _ _ _=>k b u q
 slot:=λ b u q _ _ _=>⟨u.slots,k b u q⟩
 free:=λ b u q n _=>by rw[aO (Nat.ne_of_lt (Nat.lt_of_lt_of_le (Heap.lt_size q) hp))];exact n
 there:=λ b u q _=>⟨u,k b u q⟩
 tups:=λ b xs q=>by rw[aO (bo q hn)];exact q
 frzs:=λ b u xs q=>by rw[aO (bo q hn)];exact q
 tbls:=λ b ps q=>⟨#[],by rw[aO (bo q hn),q];simp⟩
theorem Un.write(mu:Mut (H x))(he:e=x\/H e=some (.own x))(k:∀ b u,b≠e->h.get? b=some u->h'.get? b=some u)(heo:∃ u,h'.get? e=some u):Un fs ex H (upd H x o) h h':=by
 have hx:∀ b,H b=none->b≠x:=λ b n z=>by subst z;rw[n] at mu;exact mu
 have hb:∀ b,H b=none->b≠e:=λ b n z=>by
  subst z;rcases he with r | r
  ·exact hx b n r
  ·rw[n] at r;cases r
 have hm:∀ b u,H b=some u->¬ Mut (some u)->b≠x:=λ b u q nm z=>by subst z;rw[q] at mu;exact nm mu
 refine⟨λ b u q n _ _=>k b u (hb b n) q,λ b u q n _ _=>⟨u.slots,k b u (hb b n) q⟩,λ b u q n _=>by rw[aO (hx b n)];exact n,λ b u q _=>?_,
  λ b xs q=>by rw[aO (hm b _ q λ z=>z)];exact q,λ b u xs q=>by rw[aO (hm b _ q λ z=>z)];exact q,λ b ps q=>⟨#[],by rw[aO (hm b _ q λ z=>z),q];simp⟩⟩
 by_cases hbe:b=e
 ·subst hbe;exact heo
 ·exact⟨u,k b u hbe q⟩
end
def trk(h:Heap)(H:Hp):List Addr:=(List.range h.objs.size).filter λ a=>(H a).isSome
def aaz(h:Heap)(H:Hp):Heap:=W.hideAll h (trk h H)
theorem wm(h:Heap)(H:Hp):(aaz h H).objs.size=h.objs.size:=W.hideAll_size _ _
theorem aaj{h:Heap}{H:Hp}{b:Addr}{o:Obj}(e:h.get? b=some o)(n:H b=none):(aaz h H).get? b=some o:=
 W.hideAll_get _ e λ hm=>by have q:(H b).isSome=true:=(List.mem_filter.mp hm).2;rw[n] at q;simp at q
theorem adg{h:Heap}{H:Hp}{b:Addr}{o:Obj}(e:(aaz h H).get? b=some o):h.get? b=some o/\H b=none:=by
 have e':h.get? b=some o:=W.of_hideAll (trk h H) e;refine⟨e',?_⟩;cases q:H b with
 | none=>rfl
 | some x =>
  have hm:b∈trk h H:=List.mem_filter.mpr ⟨List.mem_range.mpr (Heap.lt_size e'),by simp[q]⟩;have z:(aaz h H).get? b=none:=W.hideAll_none (trk h H) hm;rw[z] at e;cases e
def BM(mg:Str->Option Value)(h:Heap):Prop:=(∃ bm o,mg "__builtins__" = some (.ref bm)/\bm≠builtinsNs/\h.get? bm=some o/\o.cls=.type "module" /\ o.dict=some builtinsNs/\o.data=.plain)/\∃ mm,h.Ns sysModules mm
structure Mod(K:FG)(mg:Str->Option Value)(base:Heap):Prop where
 kin:K.In base
 glob:base.Ns mainGlobals mg
 blt:∃ mb,base.Ns builtinsNs mb/\∀ x:Str,x ≠ "__name__" -> mb x=bootBuiltins x
 nolimit:base.NoLimit
 bm:BM mg base
structure Cx where
 prog:Program
 w:World
 K:FG
 mg:Str->Option Value
 base:Heap
 A:Around
 N:List Str
 s₀:Shared
 H₀:Hp
 env:Env
 outer:List Env
 stack:List Env
 ex:List Addr
 fn:Str->Bool
 calm:Bool
 pn:PN
 xe:VP
def frs(l:List Env):List Addr:=l.filterMap (·.frame)
abbrev Cx.fs(X:Cx):List Addr:=frs X.outer
def Vis(sc:Scope)(x:Str):Prop:=sc.names.lookup x=some .local\/sc.names.lookup x=some .cell\/sc.names.lookup x=some .free
def Loc(sc:Scope)(x:Str):Prop:=sc.names.lookup x=some .local\/sc.names.lookup x=some .cell
def Look(env:Env)(h:Heap)(m:Str->Option Value)(x:Str)(u:Value):Prop:=
 (env.kindOf x=some .local/\m x=some u)\/((env.kindOf x=some .cell\/env.kindOf x=some .free)/\∃ c,env.cells.lookup x=some c/\h.IsCell c (some u))
structure Cx.Ok(X:Cx):Prop where
 mod:Mod X.K X.mg X.base
 kind:X.env.scope.kind=.function
 glob:X.env.globals=mainGlobals
 blt:X.env.builtins=builtinsNs
 above:X.s₀.heap.objs.size<=X.env.locals
 inj:∀ x y c,X.env.cells.lookup x=some c->X.env.cells.lookup y=some c->x=y
 has:∀ x,(X.env.kindOf x=some .cell\/X.env.kindOf x=some .free)->∃ c,X.env.cells.lookup x=some c
 cab:∀ x c,X.fn x=true->X.env.cells.lookup x=some c->X.s₀.heap.objs.size<=c
 hd:X.calm=true->X.A.handled=none
 frames:X.A.frames=some X.stack
 stk:X.stack=X.outer\/(X.stack=X.env::X.outer/\X.env.frame=some X.env.locals)
 exf:∀ b∈X.ex,b≠X.env.locals/\∀ x c,X.env.cells.lookup x=some c->c≠b
 bs:∀ b o,X.base.get? b=some o->X.s₀.heap.get? b=some o/\X.H₀ b=none
 bsz:X.base.objs.size<=X.s₀.heap.objs.size
 noex:∀ b o,X.base.get? b=some o->b ∉ X.ex
 exfs:∀ b∈X.ex,b ∉ X.fs
 rK:X.s₀.heap.FunFrames X.base X.outer
 frf:∀ b∈X.fs,X.H₀ b=none
structure Inv(X:Cx)(pins:PN)(σ:List (Option V))(H:Hp)(s:Shared):Prop where
 ok:X.Ok
 os:s.os=X.s₀.os
 bare:AllBare s.gens
 base:Un X.fs X.ex X.H₀ H X.s₀.heap s.heap
 loc:∃ m,s.heap.Ns X.env.locals m/\∀ (i:Nat) (x:Str) (v:V),X.N[i]? =some x->σ[i]? =some (some v)->Vis X.env.scope x->∃ u,RelV v u/\Look X.env s.heap m x u
 cell:∀ x c,X.env.cells.lookup x=some c->∃ v,s.heap.IsCell c v
 free:H X.env.locals=none
 freeC:∀ x c,X.env.cells.lookup x=some c->H c=none
 pin:∀ p∈X.pn++pins,s.heap.get? p.1=some p.2/\H p.1=none/\p.1≠X.env.locals/\p.1 ∉ X.fs/\∀ v,p.2.data ≠ .cell v
 hok:HOk X.prog X.w H s.heap
 len:σ.length=X.N.length
section
variable {X:Cx}{pins:PN}{σ:List (Option V)}{H H':Hp}{s:Shared}{h':Heap}
theorem Cx.Ok.ajj(ok:X.Ok){b:Addr}{o:Obj}(e:X.base.get? b=some o):b ∉ X.fs:=λ hb=>by have:=(ok.rK.mem hb).1;rw[e] at this;cases this
theorem Inv.bs(I:Inv X pins σ H s):∀ b o,X.base.get? b=some o->s.heap.get? b=some o/\H b=none:=λ b o e =>
 ⟨I.base.keep b o (I.ok.bs b o e).1 (I.ok.bs b o e).2 (I.ok.ajj e) (I.ok.noex b o e),I.base.free b o (I.ok.bs b o e).1 (I.ok.bs b o e).2 (I.ok.noex b o e)⟩
theorem Inv.bk(I:Inv X pins σ H s):∀ b o,X.base.get? b=some o->s.heap.get? b=some o:=λ b o e=>(I.bs b o e).1
theorem Inv.mod(I:Inv X pins σ H s):Mod X.K X.mg X.base:=I.ok.mod
theorem Inv.kIn(I:Inv X pins σ H s):X.K.In s.heap:=I.ok.mod.kin.keeps I.bk
theorem Inv.fr(I:Inv X pins σ H s):∃ m,Fr X.base X.env.locals s.heap m:=
 let ⟨m,hn,_⟩:=I.loc
 ⟨m,hn,I.bk,Nat.le_trans I.ok.bsz I.ok.above⟩
theorem Inv.lt(I:Inv X pins σ H s):X.env.locals<s.heap.objs.size:=let ⟨_,hn,_⟩:=I.loc;hn.lt
theorem Inv.sz(I:Inv X pins σ H s):X.s₀.heap.objs.size<=s.heap.objs.size:=Nat.le_trans I.ok.above (Nat.le_of_lt I.lt)
theorem Inv.ahO(I:Inv X pins σ H s){a:Addr}(h:s.heap.objs.size<=a):a ∉ X.fs:=λ hb=>by obtain⟨_,o,ho,_⟩:=I.ok.rK.mem hb;exact absurd (Nat.lt_of_lt_of_le (Heap.lt_size ho) (Nat.le_trans I.sz h)) (Nat.lt_irrefl _)
theorem Inv.cne(I:Inv X pins σ H s):∀ x c,X.env.cells.lookup x=some c->c≠X.env.locals:=λ x c e z=>by obtain⟨v,o,ho,hd⟩:=I.cell x c e;obtain⟨m,⟨o',es,ep,ho',hd',_⟩,_⟩:=I.loc;rw[z,ho'] at ho;cases ho;rw[hd'] at hd;cases hd
theorem Inv.rK(I:Inv X pins σ H s):s.heap.FunFrames X.base X.outer:=by
 have all:∀ (l:List Env),(∀ b∈frs l,b∈X.fs)->X.s₀.heap.FunFrames X.base l->s.heap.FunFrames X.base l:=by
  intro l
  induction l with
  | nil=>intro _ _;trivial
  | cons env r ih =>
   intro hs hl;obtain⟨hk,⟨L,o,hf,hn,ho,hd⟩,hr⟩:=hl;have hL:L∈X.fs:=hs L (by unfold frs;rw[List.filterMap_cons,hf];exact List.mem_cons_self);obtain⟨sl,e⟩:=I.base.slot L o ho (I.ok.frf L hL) hL λ z=>I.ok.exfs L z hL;exact⟨hk,⟨L,_,hf,hn,e,hd⟩,ih (λ b hb=>hs b (by unfold frs;rw[List.filterMap_cons,hf];exact List.mem_cons_of_mem _ hb)) hr⟩
 exact all X.outer (λ _ hb=>hb) I.ok.rK
theorem Inv.stack(I:Inv X pins σ H s):s.heap.FunFrames X.base X.stack:=by
 rcases I.ok.stk with e | ⟨e,hf⟩
 ·rw[e];exact I.rK
 ·rw[e];obtain⟨m,hn,_⟩:=I.loc;refine .cons (by rw[I.ok.kind];decide) hf hn ?_ I.rK;exact Heap.get?_none_of_le (Nat.le_trans I.ok.bsz I.ok.above)
theorem Inv.jO(I:Inv X pins σ H s):∀ b∈frs X.stack,b∈X.env.locals::X.fs:=λ b hb=>by
 rcases I.ok.stk with e | ⟨e,hf⟩
 ·rw[e] at hb;exact List.mem_cons_of_mem _ hb
 ·rw[e] at hb;unfold frs at hb;rw[List.filterMap_cons,hf] at hb;exact hb
theorem Inv.nQ(I:Inv X pins σ H s):∀ b∈frs X.stack,H b=none:=λ b hb=>by
 rcases List.mem_cons.mp (I.jO b hb) with e | hb
 ·rw[e];exact I.free
 ·obtain⟨_,o,ho,_⟩:=I.ok.rK.mem hb;exact I.base.free b o ho (I.ok.frf b hb) λ z=>I.ok.exfs b z hb
theorem Inv.step{g':Array GenState}{t':Nat}{d':Drawn}{ch:List Addr}(I:Inv X pins σ H s)
  (hch:∀ b∈ch,(b∈X.ex\/X.s₀.heap.objs.size<=b)/\b≠X.env.locals/\(∀ x c,X.env.cells.lookup x=some c->c≠b)/\∀ p∈X.pn++pins,p.1≠b)
  (keep:∀ b o,b≠X.env.locals->b ∉ X.fs->b ∉ ch->s.heap.get? b=some o->H b=none->h'.get? b=some o)
  (slot:∀ b o,b≠X.env.locals->b∈X.fs->b ∉ ch->s.heap.get? b=some o->H b=none->∃ sl,h'.get? b=some {o with slots:=sl})(free:∀ b o,b ∉ ch->s.heap.get? b=some o->H b=none->H' b=none)
  (there:∀ b o,b ∉ ch->s.heap.get? b=some o->∃ o',h'.get? b=some o')
  (tups:∀ b xs,H b=some (.tup xs)->H' b=some (.tup xs))(frzs:∀ b o u,H b=some (.frz o u)->H' b=some (.frz o u))(tbls:∀ b ps,H b=some (.tbl ps)->∃ more,H' b=some (.tbl (ps++more)))
  (ns:∀ m,s.heap.Ns X.env.locals m->h'.Ns X.env.locals m)(hok:HOk X.prog X.w H' h')(hg:AllBare g') :
  Inv X pins σ H' {s with heap:=h',gens:=g',drawn:=d',toks:=t'}:=by
 have neL:∀ b o,X.s₀.heap.get? b=some o->b≠X.env.locals:=λ b o e=>Nat.ne_of_lt (Nat.lt_of_lt_of_le (Heap.lt_size e) I.ok.above);have neC:∀ b o,X.s₀.heap.get? b=some o->b ∉ X.ex->b ∉ ch:=λ b o e hx hb=>by
  rcases(hch b hb).1 with z | z
  ·exact hx z
  ·exact absurd (Nat.lt_of_lt_of_le (Heap.lt_size e) z) (Nat.lt_irrefl _)
 have cellK:∀ x c,X.env.cells.lookup x=some c->∀ v,s.heap.IsCell c v->h'.IsCell c v:=λ x c e v hq0=>by
  obtain⟨o,ho,hd⟩:=hq0;have nch:c ∉ ch:=λ z=>(hch c z).2.2.1 x c e rfl
  by_cases hc:c∈X.fs
  ·obtain⟨sl,q⟩:=slot c o (I.cne x c e) hc nch ho (I.freeC x c e);exact⟨_,q,hd⟩
  ·exact⟨o,keep c o (I.cne x c e) hc nch ho (I.freeC x c e),hd⟩
 refine⟨I.ok,I.os,hg,⟨λ b o e n hb hx=>?_,λ b o e n hb hx=>?_,λ b o e n hx=>?_,λ b o e hx=>?_,λ b xs e=>tups b xs (I.base.tups b xs e),λ b o xs e=>frzs b o xs (I.base.frzs b o xs e),λ b ps e=>?_⟩,?_,λ x c e=>?_,?_,λ x c e=>?_,λ p hp=>?_,hok,I.len⟩
 ·exact keep b o (neL b o e) hb (neC b o e hx) (I.base.keep b o e n hb hx) (I.base.free b o e n hx)
 ·obtain⟨sl,e1⟩:=I.base.slot b o e n hb hx;obtain⟨sl',e2⟩:=slot b _ (neL b o e) hb (neC b o e hx) e1 (I.base.free b o e n hx);exact⟨sl',e2⟩
 ·obtain⟨o',e1⟩:=I.base.there b o e hx;exact free b o' (neC b o e hx) e1 (I.base.free b o e n hx)
 ·obtain⟨o',e1⟩:=I.base.there b o e hx;exact there b o' (neC b o e hx) e1
 ·obtain⟨m1,e1⟩:=I.base.tbls b ps e;obtain⟨m2,e2⟩:=tbls b _ e1;exact⟨m1++m2,by rw[e2,Array.append_assoc]⟩
 ·obtain⟨m,hn,hl⟩:=I.loc;refine⟨m,ns m hn,λ i x v e1 e2 e3=>?_⟩;obtain⟨u,r,l⟩:=hl i x v e1 e2 e3;refine⟨u,r,?_⟩;rcases l with l | ⟨k,c,e,z⟩
  ·exact .inl l
  ·exact .inr ⟨k,c,e,cellK x c e _ z⟩
 ·obtain⟨v,z⟩:=I.cell x c e;exact⟨v,cellK x c e v z⟩
 ·obtain⟨m,⟨o,_,_,ho,_⟩,_⟩:=I.loc;exact free _ o (λ z=>(hch _ z).2.1 rfl) ho I.free
 ·obtain⟨v,o,ho,hd⟩:=I.cell x c e;exact free c o (λ z=>(hch c z).2.2.1 x c e rfl) ho (I.freeC x c e)
 ·obtain⟨e,n,ne,nf,d⟩:=I.pin p hp;have nch:p.1 ∉ ch:=λ z=>(hch p.1 z).2.2.2 p hp rfl;exact⟨keep p.1 p.2 ne nf nch e n,free p.1 p.2 nch e n,ne,nf,d⟩
theorem Inv.un{t':Nat}(I:Inv X pins σ H s)(u:Un X.fs [] H H' s.heap h')(hok:HOk X.prog X.w H' h'):Inv X pins σ H' {s with heap:=h',toks:=t'}:=by
 obtain⟨m,⟨o,es,ep,ho,r⟩,_⟩:=id I.loc;obtain⟨sl,hL⟩:=u.any ho I.free (by simp);exact I.step (g':=s.gens) (d':=s.drawn) (ch:=[]) (λ _ z=>nomatch z) (λ b o _ hb _ e n=>u.keep b o e n hb (by simp)) (λ b o _ hb _ e n=>u.slot b o e n hb (by simp)) (λ b o _ e n=>u.free b o e n (by simp)) (λ b o _ e=>u.there b o e (by simp)) u.tups u.frzs u.tbls (λ m' hm=>by obtain⟨o',es',ep',ho',r'⟩:=hm;rw[ho] at ho';cases ho';exact⟨_,es',ep',hL,r'⟩) hok I.bare
theorem Inv.call{g':Array GenState}{t':Nat}{d':Drawn}{ch:List Addr}(I:Inv X pins σ H s)(u:Un (frs X.stack) ch H H' s.heap h')(hok:HOk X.prog X.w H' h')(hg:AllBare g')
  (hch:∀ b∈ch,(b∈X.ex\/X.s₀.heap.objs.size<=b)/\b≠X.env.locals/\(∀ x c,X.env.cells.lookup x=some c->c≠b)/\∀ p∈X.pn++pins,p.1≠b) :
  Inv X pins σ H' {s with heap:=h',gens:=g',drawn:=d',toks:=t'}:=by
 obtain⟨m,⟨o,es,ep,ho,r⟩,_⟩:=id I.loc;obtain⟨sl,hL⟩:=u.any ho I.free λ z=>(hch _ z).2.1 rfl;exact I.step (ch:=ch) hch (λ b o hL hb hc e n=>u.keep b o e n (λ z=>(List.mem_cons.mp (I.jO b z)).elim hL hb) hc) (λ b o _ _ hc e n=>u.any e n hc) (λ b o hc e n=>u.free b o e n hc) (λ b o hc e=>u.there b o e hc) u.tups u.frzs u.tbls (λ m' hm=>by obtain⟨o',es',ep',ho',r'⟩:=hm;rw[ho] at ho';cases ho';exact⟨_,es',ep',hL,r'⟩) hok hg
theorem Inv.turned{t':Nat}{it:Addr}(I:Inv X pins σ H s)(k:∀ b o,b≠it->s.heap.get? b=some o->h'.get? b=some o)(hn:H it=none)(hL:it≠X.env.locals)
  (h1:it∈X.ex\/X.s₀.heap.objs.size<=it)(h2:∀ x c,X.env.cells.lookup x=some c->c≠it)(h3:∀ p∈X.pn++pins,p.1≠it):Inv X pins σ H {s with heap:=h',toks:=t'}:=by
 have nit:∀ b u,H b=some u->b≠it:=λ b u e z=>by rw[z,hn] at e;cases e
 refine I.step (g':=s.gens) (d':=s.drawn) (ch:=[it]) (λ b hb=>?_) (λ b o _ _ hc e _=>k b o (λ z=>hc (by simp[z])) e) (λ b o _ _ hc e _=>⟨o.slots,k b o (λ z=>hc (by simp[z])) e⟩) (λ _ _ _ _ n=>n)
  (λ b o hc e=>⟨o,k b o (λ z=>hc (by simp[z])) e⟩) (λ _ _ e=>e) (λ _ _ _ e=>e) (λ b ps e=>⟨#[],by rw[e];simp⟩) (λ m hm=>?_) (λ b u e=>?_) I.bare
 ·have e:b=it:=by simpa using hb
  subst e;exact⟨h1,hL,h2,h3⟩
 ·obtain⟨o,es,ep,ho,r⟩:=hm;exact⟨o,es,ep,k _ o (Ne.symm hL) ho,r⟩
 ·refine(I.hok b u e).vA (λ c v hc q=>k c v ?_ q) (λ _ q=>q) λ _ _ q=>q;rcases hc with z | z
  ·rw[z];exact nit b u e
  ·exact nit c _ z
theorem Inv.tok(I:Inv X pins σ H s)(t:Nat):Inv X pins σ H {s with toks:=t}:=I.un (h':=s.heap) (t':=t) Un.refl I.hok
theorem Inv.kept{t':Nat}(I:Inv X pins σ H s)(k:∀ b u,s.heap.get? b=some u->h'.get? b=some u):Inv X pins σ H {s with heap:=h',toks:=t'}:=I.un (Un.kept k) (I.hok.kept k)
theorem Inv.laid{a:Addr}{o:HO}{t':Nat}(I:Inv X pins σ H s)(k:∀ b u,s.heap.get? b=some u->h'.get? b=some u)(hp:s.heap.objs.size<=a)(new:cR X.prog X.w (upd H a o) h' a o) :
  Inv X pins σ (upd H a o) {s with heap:=h',toks:=t'}:=I.un (Un.laid k hp (I.hok.fresh hp)) (I.hok.laid k hp new)
theorem Inv.write{x e:Addr}{o:HO}{t':Nat}(I:Inv X pins σ H s)(mu:Mut (H x))(he:e=x\/H e=some (.own x))(k:∀ b u,b≠e->s.heap.get? b=some u->h'.get? b=some u)(heo:∃ u,h'.get? e=some u)
  (new:cR X.prog X.w (upd H x o) h' x o):Inv X pins σ (upd H x o) {s with heap:=h',toks:=t'}:=I.un (Un.write mu he k heo) (I.hok.write mu he k heo new)
theorem Inv.gq{pins':PN}(I:Inv X pins σ H s)(h:∀ p∈pins',s.heap.get? p.1=some p.2/\H p.1=none/\p.1≠X.env.locals/\p.1 ∉ X.fs/\∀ v,p.2.data ≠ .cell v):Inv X pins' σ H s:=
 ⟨I.ok,I.os,I.bare,I.base,I.loc,I.cell,I.free,I.freeC,λ p hp=>(List.mem_append.mp hp).elim (λ z=>I.pin p (List.mem_append_left _ z)) (h p),I.hok,I.len⟩
theorem uD{N:List Str}(hN:N.Nodup){i j:Nat}{x:Str}(a:N[i]? =some x)(b:N[j]? =some x):i=j:=by obtain⟨h1,e1⟩:=List.getElem?_eq_some_iff.mp a;obtain⟨h2,e2⟩:=List.getElem?_eq_some_iff.mp b;exact(List.getElem_inj hN).mp (e1.trans e2.symm)
theorem yj{M:Model}{A:Around}{E:VP}{i:Nat}{x:Str}{v:V}{u:Value}{Q:Unit->Shared->Prop}(I:Inv X pins σ H s)(hN:X.N.Nodup)(hi:X.N[i]? =some x)(hx:Loc X.env.scope x)(r:RelV v u)
  (h:∀ s',Inv X pins (σ.set i (some v)) H s'->(∃ a,Heap.SameBut a s.heap s'.heap/\(a=X.env.locals\/X.env.cells.lookup x=some a))->Q () s')(hf:X.fn x=true\/X.env.scope.names.lookup x=some .local:=by first | exact .inl rfl | exact .inr rfl | assumption):wpAny M A (storeName X.env x u) Q E s:=by
 obtain⟨m,hn,hl⟩:=id I.loc;have hcls:(X.env.scope.kind==.class || (X.env.scope.kind==.module&&X.env.locals != X.env.globals))=false:=by rw[I.ok.kind];rfl
 have hiσ:i<σ.length:=by rw[I.len];exact(List.getElem?_eq_some_iff.mp hi).1
 have cne:=I.cne;have tracked:∀ {a:Addr} {h':Heap},(∃ o,s.heap.get? a=some o/\H a=none)->Heap.SameBut a s.heap h'->HOk X.prog X.w H h':=λ {a h'} ha hs b ob e=>by
  obtain⟨_,_,hfree⟩:=ha;refine(I.hok b ob e).vA (λ c w' hc q=>(hs.2 c ?_).trans q) (λ _ q=>q) λ _ _ q=>q;rintro rfl;rcases hc with rfl | hc
  ·rw[hfree] at e;cases e
  ·rw[hfree] at hc;cases hc
 rcases hx with hk | hk
 ·refine wpAny_storeName_local hk hn (λ h' hn' hs=>?_) hcls;obtain⟨oL,_,_,hoL,_⟩:=id hn;refine h _ ⟨I.ok,I.os,I.bare,⟨λ b o e n hb hx=>?_,λ b o e n hb hx=>?_,I.base.free,λ b o e hx=>?_,I.base.tups,I.base.frzs,I.base.tbls⟩,⟨_,hn',λ j y v' e1 e2 e3=>?_⟩,λ y c e=>?_,I.free,I.freeC,λ p hp=>?_,tracked ⟨oL,hoL,I.free⟩ hs,by simpa using I.len⟩ ⟨_,hs,.inl rfl⟩
  ·exact(hs.2 b (Nat.ne_of_lt (Nat.lt_of_lt_of_le (Heap.lt_size e) I.ok.above))).trans (I.base.keep b o e n hb hx)
  ·obtain⟨sl,e1⟩:=I.base.slot b o e n hb hx;exact⟨sl,(hs.2 b (Nat.ne_of_lt (Nat.lt_of_lt_of_le (Heap.lt_size e) I.ok.above))).trans e1⟩
  ·obtain⟨o',e1⟩:=I.base.there b o e hx;exact⟨o',(hs.2 b (Nat.ne_of_lt (Nat.lt_of_lt_of_le (Heap.lt_size e) I.ok.above))).trans e1⟩
  ·by_cases hj:j=i
   ·subst hj;rw[hi] at e1;cases e1;rw[List.getElem?_set_self hiσ] at e2;cases e2;exact⟨u,r,.inl ⟨hk,by simp⟩⟩
   ·rw[List.getElem?_set_ne (Ne.symm hj)] at e2;obtain⟨u',r',q⟩:=hl j y v' e1 e2 e3;refine⟨u',r',?_⟩;rcases q with ⟨k,e⟩ | ⟨k,c,e,z⟩
    ·refine .inl ⟨k,?_⟩;have:y≠x:=λ e=>hj (uD hN e1 (e ▸ hi));simp[this,e]
    ·exact .inr ⟨k,c,e,z.sameBut hs (cne y c e)⟩
  ·obtain⟨w',z⟩:=I.cell y c e;exact⟨w',z.sameBut hs (cne y c e)⟩
  ·obtain⟨e,n,ne,nf,d⟩:=I.pin p hp;exact⟨(hs.2 p.1 ne).trans e,n,ne,nf,d⟩
 ·have hfn:X.fn x=true:=by
   rcases hf with z | z
   ·exact z
   ·rw[z] at hk;cases hk
  obtain⟨c,hc⟩:=I.ok.has x (.inl hk);obtain⟨w',z⟩:=I.cell x c hc;refine wpAny_storeName_cell I.ok.kind hk hc z (λ h' hc' hs=>?_);obtain⟨oc,hoc,hocd⟩:=id z;refine h {s with heap:=h'} ⟨I.ok,I.os,I.bare,⟨λ b o e n hb hx=>?_,λ b o e n hb hx=>?_,I.base.free,λ b o e hx=>?_,I.base.tups,I.base.frzs,I.base.tbls⟩,⟨m,hn.sameBut hs (Ne.symm (cne x c hc)),λ j y v' e1 e2 e3=>?_⟩,λ y c' e=>?_,I.free,I.freeC,λ p hp=>?_,tracked ⟨oc,hoc,I.freeC x c hc⟩ hs,by simpa using I.len⟩ ⟨c,hs,.inr hc⟩
  ·exact(hs.2 b (Nat.ne_of_lt (Nat.lt_of_lt_of_le (Heap.lt_size e) (I.ok.cab x c hfn hc)))).trans (I.base.keep b o e n hb hx)
  ·obtain⟨sl,e1⟩:=I.base.slot b o e n hb hx;exact⟨sl,(hs.2 b (Nat.ne_of_lt (Nat.lt_of_lt_of_le (Heap.lt_size e) (I.ok.cab x c hfn hc)))).trans e1⟩
  ·obtain⟨o',e1⟩:=I.base.there b o e hx;exact⟨o',(hs.2 b (Nat.ne_of_lt (Nat.lt_of_lt_of_le (Heap.lt_size e) (I.ok.cab x c hfn hc)))).trans e1⟩
  ·by_cases hj:j=i
   ·subst hj;rw[hi] at e1;cases e1;rw[List.getElem?_set_self hiσ] at e2;cases e2;exact⟨u,r,.inr ⟨.inl hk,c,hc,hc'⟩⟩
   ·rw[List.getElem?_set_ne (Ne.symm hj)] at e2;obtain⟨u',r',q⟩:=hl j y v' e1 e2 e3;refine⟨u',r',?_⟩;rcases q with q | ⟨k,c',e,z'⟩
    ·exact .inl q
    ·refine .inr ⟨k,c',e,z'.sameBut hs ?_⟩;rintro rfl;exact hj (uD hN e1 (I.ok.inj _ _ _ e hc ▸ hi))
  ·by_cases hcc:c'=c
   ·subst hcc;exact⟨_,hc'⟩
   ·obtain⟨w2,z2⟩:=I.cell y c' e;exact⟨w2,z2.sameBut hs hcc⟩
  ·obtain⟨e,n,ne,nf,d⟩:=I.pin p hp;refine⟨(hs.2 p.1 ?_).trans e,n,ne,nf,d⟩;intro q;rw[q,hoc] at e;have q':oc=p.2:=Option.some.inj e;exact d w' (by rw[<- q'];exact hocd)
theorem iE{M:Model}{A:Around}{E:VP}{i:Nat}{x:Str}{v:V}{u:Value}{Q:Unit->Shared->Prop}(I:Inv X pins σ H s)(hN:X.N.Nodup)(hi:X.N[i]? =some x)(hx:Loc X.env.scope x)(r:RelV v u)
  (h:∀ s',Inv X pins (σ.set i (some v)) H s'->Q () s')(hf:X.fn x=true\/X.env.scope.names.lookup x=some .local:=by first | exact .inl rfl | exact .inr rfl | assumption):wpAny M A (storeName X.env x u) Q E s:=
 yj I hN hi hx r (λ s' I' _=>h s' I') hf
theorem Inv.zH{s':Shared}{ch:List Addr}(I:Inv X pins σ H s)(ho:s'.os=s.os)(u:Un (frs X.stack) ch H H' s.heap s'.heap)(hok:HOk X.prog X.w H' s'.heap)(hg:AllBare s'.gens)
  (hch:∀ b∈ch,(b∈X.ex\/X.s₀.heap.objs.size<=b)/\b≠X.env.locals/\(∀ x c,X.env.cells.lookup x=some c->c≠b)/\∀ p∈X.pn++pins,p.1≠b):Inv X pins σ H' s':=by
 obtain⟨h',g',d',t',o'⟩:=s';have e:o'=s.os:=ho;subst e;exact I.call (g':=g') (t':=t') (d':=d') u hok hg hch
end
abbrev XK:=Value->Option Addr->Hp->Prop
abbrev St:=List (Option V)
abbrev VK:=V->Hp->Prop
abbrev TE:=St->Hp->VK->Prop
abbrev TT:=St->Hp->(Bool->Hp->Prop)->Prop
abbrev TA:=St->Hp->(List V->Hp->Prop)->Prop
structure Ends where
 nx:St->Hp->Prop
 rt:VK
 bk:St->Hp->Prop:=λ _ _=>False
 ct:St->Hp->Prop:=λ _ _=>False
abbrev TS:=Ends->St->Hp->Prop
def EP(X:Cx)(pins:PN)(σ:St)(Q:VK)(u:Value)(s':Shared):Prop:=∃ v H',Inv X pins σ H' s'/\RelV v u/\Q v H'
def TP(X:Cx)(pins:PN)(σ:St)(Q:Bool->Hp->Prop)(b:Bool)(s':Shared):Prop:=∃ H',Inv X pins σ H' s'/\Q b H'
def AP(X:Cx)(pins:PN)(σ:St)(Q:List V->Hp->Prop)(us:List Value)(s':Shared):Prop:=∃ vs H',Inv X pins σ H' s'/\Vals vs us/\Q vs H'
def SP(X:Cx)(pins:PN)(D:Ends)(f:Flow)(s':Shared):Prop:=
 match f with
 | .next=>∃ σ' H',Inv X pins σ' H' s'/\D.nx σ' H'
 | .brk=>∃ σ' H',Inv X pins σ' H' s'/\D.bk σ' H'
 | .cont=>∃ σ' H',Inv X pins σ' H' s'/\D.ct σ' H'
 | .ret u=>∃ v σ' H',Inv X pins σ' H' s'/\RelV v u/\D.rt v H'
def PE(X:Cx)(e:Expr)(t:TE):Prop:=
 ∀ (pins:PN) (s:Shared) (σ:St) (H:Hp) (Q:VK),Inv X pins σ H s->t σ H Q->wpAny (model X.prog X.w) X.A (eval e X.env) (EP X pins σ Q) X.xe s
def PT(X:Cx)(e:Expr)(t:TT):Prop:=
 ∀ (pins:PN) (s:Shared) (σ:St) (H:Hp) (Q:Bool->Hp->Prop),Inv X pins σ H s->t σ H Q->wpAny (model X.prog X.w) X.A (isTrue e X.env (eval e X.env)) (TP X pins σ Q) X.xe s
def PW(X:Cx)(e:Expr)(t:TT):Prop:=
 ∀ (whole:Sem Value) (pins:PN) (s:Shared) (σ:St) (H:Hp) (Q:Bool->Hp->Prop),Inv X pins σ H s->t σ H Q->wpAny (model X.prog X.w) X.A (isTrue e X.env whole) (TP X pins σ Q) X.xe s
theorem PW.pt{X:Cx}{e:Expr}{t:TT}(h:PW X e t):PT X e t:=h _
def PA(X:Cx)(es:List Expr)(t:TA):Prop:=
 ∀ (pos:Pos) (pins:PN) (s:Shared) (σ:St) (H:Hp) (Q:List V->Hp->Prop),Inv X pins σ H s->t σ H Q->wpAny (model X.prog X.w) X.A (spliced (backTo pos (starEach es X.env))) (AP X pins σ Q) X.xe s
def PS(X:Cx)(st:Stmt)(t:TS):Prop:=
 ∀ (pins:PN) (s:Shared) (σ:St) (H:Hp) (D:Ends),Inv X pins σ H s->t D σ H->wpAny (model X.prog X.w) X.A (exec st X.env) (SP X pins D) X.xe s
def PSs(X:Cx)(st:List Stmt)(t:TS):Prop:=
 ∀ (pins:PN) (s:Shared) (σ:St) (H:Hp) (D:Ends),Inv X pins σ H s->t D σ H->wpAny (model X.prog X.w) X.A (execs st X.env) (SP X pins D) X.xe s
theorem thn{α:Type}{t:Sem α}{Q Q':α->Shared->Prop}{M:Model}{A:Around}{E:VP}{s:Shared}(h:wpAny M A t Q E s)(hQ:∀ a s,Q a s->Q' a s):wpAny M A t Q' E s:=wpAny_mono h hQ λ _ _ x=>x
section
variable {X:Cx}
def ai3(i:Nat):TE:=λ σ H Q=>∃ v,σ[i]? =some (some v)/\Q v H
def tC(v:V):TE:=λ _ H Q=>Q v H
theorem agV{i:Nat}{x:Str}{pos:Pos}(hN:X.N[i]? =some x)(hv:Vis X.env.scope x)(hd:ND x:=by decide)(hcd:(x==("__classdict__" : Str))=false:=by decide):PE X (.Name x pos) (ai3 i):=by
 intro pins s σ H Q I h;obtain⟨v,e,h⟩:=h;obtain⟨m,hn,hl⟩:=I.loc;obtain⟨u,r,l⟩:=hl i x v hN e hv;have fin:EP X pins σ Q u s:=⟨v,H,I,r,h⟩;rcases l with ⟨hk,hm⟩ | ⟨hk,c,hc,hcell⟩
 ·exact wpAny_Name (wpAny_loadName_local I.ok.kind hk hn hm fin) hd
 ·rcases hk with hk | hk
  ·exact wpAny_Name (wpAny_loadName_cell I.ok.kind hk hc hcell fin) hd
  ·exact wpAny_Name (wpAny_loadName_free I.ok.kind hk hc hcell fin hcd) hd
theorem afT{i j pos}:PE X (.Constant (.int i) j pos) (tC (.int i)):=λ _ _ _ H _ I h=>wpAny_Constant_int ⟨.int i,H,I.tok _,⟨_,rfl⟩,h⟩
theorem aht{b j pos}:PE X (.Constant (.bool b) j pos) (tC (.bl b)):=λ _ _ _ H _ I h=>Constant_bool ⟨.bl b,H,I,rfl,h⟩
theorem agR{j pos}:PE X (.Constant .none j pos) (tC .non):=λ _ _ _ H _ I h=>Constant_none ⟨.non,H,I,rfl,h⟩
theorem aeH{x j pos}:PE X (.Constant (.str x) j pos) (tC (.str x)):=λ _ _ _ H _ I h=>Calls.Constant_str ⟨.str x,H,I.tok _,⟨_,rfl⟩,h⟩
def Gl(X:Cx)(x:Str):Prop:=X.env.kindOf x=some .globalImplicit
theorem jH{E:VP}{pins:PN}{s:Shared}{σ:St}{H:Hp}{x:Str}{u:Value}{pos:Pos}{Q:VP}(I:Inv X pins σ H s)(hg:Gl X x)(hm:X.mg x=some u)(h:Q u s)
  (hd:ND x:=by decide):wpAny (model X.prog X.w) X.A (eval (.Name x pos) X.env) Q E s:=
 Calls.Name_function_global I.ok.kind hg (Calls.loadGlobal_global (by rw[I.ok.glob];exact I.mod.glob.keeps I.bk) hm h) hd
theorem m8{E:VP}{pins:PN}{s:Shared}{σ:St}{H:Hp}{x:Str}{u:Value}{pos:Pos}{Q:VP}(I:Inv X pins σ H s)(hg:Gl X x)(hm:X.mg x=none)(hv:bootBuiltins x=some u)(h:Q u s)
  (hn:x ≠ "__name__":= by decide)(hd:ND x:=by decide):wpAny (model X.prog X.w) X.A (eval (.Name x pos) X.env) Q E s:=by
 obtain⟨mb,h1,h2⟩:=I.mod.blt;exact Calls.Name_function_global I.ok.kind hg (Calls.loadGlobal_builtin (by rw[I.ok.glob];exact I.mod.glob.keeps I.bk) hm (by rw[I.ok.blt];exact h1.keeps I.bk) ((h2 x hn).trans hv) h) hd
theorem fM{x:Str}{v:V}{u:Value}{pos:Pos}(hg:Gl X x)(hm:X.mg x=some u)(r:RelV v u)(hd:ND x:=by decide):PE X (.Name x pos) (tC v):=
 λ _ _ _ H _ I h=>jH I hg hm ⟨v,H,I,r,h⟩ hd
theorem xm{x:Str}{v:V}{u:Value}{pos:Pos}(hg:Gl X x)(hm:X.mg x=none)(hv:bootBuiltins x=some u)(r:RelV v u)(hn:x ≠ "__name__":= by decide)(hd:ND x:=by decide):PE X (.Name x pos) (tC v):=
 λ _ _ _ H _ I h=>m8 I hg hm hv ⟨v,H,I,r,h⟩ hn hd
variable {a b:Expr}{ta tb:TE}{pos:Pos}
def PC(X:Cx)(op:CmpOp)(a b:Expr)(t:TE):Prop:=
 ∀ (pins:PN) (s:Shared) (σ:St) (H:Hp) (Q:VK),Inv X pins σ H s->t σ H Q ->
  wpAny (model X.prog X.w) X.A (eval a X.env) (λ v s₁=>wpAny (model X.prog X.w) X.A (eval b X.env) (λ u s₂=>wpAny (model X.prog X.w) X.A (compareOp op v u) (EP X pins σ Q) X.xe s₂) X.xe s₁) X.xe s
theorem jg(b:Expr){op:CmpOp}(h:op ≠ .In)(h2:op ≠ .NotIn):behindInMarks op b=false:=by
 have e1:(op==CmpOp.In)=false:=by cases op<;>first | rfl | exact absurd rfl h
 have e2:(op==CmpOp.NotIn)=false:=by cases op<;>first | rfl | exact absurd rfl h2
 cases b<;>simp[behindInMarks,e1,e2]
def tB(t:TE):TT:=λ σ H Q=>t σ H λ x H1=>∃ c,x=.bl c/\Q c H1
theorem afr{op:CmpOp}{t:TE}(h:PC X op a b t)(h1:behindInMarks op b=false:=by first | exact jg _ (by decide) (by decide) | rfl):PT X (.Compare a [op] [b] pos) (tB t):=by intro pins s σ H Q I hw;refine wpAny_isTrue_Compare1 (thn (h pins s σ H _ I hw) λ v s1 h1=>thn h1 λ u s2 h2=>thn h2 λ c s3 ⟨x,H1,I1,r1,q1⟩=>?_) h1;obtain⟨d,rfl,q⟩:=q1;cases r1;exact wpAny_truthy_bool ⟨H1,I1,q⟩
theorem aeX{e:Expr}{t:TE}(h:PE X e t)(he:∀ whole,isTrue e X.env whole=(do let v <- whole;standAt e.pos;holding [v] (truthy v)):=by intro _;rfl):PT X e (tB t):=by intro pins s σ H Q I hw;refine isTrue_plain (thn (h pins s σ H _ I hw) λ v s1 ⟨x,H1,I1,r1,q1⟩=>?_) (he _);obtain⟨d,rfl,q⟩:=q1;cases r1;exact wpAny_truthy_bool ⟨H1,I1,q⟩
variable {tA tB':TT}{rest:List Expr}
def ajc(t u:TT):TT:=λ σ H Q=>t σ H λ c H1=>if c=true then u σ H1 Q else Q false H1
def tOr(t u:TT):TT:=λ σ H Q=>t σ H λ c H1=>if c=true then Q true H1 else u σ H1 Q
def ajG(t:TT):TT:=λ σ H Q=>t σ H λ c H1=>Q (!c) H1
theorem pw_and1(ha:PT X a tA):PW X (.BoolOp .And [a] pos) tA:=by
 intro wh pins s σ H Q I h;refine isTrue_and (thn (ha pins s σ H Q I h) λ c s1 e=>?_);cases c with
 | true=>exact isTrue_and_nil e
 | false=>exact e
theorem pw_or1(ha:PT X a tA):PW X (.BoolOp .Or [a] pos) tA:=by
 intro wh pins s σ H Q I h;refine isTrue_or (thn (ha pins s σ H Q I h) λ c s1 e=>?_);cases c with
 | false=>exact isTrue_or_nil e
 | true=>exact e
theorem pw_and(ha:PT X a tA)(hb:PW X (.BoolOp .And (b::rest) pos) tB'):PW X (.BoolOp .And (a::b::rest) pos) (ajc tA tB'):=by
 intro wh pins s σ H Q I h;refine isTrue_and (thn (ha pins s σ H _ I h) λ c s1 hq1=>?_);obtain⟨H1,I1,q1⟩:=hq1;cases c with
 | true=>exact hb wh pins s1 σ H1 Q I1 q1
 | false=>exact⟨H1,I1,q1⟩
theorem pw_or(ha:PT X a tA)(hb:PW X (.BoolOp .Or (b::rest) pos) tB'):PW X (.BoolOp .Or (a::b::rest) pos) (tOr tA tB'):=by
 intro wh pins s σ H Q I h;refine isTrue_or (thn (ha pins s σ H _ I h) λ c s1 hq2=>?_);obtain⟨H1,I1,q1⟩:=hq2;cases c with
 | true=>exact⟨H1,I1,q1⟩
 | false=>exact hb wh pins s1 σ H1 Q I1 q1
theorem agS(ha:PT X a tA):PT X (.UnaryOp .Not a pos) (ajG tA):=by intro pins s σ H Q I h;exact isTrue_not (ha pins s σ H (λ c H1=>Q (!c) H1) I h)
def ahL(ta tb:TE):TE:=λ σ H Q=>ta σ H λ x H1=>∃ c,x=.bl c/\if c=true then tb σ H1 Q else Q (.bl false) H1
def ajA(ta tb:TE):TE:=λ σ H Q=>ta σ H λ x H1=>∃ c,x=.bl c/\if c=true then Q (.bl true) H1 else tb σ H1 Q
def aio(ta:TE):TE:=λ σ H Q=>ta σ H λ x H1=>∃ c,x=.bl c/\Q (.bl (!c)) H1
theorem agg{op}{t:TE}(h:PE X a t):PE X (.BoolOp op [a] pos) t:=λ pins s σ H Q I hw=>BoolOp_one (h pins s σ H Q I hw)
theorem aeJ(ha:PE X a ta)(hb:PE X (.BoolOp .And (b::rest) pos) tb):PE X (.BoolOp .And (a::b::rest) pos) (ahL ta tb):=by
 intro pins s σ H Q I h;refine BoolOp_and (thn (ha pins s σ H _ I h) λ v s1 hq3=>?_);obtain⟨x,H1,I1,r1,q1⟩:=hq3;obtain⟨c,rfl,q1⟩:=q1;cases r1;refine wpAny_truthy_bool ?_;cases c with
 | true=>exact hb pins s1 σ H1 Q I1 q1
 | false=>exact⟨.bl false,H1,I1,rfl,q1⟩
theorem aho(ha:PE X a ta)(hb:PE X (.BoolOp .Or (b::rest) pos) tb):PE X (.BoolOp .Or (a::b::rest) pos) (ajA ta tb):=by
 intro pins s σ H Q I h;refine BoolOp_or (thn (ha pins s σ H _ I h) λ v s1 hq4=>?_);obtain⟨x,H1,I1,r1,q1⟩:=hq4;obtain⟨c,rfl,q1⟩:=q1;cases r1;refine wpAny_truthy_bool ?_;cases c with
 | false=>exact hb pins s1 σ H1 Q I1 q1
 | true=>exact⟨.bl true,H1,I1,rfl,q1⟩
theorem ago(ha:PE X a ta):PE X (.UnaryOp .Not a pos) (aio ta):=by intro pins s σ H Q I h;refine UnaryOp_ (thn (ha pins s σ H _ I h) λ v s1 hq5=>?_);obtain⟨x,H1,I1,r1,q1⟩:=hq5;obtain⟨c,rfl,q1⟩:=q1;cases r1;exact not_of (wpAny_truthy_bool ⟨.bl (!c),H1,I1,rfl,q1⟩)
def tIf(t:TT)(ta tb:TE):TE:=λ σ H Q=>t σ H λ c H1=>if c=true then ta σ H1 Q else tb σ H1 Q
theorem zF{c:Expr}(hc:PT X c tA)(ha:PE X a ta)(hb:PE X b tb):PE X (.IfExp c a b pos) (tIf tA ta tb):=by
 intro pins s σ H Q I h;refine wpAny_IfExp (thn (hc pins s σ H _ I h) λ d s1 hq6=>?_);obtain⟨H1,I1,q1⟩:=hq6;cases d with
 | true=>exact ha pins s1 σ H1 Q I1 q1
 | false=>exact hb pins s1 σ H1 Q I1 q1
end
def SqL(K:FG)(H:Hp)(a:Addr)(xs:List V):Prop:=
 Rd H a (.lst xs) \/
  ∃ (o:Obj) (its:Array Value) (n:Nat),K.lookup a=some o/\o.cls=.type "list" /\ o.dict=none/\o.data=.seq its n/\its.size<=sizeLine/\Vals xs its.toList
def SqT(K:FG)(H:Hp)(a:Addr)(xs:List V):Prop:=
 Rd H a (.tup xs) \/
  ∃ (o:Obj) (its:Array Value) (n:Nat),K.lookup a=some o/\o.cls=.type "tuple" /\ o.dict=none/\o.data=.seq its n/\its.size<=sizeLine/\Vals xs its.toList
def ajz:Value->Option V
 | .none=>some .non
 | .bool b=>some (.bl b)
 | .int i _=>some (.int i)
 | .str x _=>some (.str x)
 | .bytes b _=>some (.byt b)
 | .float b _=>some (.flt b)
 | .ref a=>some (.ref a)
 | .type n=>some (.ty n)
 | _=>none
theorem RelV.abs{x:V}{u:Value}(r:RelV x u):ajz u=some x:=by
 cases x with
 | non=>cases r;rfl
 | bl _=>cases r;rfl
 | int _=>obtain⟨t,rfl⟩:=r;rfl
 | str _=>obtain⟨t,rfl⟩:=r;rfl
 | byt _=>obtain⟨t,rfl⟩:=r;rfl
 | flt _=>obtain⟨t,rfl⟩:=r;rfl
 | ref _=>cases r;rfl
 | ty _=>cases r;rfl
theorem RelV.inj{x y:V}{u:Value}(r:RelV x u)(q:RelV y u):x=y:=Option.some.inj (r.abs.symm.trans q.abs)
theorem Vals.inj:∀ {xs ys:List V} {us:List Value},Vals xs us->Vals ys us->xs=ys
 | _,_,_,.nil,.nil=>rfl
 | _,_,_,.cons r t,.cons r' t'=>by rw[r.inj r',Vals.inj t t']
section
variable {X:Cx}{pins:PN}{σ:St}{H:Hp}{s:Shared}{a:Addr}{xs ys:List V}
theorem SqL.of{K:FG}(h:H a=some (.lst xs)):SqL K H a xs:=.inl (.inl h)
theorem Inv.list(I:Inv X pins σ H s)(h:SqL X.K H a xs):∃ its:List Value,Vals xs its/\PlainL s.heap a its.toArray/\xs.length<=sizeLine:=by
 rcases h with h | ⟨o,its,n,hk,hc,hd,hs,hz,r⟩
 ·obtain⟨z,its,n,r,e⟩:=h.ok I.hok;exact⟨its,r,⟨_,n,e,rfl,rfl,rfl⟩,z⟩
 ·refine⟨its.toList,r,⟨o,n,I.kIn a o hk,hc,hd,by simpa using hs⟩,?_⟩;have e:=r.length;simp only[Array.length_toList] at e;omega
theorem Inv.aiL(I:Inv X pins σ H s)(h:SqT X.K H a xs):∃ its:List Value,Vals xs its/\zw s.heap a its.toArray/\xs.length<=sizeLine:=by
 rcases h with h | ⟨o,its,n,hk,hc,hd,hs,hz,r⟩
 ·obtain⟨z,its,r,p⟩:=h.ok I.hok;exact⟨its,r,p,z⟩
 ·refine⟨its.toList,r,⟨o,I.kIn a o hk,hc,hd,n,by simpa using hs⟩,?_⟩;have e:=r.length;simp only[Array.length_toList] at e;omega
theorem Inv.tuple(I:Inv X pins σ H s)(h:SqT X.K H a xs):∃ its:List Value,Vals xs its/\IsTup s.heap a its.toArray/\xs.length<=sizeLine:=by obtain⟨its,r,p,z⟩:=I.aiL h;exact⟨its,r,p.tup,z⟩
theorem Inv.ko(I:Inv X pins σ H s)(h:SqL X.K H a xs)(h':SqL X.K H a ys):xs=ys:=by
 obtain⟨its,r,⟨o,n,e,_,_,d⟩,_⟩:=I.list h;obtain⟨its',r',⟨o',n',e',_,_,d'⟩,_⟩:=I.list h';rw[e] at e';cases e';rw[d] at d'
 injection d' with d1 _
 have:its=its':=by simpa using congrArg Array.toList d1
 subst this;exact r.inj r'
theorem Inv.q9(I:Inv X pins σ H s)(h:SqT X.K H a xs)(h':SqT X.K H a ys):xs=ys:=by
 obtain⟨its,r,⟨o,e,_,n,d⟩,_⟩:=I.tuple h;obtain⟨its',r',⟨o',e',_,n',d'⟩,_⟩:=I.tuple h';rw[e] at e';cases e';rw[d] at d'
 injection d' with d1 _
 have:its=its':=by simpa using congrArg Array.toList d1
 subst this;exact r.inj r'
end
abbrev Cx.zx(X:Cx)(E:VP):Cx:={X with xe:=E}
abbrev Cx.nox(X:Cx):Cx:=X.zx λ _ _=>False
theorem Cx.Ok.zx{X:Cx}(ok:X.Ok)(E:VP):(X.zx E).Ok:=
 ⟨ok.mod,ok.kind,ok.glob,ok.blt,ok.above,ok.inj,ok.has,ok.cab,ok.hd,ok.frames,ok.stk,ok.exf,ok.bs,ok.bsz,ok.noex,ok.exfs,ok.rK,ok.frf⟩
theorem Cx.Ok.jM{X:Cx}{E:VP}(ok:(X.zx E).Ok):X.Ok:=
 ⟨ok.mod,ok.kind,ok.glob,ok.blt,ok.above,ok.inj,ok.has,ok.cab,ok.hd,ok.frames,ok.stk,ok.exf,ok.bs,ok.bsz,ok.noex,ok.exfs,ok.rK,ok.frf⟩
section
variable {X:Cx}{pins:PN}{σ:St}{H:Hp}{s:Shared}{E:VP}
theorem Inv.zx(I:Inv X pins σ H s)(E:VP):Inv (X.zx E) pins σ H s:=⟨I.ok.zx E,I.os,I.bare,I.base,I.loc,I.cell,I.free,I.freeC,I.pin,I.hok,I.len⟩
theorem Inv.jM(I:Inv (X.zx E) pins σ H s):Inv X pins σ H s:=⟨I.ok.jM,I.os,I.bare,I.base,I.loc,I.cell,I.free,I.freeC,I.pin,I.hok,I.len⟩
theorem SP.jM{D:Ends}{f:Flow}{s':Shared}(h:SP (X.zx E) pins D f s'):SP X pins D f s':=by
 cases f with
 | next=>obtain⟨σ',H',I,q⟩:=h;exact⟨σ',H',I.jM,q⟩
 | brk=>obtain⟨σ',H',I,q⟩:=h;exact⟨σ',H',I.jM,q⟩
 | cont=>obtain⟨σ',H',I,q⟩:=h;exact⟨σ',H',I.jM,q⟩
 | ret u=>obtain⟨v,σ',H',I,r,q⟩:=h;exact⟨v,σ',H',I.jM,r,q⟩
theorem PSs.nox{st:List Stmt}{t:TS}(h:PSs X.nox st t):PSs X st t:=λ pins s σ H D I hw =>
 wpAny_mono (h pins s σ H D (I.zx _) hw) (λ _ _ q=>q.jM) λ _ _ z=>False.elim z
end
section
variable {X:Cx}{st:Stmt}{rest:List Stmt}{t u:TS}{e:Expr}{te:TE}{pos:Pos}
def ah7:TS:=λ D σ H=>D.nx σ H
def aji(t u:TS):TS:=λ D σ H=>t {D with nx:=u D} σ H
theorem acx:PSs X [] ah7:=λ _ _ σ H _ I h=>wpAny_execs_nil ⟨σ,H,I,h⟩
theorem aaL(h1:PS X st t)(h2:PSs X rest u):PSs X (st::rest) (aji t u):=by
 intro pins s σ H D I h;refine wpAny_execs_cons (thn (h1 pins s σ H {D with nx:=u D} I h) λ f s1 q=>?_);cases f with
 | next =>
  obtain⟨σ',H',I',q⟩:=q;exact h2 pins s1 σ' H' D I' q
 | ret v=>exact q
 | brk=>exact q
 | cont=>exact q
theorem adu(h1:PS X st t):PSs X [st] t:=by
 intro pins s σ H D I h;refine wpAny_execs_cons (thn (h1 pins s σ H D I h) λ f s1 q=>?_);cases f with
 | next=>exact wpAny_execs_nil q
 | ret v=>exact q
 | brk=>exact q
 | cont=>exact q
theorem Inv.quiet{pins:PN}{σ:St}{H:Hp}{s:Shared}(I:Inv X pins σ H s):interactive X.env=false:=by simp[interactive,I.ok.kind]
def ait(te:TE):TS:=λ D σ H=>te σ H λ _ H1=>D.nx σ H1
theorem acD(he:PE X e te)(hs:swapsWith e none pos.line X.env=pure false:=by rfl):PS X (.Expr e pos) (ait te):=by intro pins s σ H D I h;exact wpAny_Expr_any (thn (he pins s σ H _ I h) λ v s1 ⟨x,H1,I1,r1,q1⟩=>⟨σ,H1,I1,q1⟩) I.quiet hs
def ajD(te:TE):TS:=λ D σ H=>te σ H D.rt
theorem aeN(he:PE X e te):PS X (.Return (some e) pos) (ajD te):=by intro pins s σ H D I h;exact wpAny_Return_some (thn (he pins s σ H _ I h) λ v s1 ⟨x,H1,I1,r1,q1⟩=>⟨x,σ,H1,I1,r1,q1⟩)
def ajy(c:TT)(t u:TS):TS:=λ D σ H=>c σ H λ b H1=>if b=true then t D σ H1 else u D σ H1
theorem aim{c:Expr}{a b:List Stmt}{tc:TT}(hc:PT X c tc)(ha:PSs X a t)(hb:PSs X b u):PS X (.If c a b pos) (ajy tc t u):=by
 intro pins s σ H D I h;refine wpAny_If (thn (hc pins s σ H _ I h) λ d s1 hq7=>?_);obtain⟨H1,I1,q1⟩:=hq7;cases d with
 | true=>exact ha pins s1 σ H1 D I1 q1
 | false=>exact hb pins s1 σ H1 D I1 q1
end
abbrev TG:=V->St->Hp->(St->Hp->Prop)->Prop
abbrev TGs:=List V->St->Hp->(St->Hp->Prop)->Prop
def PG(X:Cx)(target:Expr)(t:TG):Prop:=
 ∀ (pins:PN) (s:Shared) (σ:St) (H:Hp) (v:V) (u:Value) (Q:St->Hp->Prop),Inv X pins σ H s->RelV v u->t v σ H Q ->
  wpAny (model X.prog X.w) X.A (assign target X.env u) (λ _ s'=>∃ σ' H',Inv X pins σ' H' s'/\Q σ' H') X.xe s
def PGs(X:Cx)(ts:List Expr)(t:TGs):Prop:=
 ∀ (pins:PN) (s:Shared) (σ:St) (H:Hp) (vs:List V) (us:List Value) (Q:St->Hp->Prop),Inv X pins σ H s->Vals vs us->t vs σ H Q ->
  wpAny (model X.prog X.w) X.A (assignInOrder ((assignEach ts X.env).map (·.2)) us) (λ _ s'=>∃ σ' H',Inv X pins σ' H' s'/\Q σ' H') X.xe s
abbrev agw:=V->V->V->Hp->(Hp->Prop)->Prop
def aiq(X:Cx)(t:agw):Prop:=
 ∀ (pins:PN) (s:Shared) (σ:St) (H:Hp) (o i v:V) (ov iv u:Value) (Q:Hp->Prop),Inv X pins σ H s->RelV o ov->RelV i iv->RelV v u->t o i v H Q ->
  wpAny (model X.prog X.w) X.A (setItem ov iv u) (λ _ s'=>∃ H',Inv X pins σ H' s'/\Q H') X.xe s
abbrev TIp:=V->V->Hp->VK->Prop
def PIp(X:Cx)(op:Operator)(t:TIp):Prop:=
 ∀ (pins:PN) (s:Shared) (σ:St) (H:Hp) (x y:V) (v u:Value) (Q:VK),Inv X pins σ H s->RelV x v->RelV y u->t x y H Q ->
  wpAny (model X.prog X.w) X.A (inplaceOp op v u) (EP X pins σ Q) X.xe s
section
variable {X:Cx}{pos:Pos}
def aeI(i:Nat):TG:=λ v σ H Q=>Q (σ.set i (some v)) H
theorem acJ{i:Nat}{x:Str}(hN:X.N.Nodup)(hi:X.N[i]? =some x)(hx:Loc X.env.scope x)(hf:X.fn x=true\/X.env.scope.names.lookup x=some .local:=by first | exact .inl rfl | exact .inr rfl | assumption):PG X (.Name x pos) (aeI i):=by intro pins s σ H v u Q I r h;exact wpAny_assign_Name (iE I hN hi hx r (λ s' I'=>⟨_,H,I',h⟩) hf)
def aju:TGs:=λ vs σ H Q=>vs=[]/\Q σ H
def aii(t:TG)(u:TGs):TGs:=λ vs σ H Q=>∃ v r,vs=v::r/\t v σ H λ σ' H'=>u r σ' H' Q
theorem ad6:PGs X [] aju:=by intro pins s σ H vs us Q I r h;obtain⟨e,h⟩:=h;subst e;cases r;exact assignInOrder_nil ⟨σ,H,I,h⟩
theorem aaU{e:Expr}{es:List Expr}{t:TG}{u:TGs}(h1:PG X e t)(h2:PGs X es u)
  (hs:(assignEach (e::es) X.env).map (·.2)=assign e X.env::(assignEach es X.env).map (·.2):=by rfl):PGs X (e::es) (aii t u):=by
 intro pins s σ H vs us Q I r h;obtain⟨v,vr,e1,h⟩:=h;subst e1;cases r with
 | cons r rr =>
  rw[hs];refine assignInOrder_cons (thn (h1 pins s σ H _ _ _ I r h) λ _ s1 hq8=>?_);obtain⟨σ1,H1,I1,q1⟩:=hq8;exact h2 pins s1 σ1 H1 _ _ Q I1 rr q1
def ajw(K:FG)(n:Nat)(t:TGs):TG:=λ v σ H Q=>∃ a xs,v=.ref a/\SqT K H a xs/\xs.length=n/\t xs σ H Q
theorem ae9{es:List Expr}{k:Nat}{t:TGs}{n:Nat}(hc:X.calm=true)(h:PGs X es t)
  (hn:(assignEach es X.env).length=n:=by rfl)(hst:(assignEach es X.env).findIdx? (·.1)=none:=by rfl):PG X (.Tuple es k pos) (ajw X.K n t):=by
 intro pins s σ H v u Q I r hw;obtain⟨a,xs,e1,hq,hl,hw⟩:=hw;subst e1;cases r;obtain⟨its,rv,ht,hz⟩:=I.tuple hq;refine assign_Tuple_tuple (I.ok.hd hc) ht (by simp[hn,<- hl,rv.length]) hst λ h' hx=>?_;have I1:Inv X pins σ H {s with heap:=h'}:=I.kept (t':=s.toks) λ b o e=>hx b o (Nat.ne_of_lt (Heap.lt_size e)) e;exact h pins _ σ H xs _ Q I1 (by simpa using rv) hw
def ajd(to ti:TE)(t:agw):TG:=λ v σ H Q=>to σ H λ o H1=>ti σ H1 λ i H2=>t o i v H2 λ H3=>Q σ H3
theorem agc{o i:Expr}{to ti:TE}{t:agw}(ho:PE X o to)(hi:PE X i ti)(hs:aiq X t)
  (ha:∀ v,assign (.Subscript o i pos) X.env v=(do
   let ov <- holding [v] (eval o X.env)
   let iv <- holding [v,ov] (eval i X.env)
   standAt pos
   holding [v,ov,iv] (setItem ov iv v)
   release [v,ov,iv] []):=by intro _;rfl):PG X (.Subscript o i pos) (ajd to ti t):=by
 intro pins s σ H v u Q I r h;rw[ha];refine wpAny_bind (wpAny_holding (thn (ho pins s σ H _ I h) λ ov s1 hq9=>?_));obtain⟨x,H1,I1,r1,q1⟩:=hq9;refine wpAny_bind (wpAny_holding (thn (hi pins s1 σ H1 _ I1 q1) λ iv s2 hq10=>?_));obtain⟨y,H2,I2,r2,q2⟩:=hq10;refine wpAny_bind (wpAny_standAt (wpAny_bind (wpAny_holding (thn (hs pins s2 σ H2 x y v ov iv u _ I2 r1 r2 r q2) λ _ s3 hq11=>?_))));obtain⟨H3,I3,q3⟩:=hq11;exact wpAny_release ⟨σ,H3,I3,q3⟩
def ahY(te:TE)(g:TG):TS:=λ D σ H=>te σ H λ x H1=>g x σ H1 D.nx
theorem afF{tg e:Expr}{te:TE}{g:TG}(he:PE X e te)(hg:PG X tg g)(hs:swapsWithSole [tg] e pos.line X.env=pure false:=by rfl)(hw:swappedStores [tg] e X.env=pure none:=by rfl)
  (h1:(assignEach [tg] X.env).map (·.2)=[assign tg X.env]:=by rfl):PS X (.Assign [tg] e pos) (ahY te g):=by
 intro pins s σ H D I h;refine wpAny_Assign_stores (thn (he pins s σ H _ I h) λ v s1 ⟨x,H1,I1,r1,q1⟩=>?_) hs hw;rw[h1];exact thn (hg pins s1 σ H1 x v _ I1 r1 q1) λ _ s2 q=>q
theorem agZ{i:Nat}{x:Str}{e:Expr}{te:TE}{pos':Pos}(hN:X.N.Nodup)(hi:X.N[i]? =some x)(hx:Loc X.env.scope x)(he:PE X e te)(hs:swapsWith e (some (.Name x pos')) pos.line X.env=pure false:=by rfl)(hf:X.fn x=true\/X.env.scope.names.lookup x=some .local:=by first | exact .inl rfl | exact .inr rfl | assumption) :
  PS X (.Assign [.Name x pos'] e pos) (ahY te (aeI i)):=by
 intro pins s σ H D I h;refine wpAny_Assign_Name (thn (he pins s σ H _ I h) λ v s1 ⟨y,H1,I1,r1,q1⟩=>?_) hs;exact iE I1 hN hi hx r1 (λ s2 I2=>⟨_,H1,I2,q1⟩) hf
def ajf(i j:Nat)(ta:TA):TS:=λ D σ H=>ta σ H λ vs H1=>∃ v w,vs=[v,w]/\D.nx ((σ.set i (some v)).set j (some w)) H1
theorem afW{i j:Nat}{x y:Str}{a b:Expr}{ta:TA}{px py pt:Pos}{kt k2 pt2}(hc:X.calm=true)(hN:X.N.Nodup)(hi:X.N[i]? =some x)(hj:X.N[j]? =some y)(hij:i≠j)
  (hx:X.env.scope.names.lookup x=some .local)(hy:X.env.scope.names.lookup y=some .local)(ha:PA X [a,b] ta)
  (hw:swappedStores [.Tuple [.Name x px,.Name y py] kt pt] (.Tuple [a,b] k2 pt2) X.env=pure (some [x,y]))
  (hs:swapsWithSole [.Tuple [.Name x px,.Name y py] kt pt] (.Tuple [a,b] k2 pt2) pos.line X.env=pure false:=by rfl) :
  PS X (.Assign [.Tuple [.Name x px,.Name y py] kt pt] (.Tuple [a,b] k2 pt2) pos) (ajf i j ta):=by
 intro pins s σ H D I h;rw[exec_Assign_arm];refine wpAny_bind (wpAny_standAt ?_);rw[hs];refine wpAny_bind (wpAny_pure ?_);rw[if_neg (by decide)];refine wpAny_bind (Tuple_ (thn (ha _ pins s σ H _ I h) λ us s1 hq12=>?_));obtain⟨vs,H1,I1,r1,q1⟩:=hq12;obtain⟨v,w,e1,q1⟩:=q1;subst e1;obtain⟨u1,u2,rfl,rv,rw'⟩:∃ u1 u2,us=[u1,u2]/\RelV v u1/\RelV w u2:=by
  cases r1 with
  | cons p q =>
   cases q with
   | cons p' q' =>
    cases q';exact⟨_,_,rfl,p,p'⟩
 refine wpAny_newObj_type ?_ (by show 2<=sizeLine;decide);have I2:Inv X pins σ H1 {s1 with heap:=s1.heap.push {cls:=.type "tuple",data:=.seq [u1,u2].toArray}}:=I1.kept (t':=s1.toks) λ b o e=>Heap.get?_push_of_some _ e;rw[hw];refine wpAny_bind (wpAny_pure ?_);show wpAny (model X.prog X.w) X.A (do rule "assign.swapped-stores";let items <- unpackItems (.ref s1.heap.objs.size) 2 none;assignInOrder [λ v=>bindName X.env y v,λ v=>bindName X.env x v] items.reverse;pure Flow.next) _ _ _;refine wpAny_bind (wpAny_rule (wpAny_bind (unpackItems_tuple (items:=#[u1,u2]) (I.ok.hd hc) (IsTup.new s1.heap _) λ h' hx'=>?_)));have I3:=I2.kept (h':=h') (t':=s1.toks) λ b o e=>hx' b o (Nat.ne_of_lt (Heap.lt_size e)) e;show wpAny _ _ (assignInOrder [λ v=>bindName X.env y v,λ v=>bindName X.env x v] [u2,u1] >>= λ _=>pure Flow.next) _ _ _;refine wpAny_bind (assignInOrder_cons (wpAny_bindName (iE I3 hN hj (.inl hy) rw' (λ s2 I4=>?_) (.inr hy))));refine assignInOrder_cons (wpAny_bindName (iE I4 hN hi (.inl hx) rv (λ s3 I5=>assignInOrder_nil (wpAny_pure ?_)) (.inr hx)));rw[List.set_comm _ _ (Ne.symm hij)] at I5;exact⟨_,H1,I5,q1⟩
def ahC(to ti te:TE)(mj:V->V->Hp->VK->Prop)(tip:TIp)(tset:agw):TS:=λ D σ H=>to σ H λ o H1=>ti σ H1 λ i H2=>mj o i H2 λ x H3=>te σ H3 λ y H4=>tip x y H4 λ z H5=>tset o i z H5 λ H6=>D.nx σ H6
def aiZ(X:Cx)(t:V->V->Hp->VK->Prop):Prop:=
 ∀ (pins:PN) (s:Shared) (σ:St) (H:Hp) (o i:V) (ov iv:Value) (Q:VK),Inv X pins σ H s->RelV o ov->RelV i iv->t o i H Q ->
  wpAny (model X.prog X.w) X.A (getItem ov iv) (EP X pins σ Q) X.xe s
theorem adY{o i e:Expr}{to ti te:TE}{mj:V->V->Hp->VK->Prop}{tip:TIp}{tset:agw}{op:Operator}{tpos:Pos}(ho:PE X o to)(hi:PE X i ti)(hg:aiZ X mj)(he:PE X e te)(hp:PIp X op tip)(hs:aiq X tset)
  (ha:∀ ov iv new,augStore i ov iv new=(do holding [new,ov,iv] (setItem ov iv new);release [new,ov,iv] [];pure .next):=by intros;rfl):PS X (.AugAssign (.Subscript o i tpos) op e pos) (ahC to ti te mj tip tset):=by
 intro pins s σ H D I h;refine wpAny_AugAssign_SubscriptAny (thn (ho pins s σ H _ I h) λ ov s1 ⟨x1,H1,I1,r1,q1⟩=>?_) ha;refine thn (hi pins s1 σ H1 _ I1 q1) λ iv s2 hq13=>?_;obtain⟨x2,H2,I2,r2,q2⟩:=hq13;refine thn (hg pins s2 σ H2 x1 x2 ov iv _ I2 r1 r2 q2) λ old s3 hq14=>?_;obtain⟨x3,H3,I3,r3,q3⟩:=hq14;refine thn (he pins s3 σ H3 _ I3 q3) λ v s4 hq15=>?_;obtain⟨x4,H4,I4,r4,q4⟩:=hq15;refine thn (hp pins s4 σ H4 x3 x4 old v _ I4 r3 r4 q4) λ new s5 hq16=>?_;obtain⟨x5,H5,I5,r5,q5⟩:=hq16;exact thn (hs pins s5 σ H5 x1 x2 x5 ov iv new _ I5 r1 r2 r5 q5) λ _ s6 ⟨H6,I6,q6⟩=>⟨σ,H6,I6,q6⟩
def ipI(f:Int->Int->Int):TIp:=λ x y H Q=>∃ i j,x=.int i/\y=.int j/\Q (.int (f i j)) H
theorem aeL:PIp X .Add (ipI λ i j=>i+j):=by intro pins s σ H x y v u Q I r1 r2 h;obtain⟨i,j,e1,e2,q⟩:=h;subst e1;subst e2;obtain⟨t,rfl⟩:=r1;obtain⟨t',rfl⟩:=r2;exact iadd_int ⟨.int _,H,I.tok _,⟨_,rfl⟩,q⟩
end
section
variable {X:Cx}{pos:Pos}
end
structure It where
 go:Nat->Hp->Prop
 yld:Nat->Hp->V->Hp->Prop
 stop:Nat->Hp->Prop
def sy(X:Cx)(pins:PN)(H:Hp)(b:Addr):Prop:=
 H b=none/\b≠X.env.locals/\b ∉ X.fs/\(b∈X.ex\/X.s₀.heap.objs.size<=b)/\(∀ x c,X.env.cells.lookup x=some c->c≠b)/\∀ p∈X.pn++pins,p.1≠b
theorem Inv.vX{X:Cx}{pins:PN}{σ:St}{H H':Hp}{s:Shared}{b:Addr}(I:Inv X pins σ H s)(hb:s.heap.objs.size<=b)(hn:H' b=none):sy X pins H' b:=by
 refine⟨hn,Nat.ne_of_gt (Nat.lt_of_lt_of_le I.lt hb),I.ahO hb,.inr (Nat.le_trans I.sz hb),λ x c e z=>?_,λ p hp z=>?_⟩
 ·obtain⟨v,q⟩:=I.cell x c e;exact absurd (Nat.lt_of_lt_of_le q.lt (by rw[z];exact hb)) (Nat.lt_irrefl _)
 ·exact absurd (Nat.lt_of_lt_of_le (Heap.lt_size (I.pin p hp).1) (by rw[z];exact hb)) (Nat.lt_irrefl _)
structure Turn(P:Program)(w:World)(K:FG)(tg:Expr)(J:It)(fp:List Addr)(it:Addr)(tn:Nat->Heap->Prop):Prop where
 mem:it∈fp
 obj:∀ i h,tn i h->∀ b∈fp,∃ o,h.get? b=some o/\∀ v,o.data ≠ .cell v
 keep:∀ i h h',tn i h->(∀ b∈fp,∀ o,h.get? b=some o->h'.get? b=some o)->tn i h'
 item:∀ (X:Cx),X.prog=P->X.w=w->X.K=K->X.calm=true->∀ (i:Nat) (pins:PN) (s:Shared) (σ:St) (H:Hp) (E:VP),Inv X pins σ H s->(∀ b∈fp,sy X pins H b)->tn i s.heap->J.go i H ->
  wpAny (model P w) X.A (pyNext (.ref it)) (λ r s1=>∃ u,r=some u /\
   wpAny (model P w) X.A (letOwnedTupleGo tg (.ref it) u) (λ _ s2=>∃ x H',Inv X pins σ H' s2/\RelV x u/\J.yld i H x H'/\tn (i+1) s2.heap/\∀ b∈fp,H' b=none) E s1) E s
 done:∀ (X:Cx),X.prog=P->X.w=w->X.K=K->X.calm=true->∀ (i:Nat) (pins:PN) (s:Shared) (σ:St) (H:Hp) (E:VP),Inv X pins σ H s->(∀ b∈fp,sy X pins H b)->tn i s.heap->J.stop i H ->
  wpAny (model P w) X.A (pyNext (.ref it)) (λ r s1=>r=none/\Inv X pins σ H s1) E s
 self:∀ (A:Around) (i:Nat) (s:Shared) (Q:VP) (E:VP),tn i s.heap->Q (.ref it) s->wpAny (model P w) A (pyIter (.ref it)) Q E s
abbrev TI:=St->Hp->(It->Hp->Prop)->Prop
def PIE(X:Cx)(pins:PN)(σ:St)(tg:Expr)(R:It->Hp->Prop)(itv:Value)(s2:Shared):Prop:=
 ∃ (it:Addr) (fp:List Addr) (tn:Nat->Heap->Prop) (J:It) (H':Hp),itv=.ref it/\Inv X pins σ H' s2/\Turn X.prog X.w X.K tg J fp it tn/\tn 0 s2.heap/\(∀ b∈fp,sy X pins H' b)/\R J H'
def PI(X:Cx)(tg iter:Expr)(wi:TI):Prop:=
 ∀ (pins:PN) (s:Shared) (σ:St) (H:Hp) (R:It->Hp->Prop),Inv X pins σ H s->wi σ H R ->
  wpAny (model X.prog X.w) X.A (eval iter X.env) (λ v s1=>wpAny (model X.prog X.w) X.A (pyIter v) (PIE X pins σ tg R) X.xe s1) X.xe s
theorem aax{M:Model}{A:Around}{E:VP}{s:Shared}{tg:Expr}{it:Addr}{u:Value}{o:Obj}{n:String}{vs:Array Value}{Q:Unit->Shared->Prop}(ho:s.heap.get? it=some o)(hc:o.cls=.type n)(hd:o.data=.fields vs)
  (hn:["enumerate", "zip", "dict_itemiterator", "dict_reverseitemiterator", "odict_iterator", "itertools.zip_longest", "itertools.pairwise"].contains n=false)(hQ:Q () s):wpAny M A (letOwnedTupleGo tg (.ref it) u) Q E s:=by
 unfold letOwnedTupleGo;cases tg<;>first
  | exact wpAny_pure hQ
  | (cases u<;>first
    | exact wpAny_pure hQ
    | (refine wpAny_bind (wpAny_load ho ?_)
       rw[hc,hd];show wpAny M A (if (["enumerate", "zip", "dict_itemiterator", "dict_reverseitemiterator", "odict_iterator", "itertools.zip_longest", "itertools.pairwise"].contains n&&vs[0]? == some (rawInt _))=true then _ else _) Q E s;rw[if_neg (by intro h;rw[hn,Bool.false_and] at h;cases h)];exact wpAny_pure hQ))
def Itl(K:FG)(a:Addr):It:=
 ⟨λ i H=>∃ xs x,SqL K H a xs/\xs[i]? =some x,λ i H x H'=>H'=H/\∀ xs,SqL K H a xs->xs[i]? =some x,λ i H=>∃ xs,SqL K H a xs/\xs.length<=i⟩
def Itt(K:FG)(a:Addr):It:=
 ⟨λ i H=>∃ xs x,SqT K H a xs/\xs[i]? =some x,λ i H x H'=>H'=H/\∀ xs,SqT K H a xs->xs[i]? =some x,λ i H=>∃ xs,SqT K H a xs/\xs.length<=i⟩
def Itr(lo:Int)(n:Nat):It:=⟨λ i _=>i<n,λ i H x H'=>H'=H/\x=.int (lo+i),λ i _=>n<=i⟩
theorem wI{P:Program}{w:World}{K:FG}{tg:Expr}(a it:Addr):Turn P w K tg (Itl K a) [it] it (λ i h=>h.IsListIter it a i) where
 mem:=by simp
 obj:=λ i h st b hb=>by
  have e:b=it:=by simpa using hb
  subst e;obtain⟨o,e,c,d⟩:=st;exact⟨o,e,λ v z=>by rw[d] at z;cases z⟩
 keep:=λ i h h' st k=>st.at λ o e=>k it (by simp) o e
 item:=by intro X hP hw hK hc i pins s σ H E I hf st hg;subst hP hw hK;obtain⟨xs,x,hq,hx⟩:=hg;obtain⟨its,rv,p,hz⟩:=I.list hq;obtain⟨u,hu,ru⟩:=rv.get hx;obtain⟨f0,f1,f2,f3,f4,f5⟩:=hf it (by simp);refine wpAny_pyNext_list_item st p.isList (x:=u) (by simpa using hu) λ h' st' sb=>?_;have I1:Inv X pins σ H {s with heap:=h'}:=I.turned (t':=s.toks) (λ b o hb e=>(sb.2 b hb).trans e) f0 f1 f3 f4 f5;obtain⟨o,e,c,d⟩:=id st';exact⟨u,rfl,aax (s:={s with heap:=h'}) e c d (by decide) ⟨x,H,I1,ru,⟨rfl,λ ys hy=>by rw[I.ko hy hq];exact hx⟩,st',λ b hb=>(hf b hb).1⟩⟩
 done:=by intro X hP hw hK hc i pins s σ H E I hf st hg;subst hP hw hK;obtain⟨xs,hq,hx⟩:=hg;obtain⟨its,rv,p,hz⟩:=I.list hq;obtain⟨f0,f1,f2,f3,f4,f5⟩:=hf it (by simp);have hl:=rv.length;exact wpAny_pyNext_list_end (I.ok.hd hc) st p.isList (by simp;omega) λ h' eb=>⟨rfl,I.turned (t':=s.toks) (λ b o hb e=>eb b o hb e) f0 f1 f3 f4 f5⟩
 self:=λ _ _ _ _ _ st h=>wpAny_pyIter_listiter st h
theorem vm{P:Program}{w:World}{K:FG}{tg:Expr}(a it:Addr):Turn P w K tg (Itt K a) [it] it (λ i h=>h.IsTupleIter it a i) where
 mem:=by simp
 obj:=λ i h st b hb=>by
  have e:b=it:=by simpa using hb
  subst e;obtain⟨o,e,c,d⟩:=st;exact⟨o,e,λ v z=>by rw[d] at z;cases z⟩
 keep:=λ i h h' st k=>st.at λ o e=>k it (by simp) o e
 item:=by intro X hP hw hK hc i pins s σ H E I hf st hg;subst hP hw hK;obtain⟨xs,x,hq,hx⟩:=hg;obtain⟨its,rv,p,hz⟩:=I.tuple hq;obtain⟨u,hu,ru⟩:=rv.get hx;obtain⟨f0,f1,f2,f3,f4,f5⟩:=hf it (by simp);refine wpAny_pyNext_tuple_item st (show s.heap.IsTuple a its.toArray from p) (x:=u) (by simpa using hu) λ h' st' sb=>?_;have I1:Inv X pins σ H {s with heap:=h'}:=I.turned (t':=s.toks) (λ b o hb e=>(sb.2 b hb).trans e) f0 f1 f3 f4 f5;obtain⟨o,e,c,d⟩:=id st';exact⟨u,rfl,aax (s:={s with heap:=h'}) e c d (by decide) ⟨x,H,I1,ru,⟨rfl,λ ys hy=>by rw[I.q9 hy hq];exact hx⟩,st',λ b hb=>(hf b hb).1⟩⟩
 done:=by intro X hP hw hK hc i pins s σ H E I hf st hg;subst hP hw hK;obtain⟨xs,hq,hx⟩:=hg;obtain⟨its,rv,p,hz⟩:=I.tuple hq;obtain⟨f0,f1,f2,f3,f4,f5⟩:=hf it (by simp);have hl:=rv.length;exact wpAny_pyNext_tuple_end (I.ok.hd hc) st (show s.heap.IsTuple a its.toArray from p) (by simp;omega) λ h' eb=>⟨rfl,I.turned (t':=s.toks) (λ b o hb e=>eb b o hb e) f0 f1 f3 f4 f5⟩
 self:=λ _ _ _ _ _ st h=>wpAny_pyIter_tupleiter st h
theorem vg{P:Program}{w:World}{K:FG}{tg:Expr}(it:Addr)(lo:Int)(n:Nat):Turn P w K tg (Itr lo n) [it] it (λ i h=>IsRangeIter h it (lo+(i:Nat) * 1) ((n:Int)-(i:Nat)) 1) where
 mem:=by simp
 obj:=λ i h st b hb=>by
  have e:b=it:=by simpa using hb
  subst e;exact⟨_,st,λ v z=>by have z':Data.fields _=Data.cell v:=z;cases z'⟩
 keep:=λ i h h' st k=>k it (by simp) _ st
 item:=by intro X hP hw hK hc i pins s σ H E I hf st hg;subst hP hw hK;obtain⟨f0,f1,f2,f3,f4,f5⟩:=hf it (by simp);have W:=Walks.range (prog:=X.prog) (w:=X.w) (I.ok.hd hc) it lo 1 n;refine W.item i s _ _ hg st λ v h' tk hv st' kk=>?_;obtain⟨t,rfl⟩:=hv;have I1:Inv X pins σ H {s with heap:=h',toks:=tk}:=I.turned (λ b o hb e=>kk b o (by simpa using hb) e) f0 f1 f3 f4 f5;refine⟨_,rfl,aax (s:={s with heap:=h',toks:=tk}) (n:= "range_iterator") st' rfl rfl (by decide) ⟨.int (lo+i),H,I1,⟨t,?_⟩,⟨rfl,rfl⟩,st',λ b hb=>(hf b hb).1⟩⟩;rw[Int.mul_one]
 done:=by intro X hP hw hK hc i pins s σ H E I hf st hg;subst hP hw hK;obtain⟨f0,f1,f2,f3,f4,f5⟩:=hf it (by simp);exact wpAny_pyNext_range_end (I.ok.hd hc) st (by have:n<=i:=hg;omega) λ h' eb=>⟨rfl,I.turned (t':=s.toks) (λ b o hb e=>eb b o hb e) f0 f1 f3 f4 f5⟩
 self:=λ _ _ _ _ _ st h=>wpAny_pyIter_rangeiter st h
section
variable {X:Cx}{tg:Expr}
theorem aan{pins:PN}{σ:St}{H:Hp}{s:Shared}{R:It->Hp->Prop}{E:VP}{lo hi:Int}{t u v:Tok}{tk:Nat}(I:Inv X pins σ H s)(h1:-(2 ^ 62)<=lo)(h2:lo<2 ^ 62)(h3:-(2 ^ 62)<=hi)(h4:hi<2 ^ 62)
  (q:R (Itr lo (hi-lo).toNat) H):wpAny (model X.prog X.w) X.A (pyIter (.ref s.heap.objs.size)) (PIE X pins σ tg R) E {s with heap:=s.heap.push {cls:=.type "range",data:=.fields #[.int lo t,.int hi u,.int 1 v]},toks:=tk}:=by
 refine wpAny_pyIter_range (IsRange.new ..) (small_one h1 h2 h3 h4) ?_;have I1:Inv X pins σ H {s with heap:=s.heap.push {cls:=.type "range",data:=.fields #[.int lo t,.int hi u,.int 1 v]},toks:=tk}:=I.kept λ b o e=>Heap.get?_push_of_some _ e;refine⟨(s.heap.push {cls:=.type "range",data:=.fields #[.int lo t,.int hi u,.int 1 v]}).objs.size,[(s.heap.push {cls:=.type "range",data:=.fields #[.int lo t,.int hi u,.int 1 v]}).objs.size],_,_,H,rfl,
  I1.kept (t':=tk) λ b o e=>Heap.get?_push_of_some _ e,vg _ lo (hi-lo).toNat,?_,λ b hb=>?_,q⟩
 ·have e1:lo+((0:Nat):Int) * 1=lo:=by simp
  have e2:(((hi-lo).toNat:Nat):Int)-((0:Nat):Int)=Builtin.Range.rangeSize lo hi 1:=by rw[rangeSize_one];split<;>omega
  show IsRangeIter _ _ (lo+((0:Nat):Int) * 1) ((((hi-lo).toNat:Nat):Int)-((0:Nat):Int)) 1;rw[e1,e2];exact Heap.get?_push_size _ rfl
 ·have e:b=(s.heap.push {cls:=.type "range",data:=.fields #[.int lo t,.int hi u,.int 1 v]}).objs.size:=by simpa using hb
  subst e;exact I1.vX (Nat.le_refl _) (I1.hok.fresh (Nat.le_refl _))
def ahW(ta:TA):TI:=λ σ H R=>ta σ H λ vs H1=>∃ j:Int,vs=[.int j]/\-(2 ^ 62)<=j/\j<2 ^ 62/\R (Itr 0 j.toNat) H1
theorem xG{a:Expr}{ta:TA}{p pos:Pos}(hg:Gl X "range")(hm:X.mg "range" = none)(ha:PA X [a] ta)(hs:starEach [a] X.env=[(false,eval a X.env)]:=by rfl):PI X tg (.Call (.Name "range" p) [a] [] pos) (ahW ta):=by
 intro pins s σ H R I h;refine Call_ (m8 I hg hm boot_range (PyProof.Rows.callWith_type1 (thn (ha pos pins s σ H _ I h) λ us s1 ⟨vs,H1,I1,r1,q1⟩=>?_) hs rfl));obtain⟨j,e,q1,q2,q⟩:=q1;subst e;cases r1 with
 | cons r rr =>
  cases rr;obtain⟨t,rfl⟩:=r;exact call_range_1 (aan I1 (by omega) (by omega) q1 q2 (by simpa using q))
def ajs(wi:TI)(g:TG)(tb:TS):TS:=λ D σ H=>wi σ H λ J H1=>∃ W:Nat->Nat->St->Hp->Prop,(∃ m,W 0 m σ H1)/\∀ i m σ H,W i m σ H ->
 (J.stop i H/\D.nx σ H)\/(J.go i H/\∃ N:St->Hp->Prop,(∀ σ' H',N σ' H'->∃ m',m'<m/\W (i+1) m' σ' H')/\∀ x H',J.yld i H x H'->g x σ H' λ σ2 H2=>tb {D with nx:=N,ct:=N,bk:=D.nx} σ2 H2)
def jQ(fp:List Addr)(h:Heap):PN:=fp.filterMap λ b=>(h.get? b).map λ o=>(b,o)
theorem eB{fp:List Addr}{h:Heap}{b:Addr}{o:Obj}(hb:b∈fp)(e:h.get? b=some o):(b,o)∈jQ fp h:=List.mem_filterMap.mpr ⟨b,hb,by rw[e];rfl⟩
theorem yO{fp:List Addr}{h:Heap}{p:Addr×Obj}(hp:p∈jQ fp h):p.1∈fp/\h.get? p.1=some p.2:=by
 obtain⟨b,hb,e⟩:=List.mem_filterMap.mp hp;cases q:h.get? b with
 | none=>rw[q] at e;cases e
 | some o =>
  rw[q] at e;have e':(b,o)=p:=Option.some.inj e;subst e';exact⟨hb,q⟩
theorem Inv.pinned{pins:PN}{σ:St}{H:Hp}{s:Shared}{fp:List Addr}(I:Inv X pins σ H s)(hf:∀ b∈fp,sy X pins H b)(ho:∀ b∈fp,∃ o,s.heap.get? b=some o/\∀ v,o.data ≠ .cell v):Inv X (pins++jQ fp s.heap) σ H s:=
 I.gq λ p hp=>(List.mem_append.mp hp).elim (λ z=>I.pin p (List.mem_append_right _ z)) λ z=>by obtain⟨hb,e⟩:=yO z;obtain⟨f0,f1,f2,_⟩:=hf p.1 hb;obtain⟨o,e',d⟩:=ho p.1 hb;rw[e] at e';cases e';exact⟨e,f0,f1,f2,d⟩
theorem Inv.oi{pins pl:PN}{σ:St}{H:Hp}{s:Shared}(I:Inv X (pins++pl) σ H s):Inv X pins σ H s:=I.gq λ p hp=>I.pin p (List.mem_append_right _ (List.mem_append_left _ hp))
theorem aeS{iter:Expr}{body:List Stmt}{wi:TI}{g:TG}{tb:TS}{pos:Pos}(hp:PassesOwn (model X.prog X.w) X.A X.env X.xe)(hc:X.calm=true)(hi:PI X tg iter wi)(hg:PG X tg g)(hb:PSs X body tb)
  (hs:∀ x,foldedSetIterable iter X.env x=pure x:=by intro _;rfl):PS X (.For tg iter body [] pos) (ajs wi g tb):=by
 intro pins s σ H D I h;refine wpAny_For (thn (hi pins s σ H _ I h) λ v s1 h1=>thn h1 λ itv s2 h2=>?_) hs;obtain⟨it,fp,tn,J,H2,e,I2,T,st2,f2,W,⟨m0,w0⟩,turn⟩:=h2;subst e;have stat:∀ {H':Hp},(∀ b∈fp,H' b=none)->∀ b∈fp,sy X pins H' b:=λ hn b hb=>⟨hn b hb,(f2 b hb).2⟩;refine codeAny_forLoop_any (λ n s'=>∃ i σ' H',Inv X pins σ' H' s'/\tn i s'.heap/\(∀ b∈fp,H' b=none)/\W i n σ' H') ?_ m0 ⟨0,σ,H2,I2,st2,λ b hb=>(f2 b hb).1,w0⟩;rintro n s3 ⟨i,σ3,H3,I3,st3,fr3,w3⟩;rcases turn i n σ3 H3 w3 with ⟨stop,qn⟩ | ⟨go,N,hN,step⟩
 ·refine wpAny_passesOwn hp (thn (T.done X rfl rfl rfl hc i pins s3 σ3 H3 X.xe I3 (stat fr3) st3 stop) λ r s4 ⟨hr,I4⟩=>?_);subst hr;exact wpAny_execs_nil ⟨σ3,H3,I4,qn⟩
 ·refine wpAny_passesOwn hp (thn (T.item X rfl rfl rfl hc i pins s3 σ3 H3 X.xe I3 (stat fr3) st3 go) λ r s4 ⟨u,hr,h4⟩=>?_);subst hr;refine wpAny_passesOwn hp (thn h4 λ _ s5 hq17=>?_);obtain⟨x,H5,I5,r5,y5,st5,fr5⟩:=hq17;have I5':=I5.pinned (stat fr5) (T.obj _ _ st5);refine wpAny_passesOwn hp (thn (hg _ s5 σ3 H5 x u _ I5' r5 (step x H5 y5)) λ _ s6 hq18=>?_);obtain⟨σ6,H6,I6,q6⟩:=hq18;refine wpAny_passesOwn hp (thn (hb _ s6 σ6 H6 _ I6 q6) λ f s7 q7=>?_);have again:∀ {σ7:St} {H7:Hp},Inv X (pins++jQ fp s5.heap) σ7 H7 s7->N σ7 H7->∃ m,m<n/\∃ i σ' H',Inv X pins σ' H' s7/\tn i s7.heap/\(∀ b∈fp,H' b=none)/\W i m σ' H':=λ {σ7 H7} I7 n7=>by obtain⟨m',hm,w7⟩:=hN σ7 H7 n7;refine⟨m',hm,i+1,σ7,H7,I7.oi,T.keep _ _ _ st5 λ b hb o e=>(I7.pin (b,o) (List.mem_append_right _ (List.mem_append_right _ (eB hb e)))).1,λ b hb=>?_,w7⟩;obtain⟨o,e,d⟩:=T.obj _ _ st5 b hb;exact(I7.pin (b,o) (List.mem_append_right _ (List.mem_append_right _ (eB hb e)))).2.1
  cases f with
  | next=>obtain⟨σ7,H7,I7,n7⟩:=q7;exact again I7 n7
  | cont=>obtain⟨σ7,H7,I7,n7⟩:=q7;exact again I7 n7
  | brk=>obtain⟨σ7,H7,I7,q7⟩:=q7;exact⟨σ7,H7,I7.oi,q7⟩
  | ret v=>obtain⟨x7,σ7,H7,I7,r7,q7⟩:=q7;exact⟨x7,σ7,H7,I7.oi,r7,q7⟩
end
abbrev R2:=V->V->Hp->VK->Prop
def OpR(X:Cx)(f:Value->Value->Sem Value)(r:R2):Prop:=
 ∀ (pins:PN) (s:Shared) (σ:St) (H:Hp) (x y:V) (v u:Value) (Q:VK),Inv X pins σ H s->RelV x v->RelV y u->r x y H Q ->
  wpAny (model X.prog X.w) X.A (f v u) (EP X pins σ Q) X.xe s
def eL(X:Cx)(f:Value)(r:List V->Hp->VK->Prop):Prop:=
 ∀ (pins:PN) (s:Shared) (σ:St) (H:Hp) (xs:List V) (us:List Value) (Q:VK),Inv X pins σ H s->Vals xs us->r xs H Q ->
  wpAny (model X.prog X.w) X.A (call f us) (EP X pins σ Q) X.xe s
def ajr(X:Cx)(r:V->Hp->(Bool->Hp->Prop)->Prop):Prop:=
 ∀ (pins:PN) (s:Shared) (σ:St) (H:Hp) (x:V) (v:Value) (Q:Bool->Hp->Prop),Inv X pins σ H s->RelV x v->r x H Q ->
  wpAny (model X.prog X.w) X.A (truthy v) (TP X pins σ Q) X.xe s
def tOp(r:R2)(ta tb:TE):TE:=λ σ H Q=>ta σ H λ x H1=>tb σ H1 λ y H2=>r x y H2 Q
def rI(C:Int->Int->Prop)(g:Int->Int->V):R2:=λ x y H Q=>∃ i j,x=.int i/\y=.int j/\C i j/\Q (g i j) H
def rI0(g:Int->Int->V):R2:=λ x y H Q=>∃ i j,x=.int i/\y=.int j/\Q (g i j) H
section
variable {X:Cx}{a b c:Expr}{ta tb tc:TE}{pos:Pos}
theorem ahk(ha:PE X a ta)(hb:PE X b tb){pins:PN}{s:Shared}{σ:St}{H:Hp}{R:V->V->Hp->Prop}(I:Inv X pins σ H s)
  (h:ta σ H λ x H1=>tb σ H1 λ y H2=>R x y H2){Q:VP}{f:Value->Value->Sem Value}
  (hf:∀ v u s2 x y H2,Inv X pins σ H2 s2->RelV x v->RelV y u->R x y H2->wpAny (model X.prog X.w) X.A (f v u) Q X.xe s2) :
  wpAny (model X.prog X.w) X.A (eval a X.env) (λ v s₁=>wpAny (model X.prog X.w) X.A (eval b X.env) (λ u s₂=>wpAny (model X.prog X.w) X.A (f v u) Q X.xe s₂) X.xe s₁) X.xe s:=by
 refine thn (ha pins s σ H _ I h) λ v s1 hq19=>?_;obtain⟨x,H1,I1,r1,q1⟩:=hq19;refine thn (hb pins s1 σ H1 _ I1 q1) λ u s2 hq20=>?_;obtain⟨y,H2,I2,r2,q2⟩:=hq20;exact hf v u s2 x y H2 I2 r1 r2 q2
theorem aeP{op:Operator}{r:R2}(ho:OpR X (binaryOp op) r)(ha:PE X a ta)(hb:PE X b tb):PE X (.BinOp a op b pos) (tOp r ta tb):=by intro pins s σ H Q I h;exact wpAny_BinOp (ahk ha hb I h λ v u s2 x y H2 I2 rx ry q=>ho pins s2 σ H2 x y v u Q I2 rx ry q)
theorem opI{f:Value->Value->Sem Value}{C:Int->Int->Prop}{g:Int->Int->Int}
  (rule:∀ (i j:Int) (t u:Tok) (s:Shared) (Q:VP) (E:VP),C i j->Q (.int (g i j) s.toks) {s with toks:=s.toks+1}->wpAny (model X.prog X.w) X.A (f (.int i t) (.int j u)) Q E s) :
  OpR X f (rI C λ i j=>.int (g i j)):=by
 intro pins s σ H x y v u Q I rx ry h;obtain⟨i,j,rfl,rfl,hc,q⟩:=h;obtain⟨t,rfl⟩:=rx;obtain⟨t',rfl⟩:=ry;exact rule i j t t' s _ _ hc ⟨.int (g i j),H,I.tok _,⟨_,rfl⟩,q⟩
theorem aiV{f:Value->Value->Sem Value}{g:Int->Int->Int}
  (rule:∀ (i j:Int) (t u:Tok) (s:Shared) (Q:VP) (E:VP),Q (.int (g i j) s.toks) {s with toks:=s.toks+1}->wpAny (model X.prog X.w) X.A (f (.int i t) (.int j u)) Q E s) :
  OpR X f (rI0 λ i j=>.int (g i j)):=by
 intro pins s σ H x y v u Q I rx ry h;obtain⟨i,j,rfl,rfl,q⟩:=h;obtain⟨t,rfl⟩:=rx;obtain⟨t',rfl⟩:=ry;exact rule i j t t' s _ _ ⟨.int (g i j),H,I.tok _,⟨_,rfl⟩,q⟩
theorem ahe{f:Value->Value->Sem Value}{g:Int->Int->Bool}
  (rule:∀ (i j:Int) (t u:Tok) (s:Shared) (Q:VP) (E:VP),Q (.bool (g i j)) s->wpAny (model X.prog X.w) X.A (f (.int i t) (.int j u)) Q E s) :
  OpR X f (rI0 λ i j=>.bl (g i j)):=by
 intro pins s σ H x y v u Q I rx ry h;obtain⟨i,j,rfl,rfl,q⟩:=h;obtain⟨t,rfl⟩:=rx;obtain⟨t',rfl⟩:=ry;exact rule i j t t' s _ _ ⟨.bl (g i j),H,I,rfl,q⟩
def ahz(i j:Int):Prop:=0<j/\j<1073741824
def ah4(i j:Int):Prop:=0<=j/\j<=1000000/\i.natAbs<2 ^ 64
def afe(i j:Int):Prop:=(-(2 ^ 64)<i/\i<2 ^ 64)\/(-(2 ^ 64)<j/\j<2 ^ 64)
theorem afe.ok{i j:Int}(h:afe i j):IntMulOk i j:=by
 rcases h with ⟨h1,h2⟩ | ⟨h1,h2⟩
 ·exact .of_left (intBits_le_64 h1 h2)
 ·exact .of_right (intBits_le_64 h1 h2)
theorem aeY:OpR X (binaryOp .Add) (rI0 λ i j=>.int (i+j)):=aiV λ _ _ _ _ _ _ _ q=>add_int q
theorem qV:OpR X (binaryOp .Sub) (rI0 λ i j=>.int (i-j)):=aiV λ _ _ _ _ _ _ _ q=>sub_int q
theorem mY:OpR X (binaryOp .Mult) (rI afe λ i j=>.int (i * j)):=opI λ _ _ _ _ _ _ _ hc q=>mul_int q hc.ok
theorem yo:OpR X (binaryOp .FloorDiv) (rI ahz λ i j=>.int (i / j)):=opI λ i j _ _ _ _ _ hc q=>by have h1:(0:Int)<j:=hc.1;have h2:j<1073741824:=hc.2;exact floordiv_int (by omega) (by rw[Int.fdiv_eq_ediv_of_nonneg i (by omega)];exact q) (.inl (PyProof.noPylong_small (by omega)))
theorem jP:OpR X (binaryOp .Mod) (rI (λ _ j=>0<j) λ i j=>.int (i % j)):=opI λ i j _ _ _ _ _ hc q=>by have h1:(0:Int)<j:=hc;exact mod_int' (by omega) (by rw[Int.fmod_eq_emod_of_nonneg i (by omega)];exact q)
theorem agD:OpR X (binaryOp .Pow) (rI ah4 λ i j=>.int (i ^ j.toNat)):=opI λ _ _ _ _ _ _ _ hc q=>pow_int_small hc.1 hc.2.1 hc.2.2 q
end
def aja:V->V->Bool
 | .non,.non=>true | .non,.int _=>true | .int _,.non=>true | .non,.bl _=>true | .bl _,.non=>true | .non,.str _=>true | .str _,.non=>true
 | .int _,.int _=>true | .bl _,.bl _=>true | .str _,.str _=>true | .byt _,.byt _=>true
 | .int _,.str _=>true | .str _,.int _=>true | .bl _,.str _=>true | .str _,.bl _=>true
 | _,_=>false
def rEq:R2:=λ x y H Q=>aja x y=true/\Q (.bl (decide (x=y))) H
def rNe:R2:=λ x y H Q=>aja x y=true/\Q (.bl (!decide (x=y))) H
theorem zk{i j:Int}:decide (V.int i=V.int j)=(i==j):=by rw[Bool.eq_iff_iff];simp
theorem abO{i j:Bool}:decide (V.bl i=V.bl j)=(i==j):=by rw[Bool.eq_iff_iff];simp
theorem w6{i j:Str}:decide (V.str i=V.str j)=(i==j):=by rw[Bool.eq_iff_iff];simp
theorem yd{i j:Array UInt8}:decide (V.byt i=V.byt j)=(i.toList==j.toList):=by rw[Bool.eq_iff_iff];cases i;cases j;simp
section
variable {X:Cx}{a b c:Expr}{ta tb tc:TE}{pos:Pos}
theorem bC{pins:PN}{σ:St}{H:Hp}{s:Shared}{Q:VK}{k k':Bool}(I:Inv X pins σ H s)(q:Q (.bl k) H)(e:k=k'):EP X pins σ Q (.bool k') s:=by subst e;exact⟨.bl k,H,I,rfl,q⟩
theorem ah0:OpR X (compareOp .Eq) rEq:=by
 intro pins s σ H x y v u Q I rx ry h;obtain⟨hs,q⟩:=h;cases x with
 | non =>
  cases rx;cases y with
  | non=>cases ry;exact PySem.EqNone.eq_none_none (bC I q (by simp))
  | bl j=>cases ry;exact PySem.EqNone.eq_none_bool (bC I q (by simp))
  | int j=>obtain⟨t',rfl⟩:=ry;exact PySem.EqNone.eq_none_int (bC I q (by simp))
  | str j=>obtain⟨t',rfl⟩:=ry;exact PySem.EqNone.eq_none_str (bC I q (by simp))
  | _=>exact absurd (show false=true from hs) Bool.false_ne_true
 | bl i =>
  cases rx;cases y with
  | non=>cases ry;exact PySem.EqNone.eq_bool_none (bC I q (by simp))
  | bl j=>cases ry;exact eq_bool (bC I q abO)
  | str j=>obtain⟨t',rfl⟩:=ry;exact PySem.EqMixed.eq_bool_str (bC I q (by simp))
  | _=>exact absurd (show false=true from hs) Bool.false_ne_true
 | int i =>
  obtain⟨t,rfl⟩:=rx;cases y with
  | non=>cases ry;exact PySem.EqNone.eq_int_none (bC I q (by simp))
  | int j=>obtain⟨t',rfl⟩:=ry;exact eq_int (bC I q zk)
  | str j=>obtain⟨t',rfl⟩:=ry;exact PySem.EqMixed.eq_int_str (bC I q (by simp))
  | _=>exact absurd (show false=true from hs) Bool.false_ne_true
 | str i =>
  obtain⟨t,rfl⟩:=rx;cases y with
  | non=>cases ry;exact PySem.EqNone.eq_str_none (bC I q (by simp))
  | bl j=>cases ry;exact PySem.EqMixed.eq_str_bool (bC I q (by simp))
  | int j=>obtain⟨t',rfl⟩:=ry;exact PySem.EqMixed.eq_str_int (bC I q (by simp))
  | str j=>obtain⟨t',rfl⟩:=ry;exact eq_str (bC I q w6)
  | _=>exact absurd (show false=true from hs) Bool.false_ne_true
 | byt i =>
  obtain⟨t,rfl⟩:=rx;cases y with
  | byt j=>obtain⟨t',rfl⟩:=ry;exact W.eq_bytes (bC I q yd)
  | _=>exact absurd (show false=true from hs) Bool.false_ne_true
 | _=>cases y<;>exact absurd (show false=true from hs) Bool.false_ne_true
theorem ahB:OpR X (compareOp .NotEq) rNe:=by
 intro pins s σ H x y v u Q I rx ry h;obtain⟨hs,q⟩:=h;cases x with
 | non =>
  cases rx;cases y with
  | non=>cases ry;exact PySem.EqNone.ne_none_none (bC I q (by simp))
  | bl j=>cases ry;exact PySem.EqNone.ne_none_bool (bC I q (by simp))
  | int j=>obtain⟨t',rfl⟩:=ry;exact PySem.EqNone.ne_none_int (bC I q (by simp))
  | str j=>obtain⟨t',rfl⟩:=ry;exact PySem.EqNone.ne_none_str (bC I q (by simp))
  | _=>exact absurd (show false=true from hs) Bool.false_ne_true
 | bl i =>
  cases rx;cases y with
  | non=>cases ry;exact PySem.EqNone.ne_bool_none (bC I q (by simp))
  | bl j=>cases ry;exact ne_bool (bC I q (congrArg not abO))
  | str j=>obtain⟨t',rfl⟩:=ry;exact PySem.EqMixed.ne_bool_str (bC I q (by simp))
  | _=>exact absurd (show false=true from hs) Bool.false_ne_true
 | int i =>
  obtain⟨t,rfl⟩:=rx;cases y with
  | non=>cases ry;exact PySem.EqNone.ne_int_none (bC I q (by simp))
  | int j=>obtain⟨t',rfl⟩:=ry;exact ne_int (bC I q (congrArg not zk))
  | str j=>obtain⟨t',rfl⟩:=ry;exact PySem.EqMixed.ne_int_str (bC I q (by simp))
  | _=>exact absurd (show false=true from hs) Bool.false_ne_true
 | str i =>
  obtain⟨t,rfl⟩:=rx;cases y with
  | non=>cases ry;exact PySem.EqNone.ne_str_none (bC I q (by simp))
  | bl j=>cases ry;exact PySem.EqMixed.ne_str_bool (bC I q (by simp))
  | int j=>obtain⟨t',rfl⟩:=ry;exact PySem.EqMixed.ne_str_int (bC I q (by simp))
  | str j=>obtain⟨t',rfl⟩:=ry;exact ne_str (bC I q (congrArg not w6))
  | _=>exact absurd (show false=true from hs) Bool.false_ne_true
 | byt i =>
  obtain⟨t,rfl⟩:=rx;cases y with
  | byt j=>obtain⟨t',rfl⟩:=ry;exact W.ne_bytes (bC I q (congrArg not yd))
  | _=>exact absurd (show false=true from hs) Bool.false_ne_true
 | _=>cases y<;>exact absurd (show false=true from hs) Bool.false_ne_true
theorem agN:OpR X (compareOp .Lt) (rI0 λ i j=>.bl (decide (i<j))):=ahe λ _ _ _ _ _ _ _ q=>lt_int q
theorem ahI:OpR X (compareOp .LtE) (rI0 λ i j=>.bl (decide (i<=j))):=ahe λ _ _ _ _ _ _ _ q=>le_int q
theorem qA:OpR X (compareOp .Gt) (rI0 λ i j=>.bl (decide (j<i))):=ahe λ _ _ _ _ _ _ _ q=>gt_int q
theorem ahr:OpR X (compareOp .GtE) (rI0 λ i j=>.bl (decide (j<=i))):=ahe λ _ _ _ _ _ _ _ q=>ge_int q
theorem wb:OpR X (compareOp .In) (λ x y H Q=>∃ i j,x=.str i/\y=.str j/\Q (.bl (!(Builtin.Str.occurrences j i 0 j.length 1).isEmpty)) H):=by intro pins s σ H x y v u Q I rx ry h;obtain⟨i,j,rfl,rfl,q⟩:=h;obtain⟨t,rfl⟩:=rx;obtain⟨t',rfl⟩:=ry;exact in_str (bC I q rfl)
theorem nA:OpR X (compareOp .Is) (λ x y H Q=>y=.non/\Q (.bl (decide (x=.non))) H):=by
 intro pins s σ H x y v u Q I rx ry h;obtain⟨rfl,q⟩:=h;cases ry;refine is_none_gen (bC I q ?_);cases x<;>first
  | (cases rx;rfl)
  | (obtain⟨t,rfl⟩:=rx;rfl)
theorem acB:OpR X (compareOp .IsNot) (λ x y H Q=>y=.non/\Q (.bl (!decide (x=.non))) H):=by
 intro pins s σ H x y v u Q I rx ry h;obtain⟨rfl,q⟩:=h;cases ry;refine isnot_none_gen (bC I q ?_);cases x<;>first
  | (cases rx;rfl)
  | (obtain⟨t,rfl⟩:=rx;rfl)
theorem aco{op:CmpOp}{r:R2}(ho:OpR X (compareOp op) r)(ha:PE X a ta)(hb:PE X b tb)(hm:behindInMarks op b=false):PE X (.Compare a [op] [b] pos) (tOp r ta tb):=by intro pins s σ H Q I h;exact wpAny_Compare1 (ahk ha hb I h λ v u s2 x y H2 I2 rx ry q=>ho pins s2 σ H2 x y v u Q I2 rx ry q) hm
def ab8(t:TE):TT:=λ σ H Q=>t σ H λ x H'=>∃ k,x=.bl k/\Q k H'
theorem ael{op:CmpOp}{r:R2}(ho:OpR X (compareOp op) r)(ha:PE X a ta)(hb:PE X b tb)(hm:behindInMarks op b=false):PT X (.Compare a [op] [b] pos) (ab8 (tOp r ta tb)):=by
 intro pins s σ H Q I h;refine wpAny_isTrue_Compare1 (thn (ha pins s σ H _ I h) λ v s1 ⟨x,H1,I1,r1,q1⟩=>thn (hb pins s1 σ H1 _ I1 q1) λ u s2 ⟨y,H2,I2,r2,q2⟩ =>
  thn (ho pins s2 σ H2 x y v u _ I2 r1 r2 q2) λ c s3 ⟨z,H3,I3,r3,k,e,q3⟩=>?_) hm
 subst e;cases r3;exact wpAny_truthy_bool ⟨H3,I3,q3⟩
def yh(r r':R2)(ta tb tc:TE):TE:=λ σ H Q=>ta σ H λ x H1=>tb σ H1 λ y H2=>r x y H2 λ z H3=>∃ k,z=.bl k /\
 (if k=true then tc σ H3 λ w' H4=>r' y w' H4 Q else Q (.bl false) H3)
theorem aaQ{op op':CmpOp}{r r':R2}(ho:OpR X (compareOp op) r)(ho':OpR X (compareOp op') r')(ha:PE X a ta)(hb:PE X b tb)(hc:PE X c tc)
  (hm:lastMarks [op,op'] [b,c]=false:=by with_unfolding_all rfl):PE X (.Compare a [op,op'] [b,c] pos) (yh r r' ta tb tc):=by
 intro pins s σ H Q I h;refine Compare_chain (thn (ha pins s σ H _ I h) λ v s1 ⟨x,H1,I1,r1,q1⟩=>chain_link (thn (hb pins s1 σ H1 _ I1 q1) λ u s2 ⟨y,H2,I2,r2,q2⟩ =>
  thn (ho pins s2 σ H2 x y v u _ I2 r1 r2 q2) λ d s3 ⟨z,H3,I3,r3,k,e,q3⟩=>?_)) hm
 subst e;cases r3;refine wpAny_truthy_bool ?_;cases k with
 | false=>exact ite_ff ⟨.bl false,H3,I3,rfl,q3⟩
 | true=>exact ite_tt (chain_last (thn (hc pins s3 σ H3 _ I3 q3) λ w' s4 ⟨z',H4,I4,r4,q4⟩=>ho' pins s4 σ H4 y z' u w' Q I4 r2 r4 q4))
theorem aaS{op op':CmpOp}{r r':R2}(ho:OpR X (compareOp op) r)(ho':OpR X (compareOp op') r')(ha:PE X a ta)(hb:PE X b tb)(hc:PE X c tc)
  (hm:lastMarks [op,op'] [b,c]=false:=by with_unfolding_all rfl):PT X (.Compare a [op,op'] [b,c] pos) (ab8 (yh r r' ta tb tc)):=by
 intro pins s σ H Q I h;refine isTrue_chain (thn (ha pins s σ H _ I h) λ v s1 ⟨x,H1,I1,r1,q1⟩=>test_link (thn (hb pins s1 σ H1 _ I1 q1) λ u s2 ⟨y,H2,I2,r2,q2⟩ =>
  thn (ho pins s2 σ H2 x y v u _ I2 r1 r2 q2) λ d s3 ⟨z,H3,I3,r3,k,e,q3⟩=>?_)) hm
 subst e;cases r3;refine wpAny_truthy_bool ?_;cases k with
 | false =>
  obtain⟨k',e',q'⟩:=q3;cases e';exact ite_ff ⟨H3,I3,q'⟩
 | true =>
  refine ite_tt (test_last (thn (hc pins s3 σ H3 _ I3 q3) λ w' s4 ⟨z',H4,I4,r4,q4⟩=>thn (ho' pins s4 σ H4 y z' u w' _ I4 r2 r4 q4) λ d' s5 hq21=>?_));obtain⟨z2,H5,I5,r5,k2,e2,q5⟩:=hq21;subst e2;cases r5;exact wpAny_truthy_bool ⟨H5,I5,q5⟩
def ahD(K:FG)(x:V)(H:Hp)(k:Bool):Prop:=
 match x with
 | .non=>k=false
 | .bl b=>k=b
 | .int i=>k=(i != 0)
 | .str y=>y.length<=sizeLine/\k=((y.length:Int) != 0)
 | .byt y=>y.size<=sizeLine/\k=((y.size:Int) != 0)
 | .ref p=>(∃ xs,SqL K H p xs/\k=!xs.isEmpty)\/(∃ xs,SqT K H p xs/\k=!xs.isEmpty)\/∃ kvs,H p=some (.dK kvs)/\k=!kvs.isEmpty
 | _=>False
theorem vq{κ:Type}{kvs:List (κ×V)}{vs:List (κ×Value)}(r:KV kvs vs):(!vs.isEmpty)=!kvs.isEmpty:=by
 cases r<;>rfl
theorem mQ{xs:List V}{its:List Value}(r:Vals xs its):(!its.toArray.isEmpty)=!xs.isEmpty:=by
 cases r<;>simp
theorem l8:(sizeLine:Nat)<2 ^ 63:=by rw[sizeLine_eq];decide
theorem agJ:ajr X (λ x H Q=>∃ k,ahD X.K x H k/\Q k H):=by
 intro pins s σ H x v Q I rx h;obtain⟨k,e,q⟩:=h;have hl:=l8;have hs:sizeLine=16777216:=sizeLine_eq;cases x with
 | non =>
  cases rx;have e':k=false:=e;subst e';exact truthy_none ⟨H,I,q⟩
 | bl b =>
  cases rx;have e':k=b:=e;subst e';exact wpAny_truthy_bool ⟨H,I,q⟩
 | int i =>
  obtain⟨t,rfl⟩:=rx;have e':k=(i != 0):=e;subst e';exact PySem.P.truthy_int ⟨H,I,q⟩
 | str y =>
  obtain⟨t,rfl⟩:=rx;obtain⟨hy,e'⟩:y.length<=sizeLine/\k=((y.length:Int) != 0):=e;subst e';exact PySem.P.truthy_str (by omega) ⟨H,I.tok _,q⟩
 | byt y =>
  obtain⟨t,rfl⟩:=rx;obtain⟨hy,e'⟩:y.size<=sizeLine/\k=((y.size:Int) != 0):=e;subst e';exact W.truthy_bytes (by omega) ⟨H,I.tok _,q⟩
 | ref p =>
  cases rx;have e':(∃ xs,SqL X.K H p xs/\k=!xs.isEmpty)\/(∃ xs,SqT X.K H p xs/\k=!xs.isEmpty)\/∃ kvs,H p=some (.dK kvs)/\k=!kvs.isEmpty:=e;rcases e' with ⟨xs,hx,e'⟩ | ⟨xs,hx,e'⟩ | ⟨kvs,hx,e'⟩
  ·subst e';obtain⟨its,r,pl,hz⟩:=I.list hx;have hlen:=r.length;exact wpAny_truthy_list pl.isList (by simp only[List.size_toArray];omega) ⟨H,I.tok _,by rw[mQ r];exact q⟩
  ·subst e';obtain⟨its,r,pl,hz⟩:=I.tuple hx;have hlen:=r.length;exact truthy_tuple pl (by simp only[List.size_toArray];omega) ⟨H,I.tok _,by rw[mQ r];exact q⟩
  ·subst e';obtain⟨hz,hS,vs,r,m⟩:kvs.length<=sizeLine/\(p==sysModules)=false/\∃ vs,KV kvs vs/\s.heap.DictOf (a9 X.prog X.w) p vs:=I.hok p _ hx;have hlen:kvs.length=vs.length:=Paired.length r;exact wpAny_truthy_dict hS m (by omega) ⟨H,I.tok _,by rw[vq r];exact q⟩
 | _=>exact(show False from e).elim
theorem zQ(ha:PE X a ta)(he:∀ whole,isTrue a X.env whole=(do let v <- whole;standAt a.pos;holding [v] (truthy v))) :
  PT X a (λ σ H Q=>ta σ H λ x H'=>∃ k,ahD X.K x H' k/\Q k H'):=by
 intro pins s σ H Q I h;exact isTrue_plain (thn (ha pins s σ H _ I h) λ v s1 ⟨x,H1,I1,r1,q1⟩=>agJ pins s1 σ H1 x v Q I1 r1 q1) (he _)
theorem vD:OpR X (binaryOp .Add) (λ x y H Q=>∃ i j,x=.str i/\y=.str j/\i.length+j.length<=sizeLine/\Q (.str (i++j)) H):=by intro pins s σ H x y v u Q I rx ry h;obtain⟨i,j,rfl,rfl,hz,q⟩:=h;obtain⟨t,rfl⟩:=rx;obtain⟨t',rfl⟩:=ry;exact add_str (λ t' tk=>⟨.str (i++j),H,I.tok _,⟨_,rfl⟩,q⟩) hz
theorem vals1{x:V}{us:List Value}(r:Vals [x] us):∃ u,us=[u]/\RelV x u:=by
 cases r with
 | cons r1 r2=>cases r2;exact⟨_,rfl,r1⟩
theorem vals2{x y:V}{us:List Value}(r:Vals [x,y] us):∃ u w',us=[u,w']/\RelV x u/\RelV y w':=by
 cases r with
 | cons r1 r2 =>
  cases r2 with
  | cons r3 r4=>cases r4;exact⟨_,_,rfl,r1,r3⟩
theorem aag:eL X (.builtin "abs") (λ xs H Q=>∃ i,xs=[.int i]/\Q (.int (if i<0 then -i else i)) H):=by intro pins s σ H xs us Q I r h;obtain⟨i,rfl,q⟩:=h;obtain⟨u,rfl,t,rfl⟩:=vals1 r;exact call_abs_int λ u tk=>⟨.int (if i<0 then -i else i),H,I.tok _,⟨_,rfl⟩,q⟩
theorem kD(hc:X.calm=true):eL X (.builtin "max") (λ xs H Q=>∃ i j,xs=[.int i,.int j]/\Q (.int (if j > i then j else i)) H):=by
 intro pins s σ H xs us Q I r h;obtain⟨i,j,rfl,q⟩:=h;obtain⟨u,w',rfl,⟨t,rfl⟩,⟨t',rfl⟩⟩:=vals2 r;refine max_two_ints (I.ok.hd hc) λ h' tk k=>⟨_,H,I.kept k,?_,q⟩
 by_cases hj:j > i
 ·rw[if_pos hj,if_pos hj];exact⟨_,rfl⟩
 ·rw[if_neg hj,if_neg hj];exact⟨_,rfl⟩
theorem yi(hc:X.calm=true):eL X (.builtin "min") (λ xs H Q=>∃ i j,xs=[.int i,.int j]/\Q (.int (if j<i then j else i)) H):=by
 intro pins s σ H xs us Q I r h;obtain⟨i,j,rfl,q⟩:=h;obtain⟨u,w',rfl,⟨t,rfl⟩,⟨t',rfl⟩⟩:=vals2 r;refine min_two_ints (I.ok.hd hc) λ h' tk k=>⟨_,H,I.kept k,?_,q⟩
 by_cases hj:j<i
 ·rw[if_pos hj,if_pos hj];exact⟨_,rfl⟩
 ·rw[if_neg hj,if_neg hj];exact⟨_,rfl⟩
theorem wQ:eL X (.type "int") (λ xs H Q=>(∃ i,xs=[.int i]/\Q (.int i) H)\/∃ k,xs=[.bl k]/\Q (.int (if k then 1 else 0)) H):=by
 intro pins s σ H xs us Q I r h;rcases h with ⟨i,rfl,q⟩ | ⟨k,rfl,q⟩
 ·obtain⟨u,rfl,t,rfl⟩:=vals1 r;exact call_int_int ⟨.int i,H,I,⟨_,rfl⟩,q⟩
 ·obtain⟨u,rfl,r1⟩:=vals1 r;cases r1;exact call_int_bool ⟨.int (if k then 1 else 0),H,I.tok _,⟨_,rfl⟩,q⟩
def aiF(K:FG)(x:V)(H:Hp)(n:Nat):Prop:=
 match x with
 | .str y=>y.length<=sizeLine/\n=y.length
 | .byt y=>y.size<=sizeLine/\n=y.size
 | .ref p=>(∃ xs,SqL K H p xs/\n=xs.length)\/∃ xs,SqT K H p xs/\n=xs.length
 | _=>False
theorem bw:eL X (.builtin "len") (λ xs H Q=>∃ x n,xs=[x]/\aiF X.K x H n/\Q (.int n) H):=by
 intro pins s σ H xs us Q I r h;obtain⟨x,n,rfl,e,q⟩:=h;obtain⟨u,rfl,rx⟩:=vals1 r;have hl:=l8;have hs:sizeLine=16777216:=sizeLine_eq;cases x with
 | str y =>
  obtain⟨t,rfl⟩:=rx;obtain⟨hy,e'⟩:y.length<=sizeLine/\n=y.length:=e;subst e';exact len_str (by omega) ⟨.int _,H,I.tok _,⟨_,rfl⟩,q⟩
 | byt y =>
  obtain⟨t,rfl⟩:=rx;obtain⟨hy,e'⟩:y.size<=sizeLine/\n=y.size:=e;subst e';exact W.len_bytes (by omega) ⟨.int _,H,I.tok _,⟨_,rfl⟩,q⟩
 | ref p =>
  cases rx;have e':(∃ xs,SqL X.K H p xs/\n=xs.length)\/∃ xs,SqT X.K H p xs/\n=xs.length:=e;rcases e' with ⟨xs,hx,e'⟩ | ⟨xs,hx,e'⟩
  ·subst e';obtain⟨its,r',pl,hz⟩:=I.list hx;have hlen:=r'.length;exact Calls.call_len_list pl.isList (by simp only[List.size_toArray];omega) ⟨.int xs.length,H,I.tok _,⟨_,by simp only[List.size_toArray];rw[hlen]⟩,q⟩
  ·subst e';obtain⟨its,r',pl,hz⟩:=I.tuple hx;have hlen:=r'.length;exact len_tuple pl (by simp only[List.size_toArray];omega) ⟨.int xs.length,H,I.tok _,⟨_,by simp only[List.size_toArray];rw[hlen]⟩,q⟩
 | _=>exact(show False from e).elim
end
theorem wq{h:Heap}{dx:Addr}{mA:Str->Option Value}(n:h.Ns1 dx mA):∃ od,h.get? dx=some od/\∀ name,W.lookIn name od=some (mA name):=by
 obtain⟨o,es,ep,ho,hd,hk,_,hm⟩:=n;refine⟨o,ho,λ name=>?_⟩;have e:=hm name;unfold nsFind findBy at e;rw[<- Array.find?_toList] at e;unfold W.lookIn;rw[hd];dsimp only
 split
 ·rename_i y q
  rw[q] at e;exact congrArg some e
 ·rename_i q
  rw[q] at e;have a:es.toList.any (·.refKey)=false:=by rw[List.any_eq_false];intro y hy;obtain⟨z,t,hkey⟩:=hk y (Array.mem_toList_iff.mp hy);simp[DictEntry.refKey,hkey]
  have a':¬ es.toList.any (·.refKey)=true:=by rw[a];exact Bool.false_ne_true
  rw[if_neg a'];exact congrArg some e
section
variable {prog:Program}{w:World}{A:Around}{E:VP}{s:Shared}{K:FG}{x dx C f:Addr}{mA:Str->Option Value}{name:Str}{v:Value}
end
theorem vw.some_of{v:V}{o:Option Value}(r:vw (some v) o):∃ u,o=some u/\RelV v u:=by
 cases o with
 | none=>exact(show False from r).elim
 | some u=>exact⟨u,rfl,r⟩
section
variable {P:Program}{w:World}{H H':Hp}{h h':Heap}{a C dx:Addr}{fs fs':List (Str×V)}
end
section
variable {X:Cx}{pins:PN}{σ:St}{H:Hp}{s:Shared}{a C dx:Addr}{fs:List (Str×V)}{f:Str}{v:V}{A:Around}{E:VP}
end
section
variable {X:Cx}{o e value:Expr}{f:Str}{pos pos' tpos:Pos}{ta tv:TE}
end
section
variable {X:Cx}{pins:PN}{σ:St}{H:Hp}{s:Shared}{A:Around}{E:VP}{Q:VP}{c:Value}{b:Bool}
end
structure gm(k:Nat)(A:Around):Prop where
 hd:A.handled=none
 gd:A.guards=some []
 dp:A.depth+3 * k+5<recursionLimit
 un:A.units+16 * k+200<cLine
theorem gm.mono{j k:Nat}{A:Around}(r:gm k A)(h:j<=k):gm j A:=⟨r.hd,r.gd,by have:=r.dp;omega,by have:=r.un;omega⟩
theorem gm.deeper{k:Nat}{A:Around}(r:gm (k+1) A)(env:Env):gm k (A.deeper env):=
 ⟨r.hd,r.gd,by have:=r.dp;show A.depth+1+3 * k+5<_;omega,by have:=r.un;show A.units+3+16 * k+200<_;omega⟩
theorem gm.depth{k:Nat}{A:Around}(r:gm k A):A.depth<recursionLimit:=by have:=r.dp;omega
theorem gm.units{k:Nat}{A:Around}(r:gm k A):A.units+64<cLine:=by have:=r.un;omega
def aiK:TA:=λ _ H Q=>Q [] H
def ahS(ta:TE)(tr:TA):TA:=λ σ H Q=>ta σ H λ x H1=>tr σ H1 λ xs H2=>Q (x::xs) H2
section
variable {X:Cx}{e:Expr}{es:List Expr}{te:TE}{t:TA}{pos:Pos}
theorem wj:PA X [] aiK:=λ _ _ _ _ H Q I h=>Calls.spliced_nil ⟨[],H,I,.nil,h⟩
theorem oJ(ha:PE X e te)(hr:PA X es t)(hs:starEach (e::es) X.env=(false,eval e X.env)::starEach es X.env:=by rfl):PA X (e::es) (ahS te t):=by intro pos pins s σ H Q I h;rw[hs];show wpAny _ _ (spliced ((false,eval e X.env)::backTo pos (starEach es X.env))) _ _ s;refine Calls.spliced_cons (thn (ha pins s σ H _ I h) λ u s1 hq22=>?_);obtain⟨x,H1,I1,r1,q1⟩:=hq22;exact thn (hr pos pins s1 σ H1 _ I1 q1) λ us s2 ⟨xs,H2,I2,r2,q2⟩=>⟨x::xs,H2,I2,.cons r1 r2,q2⟩
def ai6(t:TA):TE:=λ σ H Q=>t σ H λ xs H1=>xs.length<=sizeLine/\∀ p,H1 p=none->Q (.ref p) (upd H1 p (.tup xs))
def ajn(t:TA):TE:=λ σ H Q=>t σ H λ xs H1=>xs.length<=sizeLine/\∀ p,H1 p=none->Q (.ref p) (upd H1 p (.lst xs))
theorem abG{x1}(h:PA X es t):PE X (.Tuple es x1 pos) (ai6 t):=by intro pins s σ H Q I hq;refine wpAny_Tuple_spliced (thn (h pos pins s σ H _ I hq) λ us s1 ⟨xs,H1,I1,r,z,q⟩=>⟨by rw[<- r.length];exact z,?_⟩);have hf:H1 s1.heap.objs.size=none:=I1.hok.fresh (Nat.le_refl _);refine⟨.ref s1.heap.objs.size,upd H1 s1.heap.objs.size (.tup xs),I1.laid (t':=s1.toks) (λ b u e=>Heap.get?_push_of_some _ e) (Nat.le_refl _) ?_,rfl,q _ hf⟩;exact⟨z,us,r,zw.new _ _⟩
theorem abK(h:PA X es t):PE X (.List es pos) (ajn t):=by intro pins s σ H Q I hq;refine wpAny_List_spliced (thn (h pos pins s σ H _ I hq) λ us s1 ⟨xs,H1,I1,r,z,q⟩=>⟨by rw[<- r.length];exact z,?_⟩);have hf:H1 s1.heap.objs.size=none:=I1.hok.fresh (Nat.le_refl _);refine⟨.ref s1.heap.objs.size,upd H1 s1.heap.objs.size (.lst xs),I1.laid (t':=s1.toks) (λ b u e=>Heap.get?_push_of_some _ e) (Nat.le_refl _) ?_,rfl,q _ hf⟩;exact⟨z,us,0,r,Heap.get?_push_size _ rfl⟩
end
abbrev Sp:=List V->Hp->VK->XK->Prop
abbrev CXT:=List Env->Hp->Shared->XK->VP
structure ahj(P:Program)(w:World)(K:FG)(mg:Str->Option Value)(base:Heap)(A:Around)(outer:List Env)(s:Shared)(H:Hp):Prop where
 frames:A.frames=some outer
 mod:Mod K mg base
 bs:∀ b o,base.get? b=some o->s.heap.get? b=some o/\H b=none
 bsz:base.objs.size<=s.heap.objs.size
 rK:s.heap.FunFrames base outer
 frf:∀ b∈frs outer,H b=none
 hok:HOk P w H s.heap
 bare:AllBare s.gens
def CE(outer:List Env)(P:Program)(w:World)(H:Hp)(s:Shared)(Q:VK)(u:Value)(s':Shared):Prop:=
 ∃ v H',s'.os=s.os/\AllBare s'.gens/\Un (frs outer) [] H H' s.heap s'.heap/\HOk P w H' s'.heap/\RelV v u/\Q v H'
def CR(CX:CXT)(outer:List Env)(P:Program)(w:World)(H:Hp)(s:Shared)(Q:VK)(E:XK)(r:Result)(s':Shared):Prop:=
 match r with
 | .ok (.ret u)=>CE outer P w H s Q u s'
 | .ok _=>False
 | .error e=>CX outer H s E e s'
structure cU(P:Program)(w:World)(K:FG)(mg:Str->Option Value)(base:Heap)(CX:CXT)(k:Nat)(f:Addr)(fd:FuncData)(ps:List Str)(sp:Sp):Prop where
 len:∀ vs H Q E,sp vs H Q E->vs.length=ps.length
 run:∀ (A:Around) (outer:List Env) (s:Shared) (H:Hp) (args:Args) (us:List Value) (vs:List V) (Q:VK) (E:XK),gm k A->ahj P w K mg base A outer s H->BindsTo s fd args (ps.zip us)->Vals vs us->sp vs H Q E ->
  codeAny (model P w) A (.call (.ref f) args) (CR CX outer P w H s Q E) s
section
variable {X:Cx}{pins:PN}{σ:St}{H:Hp}{s s':Shared}
theorem Inv.ai5(I:Inv X pins σ H s):ahj X.prog X.w X.K X.mg X.base X.A X.stack s H:=
 ⟨I.ok.frames,I.ok.mod,I.bs,Nat.le_trans I.ok.bsz I.sz,I.stack,I.nQ,I.hok,I.bare⟩
theorem Inv.after{Q:VK}{u:Value}(I:Inv X pins σ H s)(h:CE X.stack X.prog X.w H s Q u s'):EP X pins σ Q u s':=by obtain⟨v,H',os,bare,un,hok,r,q⟩:=h;obtain⟨hh,g,d,t,os'⟩:=s';obtain rfl:os'=s.os:=os;exact⟨v,H',I.call (h':=hh) (g':=g) (d':=d) (t':=t) (ch:=[]) un hok bare (λ b z=>absurd z (by simp)),r,q⟩
end
def agM(sp:Sp)(dvs:List V)(E:XK)(t:TA):TE:=λ σ H Q=>t σ H λ vs H1=>sp (vs++dvs) H1 Q E
def Binds(K:FG)(fd:FuncData)(ps:List Str)(ds:List Value):Prop:=
 ∀ (s:Shared) (us:List Value),K.In s.heap->(us++ds).length=ps.length->BindsTo s fd ⟨us,[]⟩ (ps.zip (us++ds))
theorem Binds.all{K:FG}{fd:FuncData}{ps:List Str}(h:∀ us:List Value,us.length=ps.length->bindArgs fd ⟨us,[]⟩=pure (ps.zip us)):Binds K fd ps []:=λ s us _ hl=>by rw[List.append_nil] at hl ⊢;exact .of_eq (h us hl)
def Passes(CX:CXT)(X:Cx)(E:XK):Prop:=∀ (pins:PN) (σ:St) (H:Hp) (s:Shared) (e:Value) (s':Shared),Inv X pins σ H s->CX X.stack H s E e s'->X.xe e s'
section
variable {X:Cx}{CX:CXT}{k:Nat}{f C:Addr}{fd:FuncData}{ps:List Str}{sp:Sp}{dvs:List V}{ds:List Value}{E:XK}{x m:Str}{p pos apos:Pos}{e o:Expr}{es:List Expr}{ta:TE}{t:TA}
theorem abI{pins:PN}{σ:St}{H:Hp}{s:Shared}{Q:VK}{us:List Value}{vs:List V}(F:cU X.prog X.w X.K X.mg X.base CX k f fd ps sp)(hr:gm k X.A)(hb:Binds X.K fd ps ds)(hd:Vals dvs ds)(hx:Passes CX X E)
  (I:Inv X pins σ H s)(r:Vals vs us)(h:sp (vs++dvs) H Q E):wpAny (model X.prog X.w) X.A (call (.ref f) us) (EP X pins σ Q) X.xe s:=by
 have r2:Vals (vs++dvs) (us++ds):=r.append hd;have hl:(us++ds).length=ps.length:=by rw[<- r2.length];exact F.len _ _ _ _ h
 refine wpAny_call (codeAny_mono (F.run X.A X.stack s H ⟨us,[]⟩ (us++ds) (vs++dvs) Q E hr I.ai5 (hb s us I.kIn hl) r2 h) λ r s' hq=>?_);cases r with
 | error e=>exact hx pins σ H s e s' I hq
 | ok fl =>
  cases fl with
  | ret u=>exact I.after hq
  | next=>exact False.elim hq
  | brk=>exact False.elim hq
  | cont=>exact False.elim hq
theorem aei(F:cU X.prog X.w X.K X.mg X.base CX k f fd ps sp)(hr:gm k X.A)(hg:Gl X x)(hm:X.mg x=some (.ref f))(hk:W.keepIn X.K (.ref f)=true)(hb:Binds X.K fd ps ds)(hd:Vals dvs ds)(hx:Passes CX X E)
  (ha:PA X (e::es) t)(hdb:ND x:=by decide)(he:starEach (e::es) X.env=(false,eval e X.env)::starEach es X.env:=by rfl)(hpl:(backTo pos (starEach es X.env)).any (·.1)=false:=by rfl) :
  PE X (.Call (.Name x p) (e::es) [] pos) (agM sp dvs E t):=by
 intro pins s σ H Q I h;refine wpAny_Call_Name_kw (jH I hg hm ?_ hdb);refine W.callWith_K (h₀:=X.base) I.ok.mod.kin hk (thn (ha pos pins s σ H _ I h) λ us s1 ⟨vs,H1,I1,r,q⟩=>⟨I1.kIn,?_⟩) he hpl;exact abI F hr hb hd hx I1 r q
theorem zS(F:cU X.prog X.w X.K X.mg X.base CX k f fd ps sp)(hr:gm k X.A)(hg:Gl X x)(hm:X.mg x=some (.ref f))(hk:W.keepIn X.K (.ref f)=true)(hb:Binds X.K fd ps ds)(hd:Vals dvs ds)(hx:Passes CX X E)
  (hdb:ND x:=by decide):PE X (.Call (.Name x p) [] [] pos) (agM sp dvs E aiK):=by
 intro pins s σ H Q I h;refine wpAny_Call_Name_kw (jH I hg hm ?_ hdb);exact W.callWith_K0 I.kIn hk (abI (us:=[]) F hr hb hd hx I .nil h)
end
section
variable {X:Cx}{CX:CXT}{k:Nat}{f C:Addr}{fd:FuncData}{ps ks:List Str}{sp:Sp}{E:XK}{x m:Str}{p pos apos kpos:Pos}{e o:Expr}{es:List Expr}{kws:List Keyword}{te ta:TE}{t tk:TA}{nm:Option Str}
variable {g:List Value->List Value->List Value}{gV:List V->List V->List V}
end
structure aQ(N P:List Str)(sc:Scope):Prop where
 kind:sc.kind=.function
 co:sc.isCoroutine=false
 gen:sc.isGenerator=false
 nd:N.Nodup
 pre:N.take P.length=P
 par:∀ x∈P,sc.names.lookup x=some .local\/sc.names.lookup x=some .cell
 nofree:∀ y∈sc.names,y.2 ≠ .free
theorem qw{kindOf:Str->Option NameKind}{x:Str}:∀ {binds:List (Str×Value)} {m:Str->Option Value},(∀ v,(x,v) ∉ binds)->bindL kindOf binds m x=m x
 | [],_,_=>rfl
 | (n,v)::r,m,h=>by
  unfold bindL;rw[qw λ w hw=>h w (List.mem_cons_of_mem _ hw)]
  split
  ·have:x≠n:=by rintro rfl;exact h v List.mem_cons_self
   simp[this]
  ·rfl
theorem rT{kindOf:Str->Option NameKind}{x:Str}:∀ {binds:List (Str×Value)} {m:Str->Option Value},(∀ v,(x,v) ∉ binds)->bindC kindOf binds m x=m x
 | [],_,_=>rfl
 | (n,v)::r,m,h=>by
  unfold bindC;rw[rT λ w hw=>h w (List.mem_cons_of_mem _ hw)]
  split
  ·rfl
  ·have:x≠n:=by rintro rfl;exact h v List.mem_cons_self
   simp[this]
theorem rV{kindOf:Str->Option NameKind}{x:Str}{v:Value}:∀ {P:List Str} {vs:List Value} {i:Nat} {m:Str->Option Value},P.Nodup->P[i]? =some x->vs[i]? =some v->kindOf x=some .local ->
  bindL kindOf (P.zip vs) m x=some v
 | [],_,_,_,_,h,_,_=>by simp at h
 | _::_,[],_,_,_,_,h,_=>by simp at h
 | p::P,w::vs,0,m,nd,h1,h2,hk=>by simp at h1 h2;subst h1;subst h2;show bindL kindOf ((p,w)::P.zip vs) m p=_;unfold bindL;rw[qw λ v hv=>(List.nodup_cons.mp nd).1 (List.of_mem_zip hv).1,if_pos hk];simp
 | p::P,w::vs,i+1,m,nd,h1,h2,hk=>by show bindL kindOf ((p,w)::P.zip vs) m x=_;unfold bindL;exact rV (i:=i) (List.nodup_cons.mp nd).2 (by simpa using h1) (by simpa using h2) hk
theorem rF{kindOf:Str->Option NameKind}{x:Str}{v:Value}:∀ {P:List Str} {vs:List Value} {i:Nat} {m:Str->Option Value},P.Nodup->P[i]? =some x->vs[i]? =some v->kindOf x≠some .local ->
  bindC kindOf (P.zip vs) m x=some v
 | [],_,_,_,_,h,_,_=>by simp at h
 | _::_,[],_,_,_,_,h,_=>by simp at h
 | p::P,w::vs,0,m,nd,h1,h2,hk=>by simp at h1 h2;subst h1;subst h2;show bindC kindOf ((p,w)::P.zip vs) m p=_;unfold bindC;rw[rT λ v hv=>(List.nodup_cons.mp nd).1 (List.of_mem_zip hv).1,if_neg hk];simp
 | p::P,w::vs,i+1,m,nd,h1,h2,hk=>by show bindC kindOf ((p,w)::P.zip vs) m x=_;unfold bindC;exact rF (i:=i) (List.nodup_cons.mp nd).2 (by simpa using h1) (by simpa using h2) hk
def start(N:List Str)(vs:List V):St:=vs.map some++List.replicate (N.length-vs.length) none
def rX(CX:CXT)(P:Program)(w:World)(K:FG)(mg:Str->Option Value)(base:Heap)(N:List Str)(qual:Str)(scope:Scope)(f:Addr)(cd:Value)(A:Around)(outer:List Env)(s:Shared)(H:Hp)(E:XK):Cx where
 prog:=P
 w:=w
 K:=K
 mg:=mg
 base:=base
 A:=A.deeper (envOfC qual scope s.heap.objs.size f cd)
 N:=N
 s₀:=s
 H₀:=H
 env:=envOfC qual scope s.heap.objs.size f cd
 outer:=outer
 stack:=envOfC qual scope s.heap.objs.size f cd::outer
 ex:=[]
 calm:=true
 fn:=λ _=>true
 pn:=[]
 xe:=λ e s'=>wpAny (model P w) (A.deeper (envOfC qual scope s.heap.objs.size f cd)) (leaving (envOfC qual scope s.heap.objs.size f cd) e) (λ _ s''=>CX outer H s E e s'') (λ e' s''=>CX outer H s E e' s'') s'
theorem uh{sc:Scope}{n:Nat}{x:Str}(h:sc.names.lookup x=some .cell):∃ c,(cellsFrom n sc.names []).lookup x=some c:=by have q:=W.cellsFrom_some sc.names n [] (.inl h);exact Option.isSome_iff_exists.mp q
theorem xN{CX:CXT}{P:Program}{w:World}{K:FG}{mg:Str->Option Value}{base:Heap}{N ps:List Str}{qual:Str}{scope:Scope}{f:Addr}{cd:Value}{A:Around}{outer:List Env}{s s1:Shared}{H:Hp}{E:XK}{us:List Value}{vs:List V}
  (S:aQ N ps scope)(hd:A.handled=none)(e0:ahj P w K mg base A outer s H)(hl:vs.length=ps.length)(r:Vals vs us)
  (x:InCallC s s.heap.objs.size (bindL (envOfC qual scope s.heap.objs.size f cd).kindOf (ps.zip us) λ _=>none) (cellsFrom (s.heap.objs.size+1) scope.names []) (bindC (envOfC qual scope s.heap.objs.size f cd).kindOf (ps.zip us) λ _=>none) s1) :
  Inv (rX CX P w K mg base N qual scope f cd A outer s H E) [] (start N vs) H s1:=by
 have hpl:ps.length<=N.length:=by have:=congrArg List.length S.pre;rw[List.length_take] at this;omega
 obtain⟨h1,tk,rfl,hk⟩:=x.done;have noA:∀ b:Addr,b ∉ (rX CX P w K mg base N qual scope f cd A outer s H E).ex:=λ b z=>absurd (show b∈([]:List Addr) from z) (by simp);refine⟨⟨e0.mod,S.kind,rfl,rfl,Nat.le_refl _,λ y z c h1 h2=>?_,λ y hy=>?_,λ y c _ h=>?_,λ _=>hd,Around.frames_deeper e0.frames,.inr ⟨rfl,rfl⟩,λ b z=>absurd z (noA b),e0.bs,e0.bsz,λ b _ _=>noA b,λ b z=>absurd z (noA b),e0.rK,e0.frf⟩,
  rfl,e0.bare,Un.kept hk,⟨_,x.toInCall.ns,λ i y v h1 h2 h3=>?_⟩,λ y c h=>⟨_,x.cell y c h⟩,e0.hok.fresh (Nat.le_refl _),λ y c h=>?_,λ p hp=>absurd (show p∈([]:PN) from hp) (by simp),e0.hok.kept hk,?_⟩
 ·exact name_of_addr x.apart (PySem.mem_of_lookup h1) (PySem.mem_of_lookup h2)
 ·have hy:scope.names.lookup y=some .cell\/scope.names.lookup y=some .free:=hy;rcases hy with hy | hy
  ·exact uh hy
  ·exact absurd rfl (S.nofree _ (PySem.mem_of_lookup hy))
 ·exact Nat.le_of_lt (x.above y c (PySem.mem_of_lookup h))
 ·have hi:i<vs.length:=by
   unfold start at h2
   by_cases hi:i<vs.length
   ·exact hi
   ·rw[List.getElem?_append_right (by simpa using hi)] at h2;rw[List.getElem?_replicate] at h2
    split at h2<;>cases h2
  have ha:vs[i]? =some v:=by
   unfold start at h2;rw[List.getElem?_append_left (by simpa using hi),List.getElem?_map] at h2;cases e:vs[i]? with
   | none=>rw[e] at h2;cases h2
   | some a=>rw[e] at h2;cases h2;rfl
  obtain⟨u,hu,rv⟩:=r.get ha;have hp:ps[i]? =some y:=by rw[<- S.pre,List.getElem?_take_of_lt (by omega)];exact h1
  have ndP:ps.Nodup:=by rw[<- S.pre];exact S.nd.sublist (List.take_sublist _ _)
  refine⟨u,rv,?_⟩;rcases S.par y (List.mem_of_getElem? hp) with k | k
  ·exact .inl ⟨k,rV ndP hp hu k⟩
  ·obtain⟨c,e⟩:=uh (n:=s.heap.objs.size+1) k;refine .inr ⟨.inl k,c,e,?_⟩;have q:=x.cell y c e;rw[rF ndP hp hu (by show scope.names.lookup y≠_;rw[k];decide)] at q;exact q
 ·exact e0.hok.fresh (Nat.le_of_lt (x.above y c (PySem.mem_of_lookup h)))
 ·unfold start;show _=N.length;rw[List.length_append,List.length_map,List.length_replicate];omega
theorem adz{CX:CXT}{P:Program}{w:World}{K:FG}{mg:Str->Option Value}{base:Heap}{k:Nat}{f:Addr}{name qual:Str}{params:Arguments}{body:List Stmt}{scope:Scope}{dV kV doc pm cdv ct oc:Value}{an od:Option Addr}
  {osl:Array (Option Value)}{N ps:List Str}{sp:Sp}(lk:K.lookup f=some ⟨oc,od,.func (W.fnOf name qual params body scope dV kV doc pm an cdv ct),osl⟩)(hcd:W.codeIn K cdv qual=true)(S:aQ N ps scope)
  (len:∀ vs H Q E,sp vs H Q E->vs.length=ps.length)
  (hbody:∀ (A:Around) (outer:List Env) (s:Shared) (H:Hp) (vs:List V) (Q:VK) (E:XK),gm k (A.deeper (envOfC qual scope s.heap.objs.size f cdv))->sp vs H Q E ->
   ∃ t,PSs (rX CX P w K mg base N qual scope f cdv A outer s H E) body t/\t {nx:=λ _ H'=>Q .non H',rt:=Q} (start N vs) H) :
  cU P w K mg base CX (k+1) f (W.fnOf name qual params body scope dV kV doc pm an cdv ct) ps sp:=by
 refine⟨len,λ A outer s H args us vs Q E hr e0 hb r hsp=>?_⟩;have hl:=len _ _ _ _ hsp;have KX:K.In s.heap:=e0.mod.kin.keeps λ b o e=>(e0.bs b o e).1;have lim:s.heap.NoLimit:=e0.mod.nolimit.keeps λ b o e=>(e0.bs b o e).1;have hkind:∀ y∈ps.zip us,scope.names.lookup y.1=some .local\/(scope.names.lookup y.1=some .cell/\((cellsFrom (s.heap.objs.size+1) scope.names []).lookup y.1).isSome=true):=λ⟨n,v⟩ hy=>by
  rcases S.par n (List.of_mem_zip hy).1 with q | q
  ·exact .inl q
  ·exact .inr ⟨q,W.cellsFrom_some _ _ _ (.inl q)⟩
 refine codeAny_call_function hr.depth (KX _ _ lk) rfl S.co S.gen rfl (W.codeRec_of KX hcd) (hb _ _ _ _ ?_);refine wpAny_newFunctionEnv_cells S.kind hkind λ env he s1 x=>?_;subst he;refine⟨lim.keeps x.toInCall.keep,codeAny_func ?_⟩;obtain⟨t,ht,hq⟩:=hbody A outer s H vs Q E (hr.deeper _) hsp;have I:Inv (rX CX P w K mg base N qual scope f cdv A outer s H E) [] (start N vs) H s1:=xN S hr.hd e0 hl r x;refine wpAny_mono (ht [] s1 (start N vs) H _ I hq) (λ fl s' hs=>?_) λ e s' hs=>hs;have fin:∀ {σ':St} {H':Hp} {v:V} {u:Value},Inv (rX CX P w K mg base N qual scope f cdv A outer s H E) [] σ' H' s'->RelV v u->Q v H'->CE outer P w H s Q u s':=
  λ {σ' H' v u} J rv q=>⟨v,H',J.os,J.bare,J.base,J.hok,rv,q⟩
 cases fl with
 | ret u =>
  obtain⟨v,σ',H',J,rv,q⟩:=hs;exact fin J rv q
 | next =>
  obtain⟨σ',H',J,q⟩:=hs;exact fin (v:=V.non) (u:=Value.none) J rfl q
 | brk =>
  obtain⟨_,_,_,q⟩:=hs;exact False.elim q
 | cont =>
  obtain⟨_,_,_,q⟩:=hs;exact False.elim q
section
variable {X:Cx}{x:Str}{p pos:Pos}{e:Expr}{es:List Expr}{t:TA}{id T:String}{r:List V->Hp->VK->Prop}
def tCB(r:List V->Hp->VK->Prop)(t:TA):TE:=λ σ H Q=>t σ H λ vs H1=>r vs H1 Q
theorem uP(hc:eL X (.builtin id) r)(hg:Gl X x)(hm:X.mg x=none)(hv:bootBuiltins x=some (.builtin id))(ha:PA X (e::es) t)(hn:x ≠ "__name__":= by decide)(hdb:ND x:=by decide)
  (he:starEach (e::es) X.env=(false,eval e X.env)::starEach es X.env:=by rfl)(hpl:(backTo pos (starEach es X.env)).any (·.1)=false:=by rfl):PE X (.Call (.Name x p) (e::es) [] pos) (tCB r t):=by
 intro pins s σ H Q I h;refine wpAny_Call_Name_kw (m8 I hg hm hv ?_ hn hdb);exact PyProof.Rows.callWith_builtin1 (thn (ha pos pins s σ H _ I h) λ us s1 ⟨vs,H1,I1,r1,q1⟩=>hc pins s1 σ H1 vs us Q I1 r1 q1) he hpl
theorem yK(hc:eL X (.type T) r)(hg:Gl X x)(hm:X.mg x=none)(hv:bootBuiltins x=some (.type T))(ha:PA X (e::es) t)(hn:x ≠ "__name__":= by decide)(hdb:ND x:=by decide)
  (he:starEach (e::es) X.env=(false,eval e X.env)::starEach es X.env:=by rfl)(hpl:(backTo pos (starEach es X.env)).any (·.1)=false:=by rfl):PE X (.Call (.Name x p) (e::es) [] pos) (tCB r t):=by
 intro pins s σ H Q I h;refine wpAny_Call_Name_kw (m8 I hg hm hv ?_ hn hdb);exact PyProof.Rows.callWith_type1 (thn (ha pos pins s σ H _ I h) λ us s1 ⟨vs,H1,I1,r1,q1⟩=>hc pins s1 σ H1 vs us Q I1 r1 q1) he hpl
end
end L2
namespace HT
open PySem PyProof.Rows
section
open PySem.SeqAt
open PySem.AutoSeq1 (wpAny_loadPart')
open PySem.MeetsSeq PySem.MeetsSeq2 PySem.MeetsSeq3
end
section
variable {prog:Program}{w:World}{A:Around}{E:VP}{s:Shared}
theorem ac0{t b:Addr}{vs ws:List Value}{Q:VP}(ht:IsTup s.heap t vs.toArray)(hb:IsTup s.heap b ws.toArray)(hv:vs≠[])
  (h1:ws=[]->Q (.ref t) s)(h2:ws≠[]->Q (.ref s.heap.objs.size) {s with heap:=s.heap.push {cls:=.type "tuple",data:=.seq (vs++ws).toArray}})
  (hsz:vs.length+ws.length<=sizeLine):wpAny (model prog w) A (binaryOp .Add (.ref t) (.ref b)) Q E s:=by
 obtain⟨⟨cls,dd,data,sl⟩,ho,hc,n,hd⟩:=id ht;obtain⟨⟨cls2,dd2,data2,sl2⟩,ho2,hc2,n2,hd2⟩:=id hb;simp only at hc hd hc2 hd2;subst hc hd hc2 hd2;have e:vs.toArray++ws.toArray=(vs++ws).toArray:=by simp
 by_cases hw:ws=[]
 ·exact concat_meets ⟨_,ho,rfl⟩ ⟨_,ho2,rfl⟩ noFill_tuple_add seq_tuple_add PySem.F.slot_tuple_add PySem.F.entry_tuple_add (PySem.F.args_tuple_add_2 _ _)
   (tuple_addW1 t b vs.toArray ws.toArray n n2 dd dd2 sl sl2 (by simpa using hv) (by simp[hw])) ⟨ho,ho2,h1 hw⟩
 ·refine concat_meets ⟨_,ho,rfl⟩ ⟨_,ho2,rfl⟩ noFill_tuple_add seq_tuple_add PySem.F.slot_tuple_add PySem.F.entry_tuple_add (PySem.F.args_tuple_add_2 _ _)
   (tuple_addW2 t b vs.toArray ws.toArray n n2 dd dd2 sl sl2 (by simpa using hv) (by simpa using hw) (by rw[List.size_toArray,List.size_toArray];exact hsz)) ⟨ho,ho2,?_⟩
  rw[e];exact h2 hw
def sIx(n d:Nat):Option Int->Nat
 | none=>d
 | some v=>if v<0 then (v+(n:Int)).toNat else min v.toNat n
theorem af4(n d:Nat)(hd:d<=n)(o:Option Int):sIx n d o<=n:=by
 cases o with
 | none=>exact hd
 | some v =>
  show(if v<0 then (v+(n:Int)).toNat else min v.toNat n)<=n
  by_cases hv:v<0
  ·rw[if_pos hv];omega
  ·rw[if_neg hv];exact Nat.min_le_right _ _
theorem yr(v:Int)(n d:Nat):(if v<0 then max (v+(n:Int)) 0 else min v (n:Int))=((sIx n d (some v):Nat):Int):=by
 show(if v<0 then max (v+(n:Int)) 0 else min v (n:Int))=(((if v<0 then (v+(n:Int)).toNat else min v.toNat n):Nat):Int)
 by_cases hv:v<0
 ·simp only[if_pos hv];omega
 ·simp only[if_neg hv];omega
theorem vh(lo hi:Option Int)(n:Nat):Builtin.Slice.sliceAdjust lo hi 1 (n:Int)=(((sIx n 0 lo:Nat):Int),((sIx n n hi:Nat):Int)):=by
 have h1:¬ ((1:Int)<0):=by omega
 unfold Builtin.Slice.sliceAdjust;simp only[h1,if_false];refine Prod.ext ?_ ?_
 ·cases lo with
  | none=>rfl
  | some v=>exact yr v n 0
 ·cases hi with
  | none=>rfl
  | some v=>exact yr v n n
theorem vJ(i j:Nat):Builtin.Slice.slicePlaces (i:Int) (j:Int) 1=j-i:=by
 unfold Builtin.Slice.slicePlaces;have h1:(1:Int) > 0:=by omega
 simp only[h1,if_true,Int.ediv_one]
 split<;>omega
theorem mM{v:Value}{o:Option Int}{Q:Option Int->Shared->Prop}(p:IsPart v o)(h:Q o s):wpAny (model prog w) A (Builtin.Slice.slicePartIndex v) Q E s:=by
 cases p with
 | none=>exact slicePart_none h
 | int i t=>exact slicePart_int h
theorem jU{sl:Addr}{vl vu:Value}{lo hi:Option Int}{n:Nat}{Q:Int×Int×Nat->Shared->Prop}(hs:s.heap.IsSliceOf sl vl vu .none)(pl:IsPart vl lo)(pu:IsPart vu hi)
  (h:Q (((sIx n 0 lo:Nat):Int),1,sIx n n hi-sIx n 0 lo) s):wpAny (model prog w) A (Builtin.Slice.sliceApplied (.ref sl) (pure (n:Int))) Q E s:=by
 obtain⟨os,hos,hcs,hds⟩:=id hs;unfold Builtin.Slice.sliceApplied Builtin.Slice.sliceFields;refine wpAny_bind (wpAny_bind (wpAny_field hos hds (x:=vl) rfl (wpAny_bind (wpAny_field hos hds (x:=vu) rfl (wpAny_bind (wpAny_field hos hds (x:=.none) rfl (wpAny_pure ?_)))))));refine wpAny_bind (slicePart_none ?_);show wpAny _ _ (if ((1:Int)==0)=true then _ else _) _ _ s;rw[if_neg (by decide)];refine wpAny_bind (mM pl (wpAny_bind (mM pu (wpAny_bind (wpAny_pure ?_)))));show wpAny _ _ (match Builtin.Slice.sliceAdjust lo hi 1 (n:Int) with | (lo,hi)=>pure (lo,(1:Int),Builtin.Slice.slicePlaces lo hi 1)) _ _ s
 rw[vh lo hi n];show wpAny _ _ (pure (((sIx n 0 lo:Nat):Int),(1:Int),Builtin.Slice.slicePlaces ((sIx n 0 lo:Nat):Int) ((sIx n n hi:Nat):Int) 1)) _ _ s;rw[vJ];exact wpAny_pure h
theorem zW(xs:Array Value)(i k:Nat):((List.range k).filterMap λ(m:Nat)=>xs[((i:Int)+(m:Int) * 1).toNat]?).toArray=((xs.toList.drop i).take k).toArray:=by
 have e:(λ(m:Nat)=>xs[((i:Int)+(m:Int) * 1).toNat]?)=λ m=>xs[i+m]?:=by
  funext m;have:((i:Int)+(m:Int) * 1).toNat=i+m:=by omega
  rw[this]
 rw[e];have:=pick_run xs i k;rw[List.filterMap_map] at this;have e2:((λ x=>xs[x]?) ∘ λ x=>i+x)=λ m=>xs[i+m]?:=rfl;rw[e2] at this;rw[this]
theorem jy{t sl:Addr}{items:Array Value}{vl vu:Value}{lo hi:Option Int}{Q:VP}(ht:IsTup s.heap t items)(hs:s.heap.IsSliceOf sl vl vu .none)(pl:IsPart vl lo)(pu:IsPart vu hi)
  (hw:¬ (sIx items.size 0 lo=0/\sIx items.size items.size hi=items.size))
  (h:Q (.ref s.heap.objs.size) {s with heap:=s.heap.push {cls:=.type "tuple",data:=.seq ((items.toList.drop (sIx items.size 0 lo)).take (sIx items.size items.size hi-sIx items.size 0 lo)).toArray}})
  (hsz:items.size<=sizeLine):wpAny (model prog w) A (getItem (.ref t) (.ref sl)) Q E s:=by
 have htake:sizeOk (.seq ((items.toList.drop (sIx items.size 0 lo)).take (sIx items.size items.size hi-sIx items.size 0 lo)).toArray):=by show((items.toList.drop (sIx items.size 0 lo)).take (sIx items.size items.size hi-sIx items.size 0 lo)).toArray.size<=sizeLine;rw[List.size_toArray,List.length_take,List.length_drop,Array.length_toList];omega
 have hj:sIx items.size items.size hi<=items.size:=af4 _ _ (Nat.le_refl _) hi;obtain⟨os,hos,hcs,hds⟩:=id hs;have hTs:s.TypeIs (.ref sl) "slice":= ⟨os,hos,hcs⟩;unfold getItem
 try with_reducible refine wpAny_holding ?_
 first | refine wpAny_bind (wpAny_pure ?_) | skip
 refine wpAny_bind (wpAny_sequenceKey ht.typeIs (by decide) ?_);refine wpAny_bind (wpAny_callSpecial?_slot (name:=Str.ofString "__getitem__") ht.typeIs PyProof.Rows.slot_tuple_getitem
  (wpAny_call_entry PyProof.Rows.slot_tuple_getitem ht.typeIs entry_tuple_getitem ?_ (args_tuple_getitem _ _)))
 show wpAny _ _ (Builtin.Tuple.tupleItemsOf (.ref t) >>= _) _ _ s;refine wpAny_bind (tupleItemsOf_ ht ?_);refine wpAny_bind (wpAny_typeOf hTs ?_);rw[if_pos (by decide)];refine wpAny_bind (jU hs pl pu ?_);have hno:¬ ((((sIx items.size 0 lo:Nat):Int)==0&&(1:Int)==1&&(sIx items.size items.size hi-sIx items.size 0 lo)==items.size)=true):=by intro q;rw[Bool.and_eq_true,Bool.and_eq_true] at q;have q1:((sIx items.size 0 lo:Nat):Int)=0:=eq_of_beq q.1.1;have q2:sIx items.size items.size hi-sIx items.size 0 lo=items.size:=eq_of_beq q.2;exact hw ⟨by omega,by omega⟩
 show wpAny _ _ (if (((sIx items.size 0 lo:Nat):Int)==0&&(1:Int)==1&&(sIx items.size items.size hi-sIx items.size 0 lo)==items.size)=true then _ else _) _ _ s;rw[if_neg hno,zW]
 first
  | exact wpAny_bind (m:=Builtin.Tuple.tupleExact _) (wpAny_newObj_type (wpAny_pure ⟨_,rfl,wpAny_pure h⟩) htake)
  | exact wpAny_bind (m:=Builtin.Tuple.tupleExact _) (wpAny_newObj_type (wpAny_bind (wpAny_pure (wpAny_pure ⟨_,rfl,wpAny_pure h⟩))) htake)
  | exact wpAny_bind (wpAny_bind (m:=Builtin.Tuple.tupleExact _) (wpAny_newObj_type (wpAny_pure (wpAny_pure ⟨_,rfl,wpAny_pure h⟩)) htake))
  | exact wpAny_bind (wpAny_bind (m:=Builtin.Tuple.tupleExact _) (wpAny_newObj_type (wpAny_pure ⟨_,rfl,wpAny_pure h⟩) htake))
end
end HT
namespace L2
abbrev TO:=St->Hp->(Option Int->Hp->Prop)->Prop
def PO(X:Cx)(e:Option Expr)(t:TO):Prop:=
 ∀ (pins:PN) (s:Shared) (σ:St) (H:Hp) (Q:Option Int->Hp->Prop),Inv X pins σ H s->t σ H Q ->
  wpAny (model X.prog X.w) X.A (evalPart e X.env) (λ u s'=>∃ o H',Inv X pins σ H' s'/\IsPart u o/\Q o H') X.xe s
def adt:TO:=λ _ H Q=>Q none H
def ahQ(t:TE):TO:=λ σ H Q=>t σ H λ x H1=>∃ i,x=.int i/\Q (some i) H1
section
variable {X:Cx}{e:Expr}{te:TE}{lo hi:Option Expr}{tl th:TO}{pos p2:Pos}
theorem acI:PO X none adt:=by intro pins s σ H Q I h;rw[evalPart_none];exact wpAny_pure ⟨none,H,I,.none,h⟩
theorem acb(h:PE X e te):PO X (some e) (ahQ te):=by intro pins s σ H Q I hw;rw[evalPart_some];refine thn (h pins s σ H _ I hw) λ u s1 hq23=>?_;obtain⟨x,H1,I1,r1,q1⟩:=hq23;obtain⟨i,rfl,q⟩:=q1;obtain⟨t,rfl⟩:=r1;exact⟨some i,H1,I1,.int i t,q⟩
def SlR(X:Cx)(r:V->Option Int->Option Int->Hp->VK->Prop):Prop:=
 ∀ (pins:PN) (s:Shared) (σ:St) (H:Hp) (x:V) (v vl vu:Value) (lo hi:Option Int) (sl:Addr) (Q:VK),Inv X pins σ H s->RelV x v->s.heap.IsSliceOf sl vl vu .none->IsPart vl lo->IsPart vu hi->r x lo hi H Q ->
  ∃ T id,typeLookup (.type T) "__getitem__" = pure (some (.builtin id))/\s.TypeIs v T/\wpAny (model X.prog X.w) X.A (getItem v (.ref sl)) (EP X pins σ Q) X.xe s
theorem SlR.or{r r':V->Option Int->Option Int->Hp->VK->Prop}(h:SlR X r)(h':SlR X r'):SlR X (λ x lo hi H Q=>r x lo hi H Q\/r' x lo hi H Q):=by
 intro pins s σ H x v vl vu lo hi sl Q I rx hs pl pu q;rcases q with q | q
 ·exact h pins s σ H x v vl vu lo hi sl Q I rx hs pl pu q
 ·exact h' pins s σ H x v vl vu lo hi sl Q I rx hs pl pu q
def tSl(r:V->Option Int->Option Int->Hp->VK->Prop)(te:TE)(tl th:TO):TE:=λ σ H Q=>te σ H λ x H1=>tl σ H1 λ l H2=>th σ H2 λ u H3=>r x l u H3 Q
theorem abe{r:V->Option Int->Option Int->Hp->VK->Prop}(hr:SlR X r)(he:PE X e te)(hl:PO X lo tl)(hu:PO X hi th):PE X (.Subscript e (.Slice lo hi none p2) pos) (tSl r te tl th):=by intro pins s σ H Q I h;refine Subscript_ (thn (he pins s σ H _ I h) λ v s1 hq24=>?_);obtain⟨x,H1,I1,r1,q1⟩:=hq24;refine wpAny_Slice (thn (hl pins s1 σ H1 _ I1 q1) λ vl s2 ⟨l,H2,I2,pl,q2⟩=>thn (hu pins s2 σ H2 _ I2 q2) λ vu s3 hq25=>?_);obtain⟨u,H3,I3,pu,q3⟩:=hq25;rw[evalPart_none];refine wpAny_pure ?_;have I4:Inv X pins σ H3 {s3 with heap:=s3.heap.push {cls:=.type "slice",data:=.fields #[vl,vu,.none]}}:=I3.kept (t':=s3.toks) λ b ob q=>Heap.get?_push_of_some _ q;obtain⟨T,id,hT,ht,hg⟩:=hr pins {s3 with heap:=s3.heap.push {cls:=.type "slice",data:=.fields #[vl,vu,.none]}} σ H3 x v vl vu l u s3.heap.objs.size Q I4 r1 (Heap.IsSliceOf.new ..) pl pu q3;show wpAny (model X.prog X.w) X.A (subscriptTail e (.Slice lo hi none p2) v (.ref s3.heap.objs.size)) (EP X pins σ Q) X.xe {s3 with heap:=s3.heap.push {cls:=.type "slice",data:=.fields #[vl,vu,.none]}};exact tail_any (ops:=[.ref s3.heap.objs.size,v]) ht hT hg (by with_unfolding_all rfl)
def abi(xs:List V)(lo hi:Option Int):List V:=(xs.drop (HT.sIx xs.length 0 lo)).take (HT.sIx xs.length xs.length hi-HT.sIx xs.length 0 lo)
theorem kH(xs:List V)(lo hi:Option Int):(abi xs lo hi).length<=xs.length:=by
 unfold abi;rw[List.length_take,List.length_drop];omega
def ai9(K:FG):V->Option Int->Option Int->Hp->VK->Prop:=λ x lo hi H Q=>∃ a xs,x=.ref a/\SqT K H a xs /\
 ¬ (HT.sIx xs.length 0 lo=0/\HT.sIx xs.length xs.length hi=xs.length)/\∀ p,H p=none->Q (.ref p) (upd H p (.tup (abi xs lo hi)))
theorem agP:SlR X (ai9 X.K):=by
 intro pins s σ H x v vl vu lo hi sl Q I rx hs pl pu h;obtain⟨a,xs,rfl,hx,hw,q⟩:=h;cases rx;obtain⟨its,r,ht,hz⟩:=I.tuple hx;have hlen:its.toArray.size=xs.length:=by rw[List.size_toArray];exact r.length.symm
 refine⟨"tuple",_,PyProof.Rows.slot_tuple_getitem.lookup,ht.typeIs,?_⟩;refine HT.jy ht hs pl pu (by rw[hlen];exact hw) ?_ (by rw[hlen];exact hz);rw[hlen];refine⟨.ref s.heap.objs.size,_,I.laid (t':=s.toks) (o:=.tup (abi xs lo hi)) (λ b ob q=>Heap.get?_push_of_some _ q) (Nat.le_refl _) ?_,rfl,q _ (I.hok.fresh (Nat.le_refl _))⟩;exact⟨Nat.le_trans (kH xs lo hi) hz,_,(r.drop (HT.sIx xs.length 0 lo)).take (HT.sIx xs.length xs.length hi-HT.sIx xs.length 0 lo),zw.new _ _⟩
def afP(K:FG):R2:=λ x y H Q=>∃ a b xs ys,x=.ref a/\y=.ref b/\SqT K H a xs/\SqT K H b ys/\xs≠[]/\xs.length+ys.length<=sizeLine /\
 (ys=[]->Q (.ref a) H)/\(ys≠[]->∀ p,H p=none->Q (.ref p) (upd H p (.tup (xs++ys))))
theorem Vals.sS{xs:List V}{us:List Value}(r:Vals xs us):us=[] ↔ xs=[]:=by
 cases r with
 | nil=>simp
 | cons _ _=>simp
theorem om:OpR X (binaryOp .Add) (afP X.K):=by intro pins s σ H x y v u Q I rx ry h;obtain⟨a,b,xs,ys,rfl,rfl,ha,hb,hx,hz,q1,q2⟩:=h;cases rx;cases ry;obtain⟨its,r1,p1,_⟩:=I.tuple ha;obtain⟨its2,r2,p2,_⟩:=I.tuple hb;refine HT.ac0 p1 p2 (λ z=>hx (r1.sS.mp z)) (λ z=>⟨.ref a,H,I,rfl,q1 (r2.sS.mp z)⟩) (λ z=>?_) (by rw[<- r1.length,<- r2.length];exact hz);refine⟨.ref s.heap.objs.size,_,I.laid (t':=s.toks) (o:=.tup (xs++ys)) (λ b ob q=>Heap.get?_push_of_some _ q) (Nat.le_refl _) ?_,rfl,q2 (λ w=>z (r2.sS.mpr w)) _ (I.hok.fresh (Nat.le_refl _))⟩;exact⟨by rw[List.length_append];exact hz,_,r1.append r2,zw.new _ _⟩
end
def ixN(n:Nat)(i:Int):Option Nat:=if 0<=i then (if i<n then some i.toNat else none) else if -(n:Int)<=i then some (i+n).toNat else none
def atI{α:Type}(xs:List α)(i:Int):Option α:=(ixN xs.length i).bind λ j=>xs[j]?
theorem ym{n:Nat}{i:Int}{j:Nat}(h:ixN n i=some j):seqIndex? i n=some j/\j<n/\-(n:Int)<=i/\i<n:=by
 unfold ixN at h
 by_cases h0:0<=i
 ·rw[if_pos h0] at h
  by_cases h1:i<n
  ·rw[if_pos h1] at h;have e:i.toNat=j:=Option.some.inj h;exact⟨by rw[seqIndex_of h0 h1,e],by omega,by omega,h1⟩
  ·rw[if_neg h1] at h;cases h
 ·rw[if_neg h0] at h
  by_cases h1:-(n:Int)<=i
  ·rw[if_pos h1] at h;have e:(i+n).toNat=j:=Option.some.inj h;exact⟨by rw[seqIndex_neg (by omega) h1,e],by omega,h1,by omega⟩
  ·rw[if_neg h1] at h;cases h
theorem oA{α:Type}{xs:List α}{i:Int}{v:α}(h:atI xs i=some v):∃ j,seqIndex? i xs.length=some j/\xs[j]? =some v/\j<xs.length/\-(xs.length:Int)<=i/\i<xs.length:=by
 unfold atI at h;cases e:ixN xs.length i with
 | none=>rw[e] at h;cases h
 | some j =>
  rw[e] at h;obtain⟨h1,h2,h3,h4⟩:=ym e;exact⟨j,h1,h,h2,h3,h4⟩
theorem sX{α:Type}{xs:List α}{j:Nat}{v:α}(h:xs[j]? =some v):atI xs (j:Int)=some v:=by
 have hj:j<xs.length:=(List.getElem?_eq_some_iff.mp h).1;have e:ixN xs.length (j:Int)=some j:=by
  unfold ixN;rw[if_pos (by omega),if_pos (by omega)];simp
 unfold atI;rw[e];exact h
def sG(b:Expr):Prop:=∀ o i,subscripted b false o i=operate [o,i] (getItem o i)
def IxR(X:Cx)(r:R2):Prop:=
 ∀ (value slice:Expr) (pins:PN) (s:Shared) (σ:St) (H:Hp) (x y:V) (v u:Value) (Q:VK),Inv X pins σ H s->RelV x v->RelV y u->r x y H Q ->
  subscripted slice false v u=operate [v,u] (getItem v u)->wpAny (model X.prog X.w) X.A (subscriptTail value slice v u) (EP X pins σ Q) X.xe s
def MtR(X:Cx)(id:String)(r:V->List V->Hp->VK->Prop):Prop:=
 ∀ (pins:PN) (s:Shared) (σ:St) (H:Hp) (x:V) (xs:List V) (v:Value) (us:List Value) (Q:VK),Inv X pins σ H s->RelV x v->Vals xs us->r x xs H Q ->
  wpAny (model X.prog X.w) X.A (call (.builtin id) (v::us)) (EP X pins σ Q) X.xe s
section
variable {X:Cx}{a b:Expr}{ta tb:TE}{pos:Pos}
theorem IxR.or{r r':R2}(h:IxR X r)(h':IxR X r'):IxR X (λ x y H Q=>r x y H Q\/r' x y H Q):=by
 intro value slice pins s σ H x y v u Q I rx ry q hs;rcases q with q | q
 ·exact h value slice pins s σ H x y v u Q I rx ry q hs
 ·exact h' value slice pins s σ H x y v u Q I rx ry q hs
theorem ahq{r:R2}(hr:IxR X r)(ha:PE X a ta)(hb:PE X b tb)(hs:sG b):PE X (.Subscript a b pos) (tOp r ta tb):=by intro pins s σ H Q I h;exact Subscript_ (ahk ha hb I h λ v u s2 x y H2 I2 rx ry q=>hr a b pins s2 σ H2 x y v u Q I2 rx ry q (hs _ _))
def ahX(K:FG):R2:=λ x y H Q=>∃ p xs i v,x=.ref p/\y=.int i/\SqL K H p xs/\atI xs i=some v/\Q v H
def aiI(K:FG):R2:=λ x y H Q=>∃ p xs i v,x=.ref p/\y=.int i/\SqT K H p xs/\atI xs i=some v/\Q v H
def aiE:R2:=λ x y H Q=>∃ z i c,x=.str z/\y=.int i/\z.length<=sizeLine/\atI z.cps.toList i=some c/\Q (.str ⟨#[c]⟩) H
theorem ado:IxR X (ahX X.K):=by
 intro value slice pins s σ H x y v u Q I rx ry h hs;obtain⟨p,xs,i,z,rfl,rfl,hq,he,q⟩:=h;cases rx;obtain⟨t,rfl⟩:=ry;obtain⟨its,r,pl,hz⟩:=I.list hq;obtain⟨j,h1,h2,h3,h4,h5⟩:=oA he;obtain⟨w,ew,rw'⟩:=r.get h2;have hl:=r.length;have hn:=l8;have fin:EP X pins σ Q w s:=⟨z,H,I,rw',q⟩
 by_cases h0:0<=i
 ·have hj:i.toNat=j:=by rw[seqIndex_of h0 h5] at h1;exact Option.some.inj h1
  exact item_listR pl.isList h0 (by omega) (by rw[hj];simpa using ew) fin hs
 ·have hj:(i+(its.toArray.size:Int)).toNat=j:=by rw[seqIndex_neg (by omega) h4] at h1;rw[List.size_toArray,<- hl];exact Option.some.inj h1
  exact subscriptTail_builtinR (x:=w) pl.isList.typeIs slot_list_getitem.lookup
   (wpAny_getItem_list_neg (Q:=λ r s'=>r=w/\EP X pins σ Q r s') pl.isList (by omega) (by rw[List.size_toArray]<;>omega) (by omega) (by rw[hj];simpa using ew) ⟨rfl,fin⟩) hs
theorem ag2:IxR X (aiI X.K):=by
 intro value slice pins s σ H x y v u Q I rx ry h hs;obtain⟨p,xs,i,z,rfl,rfl,hq,he,q⟩:=h;cases rx;obtain⟨t,rfl⟩:=ry;obtain⟨its,r,pl,hz⟩:=I.tuple hq;obtain⟨j,h1,h2,h3,h4,h5⟩:=oA he;obtain⟨w,ew,rw'⟩:=r.get h2;have hl:=r.length;have hn:=l8;have fin:EP X pins σ Q w s:=⟨z,H,I,rw',q⟩;exact subscriptTail_builtinR (x:=w) pl.typeIs slot_tuple_getitem.lookup
  (getItem_tuple (j:=j) (Q:=λ r s'=>r=w/\EP X pins σ Q r s') pl (by omega) (by omega) (by rw[List.size_toArray,<- hl];exact h1) (by simpa using ew) ⟨rfl,fin⟩) hs
theorem agB:IxR X aiE:=by
 intro value slice pins s σ H x y v u Q I rx ry h hs;obtain⟨z,i,c,rfl,rfl,hz,he,q⟩:=h;obtain⟨t,rfl⟩:=rx;obtain⟨t',rfl⟩:=ry;obtain⟨j,h1,h2,h3,h4,h5⟩:=oA he;have hl:z.cps.toList.length=z.length:=by simp[Str.length]
 rw[hl] at h1 h4 h5;have hn:=l8;exact tail_any (typeIs_str s z t) slot_str_getitem.lookup (getItem_str (c:=c) (by have e1:decide (i < -(2 ^ 63:Int))=false:=decide_eq_false (by omega);have e2:decide (i >= 2 ^ 63)=false:=decide_eq_false (by omega);rw[e1,e2,Bool.or_false]) (by rw[h1];simpa using h2) ⟨.str ⟨#[c]⟩,H,I.tok _,⟨_,rfl⟩,q⟩) hs
def rIx(K:FG):R2:=λ x y H Q=>ahX K x y H Q\/aiI K x y H Q\/aiE x y H Q
theorem aT:IxR X (rIx X.K):=ado.or (ag2.or agB)
theorem vS(its:List Value)(n j:Nat)(u:Value):Obj.mapSeq (·.setIfInBounds j u) {cls:=.type "list",data:=.seq its.toArray n}={cls:=.type "list",data:=.seq (its.set j u).toArray n}:=by simp[Obj.mapSeq]
theorem Inv.lst{pins:PN}{σ:St}{H:Hp}{s:Shared}{p:Addr}{xs:List V}(I:Inv X pins σ H s)(h:H p=some (.lst xs)) :
  ∃ (its:List Value) (n:Nat),Vals xs its/\s.heap.get? p=some {cls:=.type "list",data:=.seq its.toArray n}/\xs.length<=sizeLine:=by
 obtain⟨z,its,n,r,e⟩:=I.hok p _ h;exact⟨its,n,r,e,z⟩
theorem Inv.ae5{pins:PN}{σ:St}{H:Hp}{s:Shared}{p:Addr}{xs ys:List V}{its its':List Value}{n n':Nat}{f:Obj->Obj}(I:Inv X pins σ H s)(h:H p=some (.lst xs))
  (ho:s.heap.get? p=some {cls:=.type "list",data:=.seq its.toArray n})(hf:f {cls:=.type "list",data:=.seq its.toArray n}={cls:=.type "list",data:=.seq its'.toArray n'})(r:Vals ys its')(hz:ys.length<=sizeLine)(t:Nat) :
  Inv X pins σ (upd H p (.lst ys)) {s with heap:=s.heap.update p f,toks:=t}:=by
 have e:(s.heap.update p f).get? p=some {cls:=.type "list",data:=.seq its'.toArray n'}:=by rw[Heap.get?_update_self f ho (by rw[hf]<;>rfl),hf]
 refine I.write (x:=p) (e:=p) (by rw[h];trivial) (.inl rfl) (λ b u hb q=>(Heap.get?_update_other _ _ (Ne.symm hb)).trans q) ⟨_,e⟩ ?_;exact⟨hz,its',n',r,e⟩
def ah9:V->V->V->Hp->(Hp->Prop)->Prop:=λ o i v H Q=>∃ p xs k j,o=.ref p/\i=.int k/\H p=some (.lst xs)/\ixN xs.length k=some j/\Q (upd H p (.lst (xs.set j v)))
theorem set_list:aiq X ah9:=by
 intro pins s σ H o i v ov iv u Q I ro ri rv h;obtain⟨p,xs,k,j,rfl,rfl,hp,hj,q⟩:=h;cases ro;obtain⟨t,rfl⟩:=ri;obtain⟨its,n,r,ho,hz⟩:=I.lst hp;obtain⟨h1,h2,h3,h4⟩:=ym hj;have hl:=r.length;have hn:=l8;have I':Inv X pins σ (upd H p (.lst (xs.set j v))) {s with heap:=s.heap.update p (Obj.mapSeq (·.setIfInBounds j u))}:=
  I.ae5 hp ho (vS its n j u) (r.set rv j) (by rw[List.length_set];exact hz) s.toks
 by_cases h0:0<=k
 ·have hk:k.toNat=j:=by rw[seqIndex_of h0 h4] at h1;exact Option.some.inj h1
  exact W.ki_setAt ho h0 (by omega) (by rw[List.size_toArray,<- hl];exact h4) (by rw[hk];exact⟨_,I',q⟩)
 ·have hk:(k+(its.toArray.size:Int)).toNat=j:=by rw[seqIndex_neg (by omega) h3] at h1;rw[List.size_toArray,<- hl];exact Option.some.inj h1
  exact W.ki_setBack ho (by omega) (by rw[List.size_toArray,<- hl];exact h3) (by omega) (by rw[hk];exact⟨_,I',q⟩)
theorem qo(lo hi:Option Int)(n:Nat):(sliceBounds lo hi none n).1=((HT.sIx n 0 lo:Nat):Int)/\(sliceBounds lo hi none n).2.1=((HT.sIx n n hi:Nat):Int)/\(sliceBounds lo hi none n).2.2=1:=by
 refine⟨?_,?_,rfl⟩
 ·cases lo with
  | none=>simp[sliceBounds,HT.sIx]
  | some i =>
   simp only[sliceBounds,HT.sIx,Option.getD_none,show(1:Int) > 0 by decide,if_true]
   by_cases h:i<0
   ·simp only[h,if_true]<;>omega
   ·simp only[h,if_false]<;>omega
 ·cases hi with
  | none=>simp[sliceBounds,HT.sIx]
  | some i =>
   simp only[sliceBounds,HT.sIx,Option.getD_none,show(1:Int) > 0 by decide,if_true]
   by_cases h:i<0
   ·simp only[h,if_true]<;>omega
   ·simp only[h,if_false]<;>omega
theorem oh(its:List Value)(lo hi:Option Int):slicePick its.toArray lo hi none=((its.drop (HT.sIx its.length 0 lo)).take (HT.sIx its.length its.length hi-HT.sIx its.length 0 lo)).toArray:=by obtain⟨h1,h2,h3⟩:=qo lo hi its.toArray.size;unfold slicePick;rw[h1,h2,h3];simp only[sliceRange_one,pick_run,List.size_toArray]<;>rfl
def ai4(K:FG):V->Option Int->Option Int->Hp->VK->Prop:=λ x lo hi H Q=>∃ a xs,x=.ref a/\SqL K H a xs/\∀ p,H p=none->Q (.ref p) (upd H p (.lst (abi xs lo hi)))
theorem adK:SlR X (ai4 X.K):=by intro pins s σ H x v vl vu lo hi sl Q I rx hs pl pu h;obtain⟨a,xs,rfl,hx,q⟩:=h;cases rx;obtain⟨its,r,ht,hz⟩:=I.list hx;have hlen:=r.length;refine⟨"list",_,slot_list_getitem.lookup,ht.isList.typeIs,?_⟩;refine wpAny_getItem_list_slice ht.isList hs pl pu .none (by simp) ?_ (by rw[List.size_toArray]<;>omega);rw[oh,<- hlen];refine⟨.ref s.heap.objs.size,_,I.laid (t':=s.toks) (o:=.lst (abi xs lo hi)) (λ b ob q=>Heap.get?_push_of_some _ q) (Nat.le_refl _) ?_,rfl,q _ (I.hok.fresh (Nat.le_refl _))⟩;exact⟨Nat.le_trans (kH xs lo hi) hz,_,0,(r.drop (HT.sIx xs.length 0 lo)).take (HT.sIx xs.length xs.length hi-HT.sIx xs.length 0 lo),Heap.get?_push_size _ rfl⟩
def mE:V->Bool
 | .non=>true
 | .bl _=>true
 | .int _=>true
 | .str _=>true
 | _=>false
def eqV:V->V->Bool
 | .non,.non=>true
 | .bl a,.bl b=>a==b
 | .bl a,.int b=>(if a then 1 else 0)==b
 | .int a,.bl b=>a==(if b then 1 else 0)
 | .int a,.int b=>a==b
 | .str a,.str b=>a==b
 | _,_=>false
theorem afZ{A:Around}{s:Shared}{y x:V}{u v:Value}(ry:RelV y u)(rx:RelV x v)(fy:mE y=true)(fx:mE x=true):SeqAt.EqAt A s u v (eqV y x):=by
 cases y with
 | non =>
  cases ry;cases x with
  | non=>cases rx;exact SeqAt.EqAt.same _
  | bl b=>cases rx;exact SeqAt.EqAt.none_bool b
  | int b=>obtain⟨t,rfl⟩:=rx;exact SeqAt.EqAt.none_int b t
  | str b=>obtain⟨t,rfl⟩:=rx;exact SeqAt.EqAt.none_str b t
  | _=>exact absurd (show false=true from fx) Bool.false_ne_true
 | bl a =>
  cases ry;cases x with
  | non=>cases rx;exact SeqAt.EqAt.bool_none a
  | bl b=>cases rx;exact SeqAt.EqAt.bool_bool a b
  | int b=>obtain⟨t,rfl⟩:=rx;exact SeqAt.EqAt.bool_int a b t
  | str b=>obtain⟨t,rfl⟩:=rx;exact SeqAt.EqAt.bool_str a b t
  | _=>exact absurd (show false=true from fx) Bool.false_ne_true
 | int a =>
  obtain⟨t',rfl⟩:=ry;cases x with
  | non=>cases rx;exact SeqAt.EqAt.int_none a t'
  | bl b=>cases rx;exact SeqAt.EqAt.int_bool a t' b
  | int b=>obtain⟨t,rfl⟩:=rx;exact SeqAt.EqAt.int_int a t' b t
  | str b=>obtain⟨t,rfl⟩:=rx;exact SeqAt.EqAt.int_str a t' b t
  | _=>exact absurd (show false=true from fx) Bool.false_ne_true
 | str a =>
  obtain⟨t',rfl⟩:=ry;cases x with
  | non=>cases rx;exact SeqAt.EqAt.str_none a t'
  | bl b=>cases rx;exact SeqAt.EqAt.str_bool a t' b
  | int b=>obtain⟨t,rfl⟩:=rx;exact SeqAt.EqAt.str_int a t' b t
  | str b=>obtain⟨t,rfl⟩:=rx;exact SeqAt.EqAt.str_str a t' b t
  | _=>exact absurd (show false=true from fx) Bool.false_ne_true
 | _=>exact absurd (show false=true from fy) Bool.false_ne_true
def eqU(x:V)(u:Value):Bool:=match u with
 | .none=>eqV .non x
 | .bool b=>eqV (.bl b) x
 | .int i _=>eqV (.int i) x
 | .str z _=>eqV (.str z) x
 | _=>false
theorem abq{x y:V}{u:Value}(r:RelV y u)(f:mE y=true):eqU x u=eqV y x:=by
 cases y with
 | non=>cases r;rfl
 | bl b=>cases r;rfl
 | int i=>obtain⟨t,rfl⟩:=r;rfl
 | str z=>obtain⟨t,rfl⟩:=r;rfl
 | _=>exact absurd (show false=true from f) Bool.false_ne_true
theorem tu{x:V}:∀ {xs:List V} {us:List Value},Vals xs us->xs.all mE=true->us.any (eqU x)=xs.any λ y=>eqV y x
 | _,_,.nil,_=>rfl
 | y::xs,u::us,.cons r t,f=>by rw[List.all_cons,Bool.and_eq_true] at f;rw[List.any_cons,List.any_cons,abq r f.1,tu t f.2]
theorem nN{A:Around}{s:Shared}{x:V}{v:Value}(rx:RelV x v)(fx:mE x=true):∀ {xs:List V} {us:List Value},Vals xs us->xs.all mE=true->∀ u∈us,SeqAt.EqAt A s u v (eqU x u)
 | _,_,.nil,_=>λ u hu=>by cases hu
 | y::xs,u::us,.cons r t,f=>λ u' hu=>by
  rw[List.all_cons,Bool.and_eq_true] at f;rcases List.mem_cons.mp hu with rfl | hu
  ·rw[abq r f.1];exact afZ r rx f.1 fx
  ·exact nN rx fx t f.2 u' hu
def inV(x:V)(xs:List V):Bool:=xs.any λ y=>eqV y x
def rIn(K:FG)(neg:Bool):R2:=λ x y H Q=>∃ p xs,y=.ref p/\(SqL K H p xs\/SqT K H p xs)/\mE x=true/\xs.all mE=true/\Q (.bl (if neg then !inV x xs else inV x xs)) H
theorem rJ:OpR X (compareOp .In) (rIn X.K false):=by
 intro pins s σ H x y v u Q I rx ry h;obtain⟨p,xs,rfl,hq,fx,fs,q⟩:=h;cases ry;rcases hq with hq | hq
 ·obtain⟨its,r,pl,hz⟩:=I.list hq;refine SeqAt.in_listAt (eqU x) pl.isList (λ w hw=>nN rx fx r fs w (by simpa using hw)) ⟨.bl _,H,I,rfl,?_⟩;rw[show its.toArray.any (eqU x)=its.any (eqU x) by simp,tu r fs];exact q
 ·obtain⟨its,r,pl,hz⟩:=I.tuple hq;refine SeqAt.in_tupleAt (eqU x) pl (λ w hw=>nN rx fx r fs w (by simpa using hw)) ⟨.bl _,H,I,rfl,?_⟩;rw[show its.toArray.any (eqU x)=its.any (eqU x) by simp,tu r fs];exact q
theorem dW:eL X (.type "tuple") (λ xs H Q=>∃ p ys,xs=[.ref p]/\((SqL X.K H p ys/\∀ l,H l=none->Q (.ref l) (upd H l (.tup ys)))\/(SqT X.K H p ys/\Q (.ref p) H))):=by
 intro pins s σ H xs us Q I r h;obtain⟨p,ys,rfl,h⟩:=h;obtain⟨u,rfl,rx⟩:=vals1 r;cases rx;rcases h with ⟨hq,q⟩ | ⟨hq,q⟩
 ·obtain⟨its,r',pl,hz⟩:=I.list hq;have hlen:=r'.length;refine call_tuple_list pl.isList (λ h' kp=>?_) (by simp only[List.size_toArray]<;>omega);have I1:Inv X pins σ H {s with heap:=h'}:=I.kept (t':=s.toks) kp;have I2:Inv X pins σ (upd H h'.objs.size (.tup ys)) {s with heap:=h'.push {cls:=.type "tuple",data:=.seq its.toArray}}:=
   I1.laid (t':=s.toks) (λ b o e=>Heap.get?_push_of_some _ e) (Nat.le_refl _) (show cR X.prog X.w _ _ _ (.tup ys) from⟨hz,its,r',zw.new _ _⟩)
  exact⟨.ref h'.objs.size,_,I2,rfl,q _ (I1.hok.fresh (Nat.le_refl _))⟩
 ·obtain⟨its,r',pl,hz⟩:=I.tuple hq;exact call_tuple_same pl ⟨.ref p,H,I,rfl,q⟩
def tyV(K:FG)(T:String)(x:V)(H:Hp):Prop:=match x with
 | .str _=>T = "str"
 | .int _=>T = "int"
 | .ref p=>(T = "list" /\ ∃ xs,SqL K H p xs)\/(T = "tuple" /\ ∃ xs,SqT K H p xs) \/
   (T = "dict" /\ ((∃ kvs,H p=some (.dK kvs))\/∃ kvs,H p=some (.dT kvs)))\/(T = "set" /\ ∃ S n,H p=some (.set S n))
 | _=>False
theorem afz{pins:PN}{σ:St}{H:Hp}{s:Shared}{T:String}{x:V}{v:Value}(I:Inv X pins σ H s)(r:RelV x v)(ty:tyV X.K T x H) :
  s.TypeIs v T/\∀ a,v=.ref a->∃ ob,s.heap.get? a=some ob/\ob.dict=none:=by
 cases x with
 | str z =>
  obtain⟨t,rfl⟩:=r;cases (show T = "str" from ty);exact⟨typeIs_str s z t,λ _ e=>nomatch e⟩
 | int i =>
  obtain⟨t,rfl⟩:=r;cases (show T = "int" from ty);exact⟨typeIs_int s i t,λ _ e=>nomatch e⟩
 | ref p =>
  cases r;rcases ty with ⟨rfl,xs,hq⟩ | ⟨rfl,xs,hq⟩ | ⟨rfl,hk⟩ | ⟨rfl,S,n,hk⟩
  ·obtain⟨its,_,pl,_⟩:=I.list hq;refine⟨pl.isList.typeIs,λ a e=>?_⟩;cases e;obtain⟨o,n,e,c,hd,_⟩:=pl;exact⟨o,e,hd⟩
  ·obtain⟨its,_,⟨o,h1,h2,h3,_⟩,_⟩:=I.aiL hq;refine⟨⟨o,h1,h2⟩,λ a e=>?_⟩;cases e;exact⟨o,h1,h3⟩
  ·have z:∃ o,s.heap.get? p=some o/\o.ExactDict:=by
    rcases hk with ⟨kvs,hk⟩ | ⟨kvs,hk⟩
    ·obtain⟨_,_,_,_,o,_,_,e,ex,_⟩:=I.hok p _ hk;exact⟨o,e,ex⟩
    ·obtain⟨_,_,_,_,o,_,_,e,ex,_⟩:=I.hok p _ hk;exact⟨o,e,ex⟩
   obtain⟨o,e,ex⟩:=z;refine⟨⟨o,e,ex.1⟩,λ a e2=>?_⟩;cases e2;exact⟨o,e,ex.2.1⟩
  ·obtain⟨o,_,_,_,e,ex,_⟩:=I.hok p _ hk;refine⟨⟨o,e,ex.1⟩,λ a e2=>?_⟩;cases e2;exact⟨o,e,ex.2.1⟩
 | _=>exact False.elim ty
def tBM(K:FG)(T:String)(r:V->List V->Hp->VK->Prop)(to:TE)(t:TA):TE:=λ σ H Q=>to σ H λ x H1=>tyV K T x H1/\t σ H1 λ xs H2=>r x xs H2 Q
variable {o e:Expr}{es:List Expr}{to:TE}{t:TA}{name:Str}{apos cpos:Pos}{T id:String}{r:V->List V->Hp->VK->Prop}
theorem sx(pa:PlainAttrs T)(slot:Slot T name id)(hty:typeOf (.builtin id)=pure (.type "method_descriptor"))(hm:MtR X id r)(ho:PE X o to)(ha:PA X (e::es) t)
  (hbase:attributeBase o name X.env (eval o X.env)=eval o X.env:=by rfl)
  (hfew:((backTo cpos (starEach (e::es) X.env)).all (λ x=>!x.1)&&(backToKw cpos (keywordEach [] X.env)).all (λ x=>x.1.isSome)
   && decide ((e::es).length+([]:List Keyword).length+(if ([]:List Keyword).isEmpty then 0 else 1)<30))=true:=by rfl)
  (hline:(apos.endLine==cpos.line)=true:=by rfl)(hs:starEach (e::es) X.env=(false,eval e X.env)::starEach es X.env:=by rfl)(hplain:(backTo cpos (starEach es X.env)).any (·.1)=false:=by rfl) :
  PE X (.Call (.Attribute o name apos) (e::es) [] cpos) (tBM X.K T r to t):=by
 intro pins s σ H Q I h;refine wpAny_Call_method_late hbase hfew hline rfl (thn (ho pins s σ H _ I h) λ v s1 hq26=>?_);obtain⟨x,H1,I1,r1,ty,q1⟩:=hq26;obtain⟨h1,h2⟩:=afz I1 r1 ty;refine⟨T,id,pa,slot,hty,h1,h2,?_⟩;have hA:=ha cpos pins s1 σ H1 _ I1 q1;rw[hs] at hA ⊢;refine Calls.callWith_builtin (by show(false || (backTo cpos (starEach es X.env)).any (·.1))=false;rw[hplain]<;>rfl) (Calls.evalArgs_plain ?_);exact thn hA λ us s2 ⟨vs,H2,I2,r2,q2⟩=>hm pins s2 σ H2 x vs v us Q I2 r1 r2 q2
end
def MtM(X:Cx)(id:String)(r:V->List V->Hp->VK->Prop):Prop:=
 ∀ (pins:PN) (s:Shared) (σ:St) (H:Hp) (x:V) (xs:List V) (v:Value) (us:List Value) (Q:VK),Inv X pins σ H s->RelV x v->Vals xs us->r x xs H Q ->
  wpAny (model X.prog X.w) X.A (call (.builtin id) (v::us)) (EP X pins σ Q) X.xe s
theorem Vals.one:∀ {x:V} {us:List Value},Vals [x] us->∃ u,us=[u]/\RelV x u
 | _,_,.cons r .nil=>⟨_,rfl,r⟩
section
variable {X:Cx}{pins:PN}{σ:St}{H:Hp}{s:Shared}{l b:Addr}{xs ys zs:List V}
theorem Inv.ajk{its its':List Value}{n:Nat}{f:Array Value->Array Value}{t':Nat}(I:Inv X pins σ H s)(hH:H l=some (.lst xs))
  (e:s.heap.get? l=some {cls:=.type "list",data:=.seq its.toArray n})(hf:f its.toArray=its'.toArray)(hv:Vals ys its')(hz:ys.length<=sizeLine) :
  Inv X pins σ (upd H l (.lst ys)) {s with heap:=s.heap.update l (Obj.mapSeq f),toks:=t'}:=by
 have q:=PySem.IsL.update e f;rw[hf] at q;refine I.write (x:=l) (e:=l) (by rw[hH];exact trivial) (.inl rfl) (λ b' u hb hu=>(Heap.get?_update_other s.heap (Obj.mapSeq f) (Ne.symm hb)).trans hu) ⟨_,q⟩ ?_;exact⟨hz,its',_,hv,q⟩
theorem Inv.ajE{its:List Value}{t':Nat}(I:Inv X pins σ H s)(hv:Vals ys its)(hz:ys.length<=sizeLine) :
  Inv X pins σ (upd H s.heap.objs.size (.lst ys)) {s with heap:=s.heap.push {cls:=.type "list",data:=.seq its.toArray},toks:=t'}:=
 I.laid (λ _ _ q=>Heap.get?_push_of_some _ q) (Nat.le_refl _) ⟨hz,its,0,hv,Heap.get?_push_size _ rfl⟩
theorem Inv.fresh(I:Inv X pins σ H s):H s.heap.objs.size=none:=I.hok.fresh (Nat.le_refl _)
theorem Inv.ajb(I:Inv X pins σ H s)(hH:H l=some (.lst xs)):xs.length<=sizeLine/\∃ (its:List Value) (n:Nat),Vals xs its/\xs.length=its.length/\s.heap.get? l=some {cls:=.type "list",data:=.seq its.toArray n}:=by obtain⟨z,its,n,r,e⟩:=I.hok l _ hH;exact⟨z,its,n,r,r.length,e⟩
end
section
variable {X:Cx}
def acd:V->List V->Hp->VK->Prop:=λ x vs H Q=>∃ l xs y,x=.ref l/\vs=[y]/\H l=some (.lst xs)/\xs.length<sizeLine/\Q .non (upd H l (.lst (xs++[y])))
theorem wR:MtM X "list.append" acd:=by intro pins s σ H x vs v us Q I rx rv h;obtain⟨l,xs,y,rfl,rfl,hH,hz,q⟩:=h;cases rx;obtain⟨u,rfl,ru⟩:=rv.one;obtain⟨z,its,n,r,hl,e⟩:=I.ajb hH;refine call_meets F.slot_list_append ⟨_,e,rfl⟩ F.entry_list_append (F.args_list_append_2 _ _) (PySem.list_append l its.toArray n u (by rw[List.size_toArray];omega)) ⟨e,?_⟩;refine⟨.non,_,I.ajk (its':=its++[u]) hH e (by simp) (r.append (.cons ru .nil)) ?_,rfl,q⟩;rw[List.length_append,List.length_singleton];omega
end
section
variable {prog:Program}{w:World}{A:Around}{E:VP}{s:Shared}
end
section
variable {X:Cx}
end
end L2
namespace Att
open PySem PySem.W PySem.Calls PyProof.Rows
theorem lT{P:Params}{h:Heap}:∀ (ns:List Int) (vs:List Value),WellAll P h vs (ns.map WData.int)->IntsAre vs ns:=by
 intro ns
 induction ns with
 | nil =>
  intro vs w;rw[List.map_nil] at w;cases w;exact .nil
 | cons n ns ih =>
  intro vs w;rw[List.map_cons] at w;cases w with
  | cons a b =>
   cases a;exact .cons _ _ (ih _ b)
theorem wx{l:OpenLaw}{n:Nat}(hn:l.most=some n){P:Params}{h:Heap}{args:List WData}{vals:List Value}
  (hpre:l.row.toRowW.claim.pre args=true)(hwl:WellAll P h vals args) :
  ∃ a vs ns,vals=[Value.ref a]/\args=[WData.list (ns.map WData.int)]/\h.get? a=some {cls:=.type "list",data:=.seq vs.toArray}/\IntsAre vs ns/\ns.length<=n:=by
 have hsh:WShape.hasAll [] args [.list .int]=true:=(pre_splitW hpre).1;have hc:l.pre.holds [] {args:=args}=true:=(pre_splitW hpre).2;obtain⟨d,r,rfl,h1,h2⟩:=hasAllW_cons hsh;obtain rfl:=hasAllW_nil h2;obtain⟨xs,rfl,h3⟩:=hasW_list h1;obtain⟨ns,rfl⟩:=items_int h3;have hlen:ns.length<=n:=by
  unfold OpenLaw.pre at hc;have h4:(WTm.not (.lt (.lit (.int (n:Int))) (.len (.arg 0)))).holds [] {args:=[.list (ns.map .int)]}=true:=by have h4:=(holds_andW hc).1;rw[hn] at h4;exact h4
  have h5:=condW_of h4 (w_not (w_lt w_lit (w_len_list (w_arg rfl))));rw[List.length_map] at h5;refine Nat.le_of_not_lt λ q=>?_;have q':(n:Int)<((ns.length:Nat):Int):=by omega
  first
   | (rw[decide_eq_true q'] at h5;exact absurd h5 (by decide))
   | (simp at h5;omega)
 cases hwl with
 | cons w1 w2 =>
  cases w2;cases w1 with
  | list ho hall=>exact⟨_,_,ns,rfl,rfl,ho,lT ns _ hall,hlen⟩
theorem yk(l:OpenLaw)(args:List WData):l.row.toRowW.claim.post args (.bool true) args=true:=
 postW_of (r:=l.row.toRowW) (X:=(true==true))
  (show WShape.has [] (.bool true) .bool=true by first | rfl | decide | simp[WShape.has,WShape.arms,WShape.armsAll])
  (show(WTm.eq .res (.lit (.bool true))).value [] {args:=args,res:=some (.bool true),after:=args}=some (.bool (true==true)) from w_eq_bool (w_res rfl) w_lit) rfl
theorem sr{l:OpenLaw}{n:Nat}{q:Program}{loose:List Str}{XP:(Str->Option Value)->Heap->Prop}{YP:World->Heap->Prop}{d:DefRec}
  (hn:l.most=some n)(hdf:d.params.defaults=[])
  (call:∀ (w:World) (s₀ s₁:Shared) (mg mb:Str->Option Value) (fa:Addr) (o:Obj) (pm cd doc:Value) (a:Addr) (vs:List Value) (ns:List Int),
   Ground q loose [] XP w s₀ mg mb s₁.heap->YP w s₁.heap ->
   s₁.heap.get? fa=some o->o.data=.func (docDef d.name d.params d.body d.scope pm cd doc)->s₁.heap.CodeRec cd d.name->mg d.name=some (.ref fa) ->
   s₁.heap.get? a=some {cls:=.type "list",data:=.seq vs.toArray}->IntsAre vs ns->ns.length<=n->s₁.gens = #[] ->
   codeAny (model l.prog w) callerA (.call (.ref fa) ⟨[.ref a],[]⟩) (λ r s'=>r=.ok (.ret (.bool true))/\OldK s₁.heap s'.heap/\s'.os=s₁.os/\AllBare s'.gens) s₁) :
  WalkO q loose XP YP l.row.toRowW d [] (λ f vs=>PySem.call f vs):=by
 intro w s₀ s₁ mg mb G Y fa o pm cd doc dV kV ho hd hcd hD hmg hg args vals as hpre hlay hrd hwl hlo;obtain rfl:dV=.none:=Dflts.none hD hdf;obtain rfl:kV=.none:=Dflts.noKw hD;obtain⟨a,vs,ns,rfl,rfl,hobj,hints,hlen⟩:=wx hn hpre hwl;refine enter_call (codeAny_mono (call w s₀ s₁ mg mb fa o pm cd doc a vs ns G Y ho (fd_plain hd) hcd hmg hobj hints hlen hg) λ r s' hq=>?_);obtain⟨rfl,h2,h3,h4⟩:=hq;exact⟨.inl ⟨.bool true,.bool true,[],rfl,λ _=>rfl,.bool true,yk l _,λ _=>⟨List.Pairwise.nil,λ _ hm=>(nomatch hm)⟩⟩,h2,h3,h4⟩
section
variable {prog:Program}{w:World}{A:Around}{E:VP}{s:Shared}{K:Frag}
end
end Att
namespace L2
theorem qQ:∀ {vs:List Value} {ns:List Int},IntsAre vs ns->Vals (ns.map V.int) vs
 | _,_,.nil=>.nil
 | _,_,.cons n t h=>.cons ⟨t,rfl⟩ (qQ h)
def ag9(H:Hp):Prop:=∀ b,H b=none\/∃ o xs,H b=some (.frz o (.lst xs))
theorem aaO{P:Program}{w:World}{K:FG}{mg mb:Str->Option Value}{CX:CXT}{k:Nat}{fa a:Addr}{fd:FuncData}{x:Str}{sp:Sp}{s₁:Shared}{vs:List Value}{ns:List Int}
  (KX:K.In s₁.heap)(hns:s₁.heap.Ns mainGlobals mg)(hb:s₁.heap.Ns builtinsNs mb)(hbb:∀ x:Str,x ≠ "__name__" -> mb x=bootBuiltins x)(hlim:s₁.heap.NoLimit)(hbm:BM mg s₁.heap)(hg:s₁.gens = #[])
  (ha:s₁.heap.get? a=some {cls:=.type "list",data:=.seq vs.toArray})(hi:IntsAre vs ns)(hl:ns.length<=sizeLine)(hr:gm k callerA)
  (F:∀ base:Heap,K.In base->base.Ns mainGlobals mg->cU P w K mg base CX k fa fd [x] sp)(hbind:∀ (s:Shared) (u:Value),BindsTo s fd ⟨[u],[]⟩ [(x,u)])
  (hsp:∀ H:Hp,ag9 H->SqL K H a (ns.map V.int)->sp [.ref a] H (λ v _=>v=.bl true) λ _ _ _=>False)
  (hCX:∀ H e s',CX [] H s₁ (λ _ _ _=>False) e s'->False) :
  codeAny (model P w) callerA (.call (.ref fa) ⟨[.ref a],[]⟩) (λ r s'=>r=.ok (.ret (.bool true))/\OldK s₁.heap s'.heap/\s'.os=s₁.os/\AllBare s'.gens) s₁:=by
 have rv:=qQ hi;have lenV:=hi.length;have core:∀ H:Hp,ag9 H->SqL K H a (ns.map V.int)->HOk P w H s₁.heap->(∀ b,H b≠none->b=a)->(H a≠none->K.lookup a=none) ->
   codeAny (model P w) callerA (.call (.ref fa) ⟨[.ref a],[]⟩) (λ r s'=>r=.ok (.ret (.bool true))/\OldK s₁.heap s'.heap/\s'.os=s₁.os/\AllBare s'.gens) s₁:=by
  intro H hO hS hok hA hK;have base_of:∀ {b:Addr} {o:Obj},s₁.heap.get? b=some o->H b=none->(aaz s₁.heap H).get? b=some o:=λ e n=>aaj e n;have noA:∀ {b:Addr} {o:Obj} {es:Array DictEntry} {ep:Nat},s₁.heap.get? b=some o->o.data=.dict es ep->H b=none:=λ {b o es ep} e d=>by
   cases q:H b with
   | none=>rfl
   | some u =>
    have e':b=a:=hA b (by rw[q];simp);subst e';rw[ha] at e;cases e;have d':Data.seq vs.toArray _=Data.dict es ep:=d;cases d'
  have nsK:∀ {b:Addr} {m:Str->Option Value},s₁.heap.Ns b m->(aaz s₁.heap H).Ns b m:=λ {b m} ⟨o,es,ep,e,d,r⟩=>⟨o,es,ep,base_of e (noA e d),d,r⟩;have hKb:K.In (aaz s₁.heap H):=λ b o e=>base_of (KX b o e) (by
   cases q:H b with
   | none=>rfl
   | some u =>
    have e':b=a:=hA b (by rw[q];simp);subst e';rw[hK (by rw[q];simp)] at e;cases e)
  have hM:Mod K mg (aaz s₁.heap H):=⟨hKb,nsK hns,⟨mb,nsK hb,hbb⟩,let ⟨mc,h1,h2⟩:=hlim; ⟨mc,nsK h1,h2⟩,let ⟨⟨b,o,h1,h2,h3,h4,h5,h6⟩,mm,hmm⟩:=hbm; ⟨⟨b,o,h1,h2,base_of h3 (by cases q:H b with | none=>rfl | some u=>(have e':b=a:=hA b (by rw[q];simp);subst e';rw[ha] at h3;cases h3;cases h6)),h4,h5,h6⟩,mm,nsK hmm⟩⟩;have e0:ahj P w K mg (aaz s₁.heap H) callerA [] s₁ H:=⟨rfl,hM,λ b o e=>adg e,Nat.le_of_eq (wm _ _),trivial,λ b hb=>absurd (show b∈([]:List Addr) from hb) (by simp),hok,.of_eq hg⟩;refine codeAny_mono ((F _ hKb (nsK hns)).run callerA [] s₁ H ⟨[.ref a],[]⟩ [.ref a] [.ref a] _ _ hr e0 (hbind s₁ (.ref a)) (.cons rfl .nil) (hsp H hO hS)) λ r s' h=>?_;cases r with
  | error e=>exact(hCX H e s' h).elim
  | ok fl =>
   cases fl with
   | next=>exact False.elim h
   | brk=>exact False.elim h
   | cont=>exact False.elim h
   | ret u =>
    obtain⟨v,H',os,bare,un,hok',r',q⟩:=h;have q':v=.bl true:=q;subst q';obtain rfl:u=Value.bool true:=r';refine⟨rfl,OldK.of_keep λ b o e=>?_,os,bare⟩;cases q:H b with
    | none=>exact un.keep b o e q (by intro z;exact absurd (show b∈([]:List Addr) from z) (by simp)) (by simp)
    | some u =>
     rcases hO b with z | ⟨ob,xs,z⟩
     ·rw[q] at z;cases z
     ·have z2:=un.frzs b ob _ z;obtain⟨e1,_⟩:=hok b _ z;obtain⟨e2,_⟩:=hok' b _ z2;rw[e] at e1;cases e1;exact e2
 cases hk:K.lookup a with
 | some o =>
  have e:=KX a o hk;rw[ha] at e;cases e;refine core (λ _=>none) (λ _=>.inl rfl) (.inr ⟨_,vs.toArray,_,hk,rfl,rfl,rfl,by rw[List.size_toArray,lenV];exact hl,by simpa using rv⟩) (λ b u z=>by have z':(none:Option HO)=some u:=z;cases z') (λ b z=>absurd rfl z) λ z=>absurd rfl z
 | none =>
  refine core (λ b=>if b=a then some (.frz {cls:=.type "list",data:=.seq vs.toArray} (.lst (ns.map V.int))) else none) (λ b=>?_) (.inl (.inr ⟨{cls:=.type "list",data:=.seq vs.toArray},if_pos rfl⟩)) (λ b u z=>?_) (λ b z=>?_) λ _=>hk
  ·by_cases hb:b=a
   ·exact .inr ⟨_,_,if_pos hb⟩
   ·exact .inl (if_neg hb)
  ·by_cases hb:b=a
   ·have z':=(if_pos hb).symm.trans z;cases z';subst hb;exact⟨ha,by rw[List.length_map];exact hl,vs,_,rv,ha⟩
   ·have z':=(if_neg hb).symm.trans z;cases z'
  ·by_cases hb:b=a
   ·exact hb
   ·exact absurd (if_neg hb) z
theorem adH{l:W.OpenLaw}{n k:Nat}{q:Program}{loose:List Str}{XP:(Str->Option Value)->Heap->Prop}{YP:World->Heap->Prop}{d:DefRec}{K:Params->FG}{CX:World->CXT}{sp:World->Sp}{x:Str}
  (hq:importsNone q=true)(hn:l.most=some n)(hn2:n<=sizeLine)(hdf:d.params.defaults=[])(hr:gm k callerA)
  (hY:∀ (w:World) (h:Heap),YP w h->(K w.params).In h)
  (F:∀ (w:World) (mg:Str->Option Value) (fa:Addr) (h:Heap),(K w.params).In h->h.Ns mainGlobals mg->mg d.name=some (.ref fa) ->
   ∃ fd:FuncData,(∀ (s:Shared) (u:Value),BindsTo s fd ⟨[u],[]⟩ [(x,u)]) /\
    ∀ base:Heap,(K w.params).In base->base.Ns mainGlobals mg->cU l.prog w (K w.params) mg base (CX w) k fa fd [x] (sp w))
  (hsp:∀ (w:World) (H:Hp) (a:Addr) (ns:List Int),ns.length<=n->ag9 H->SqL (K w.params) H a (ns.map V.int)->sp w [.ref a] H (λ v _=>v=.bl true) λ _ _ _=>False)
  (hCX:∀ (w:World) (H:Hp) (s:Shared) (e:Value) (s':Shared),CX w [] H s (λ _ _ _=>False) e s'->False) :
  W.WalkO q loose XP YP l.row.toRowW d [] (λ f vs=>PySem.call f vs):=by
 refine Att.sr hn hdf λ w s₀ s₁ mg mb fa o pm cd doc a vs ns G Y ho hd hcd hmg hobj hints hlen hg=>?_;have KX:=hY w _ Y;obtain⟨fd,hb,hF⟩:=F w mg fa _ KX G.T.g hmg;exact aaO KX G.T.g G.T.b G.T.builtins G.T.nolimit (let ⟨bm,ob,b1,b2,b3,b4,b5,b6⟩:=G.T.bmain;let ⟨mm,hmm,_⟩:=(G.T.seer hq).mods; ⟨⟨bm,ob,b1,b2,b3,b4,b5,b6⟩,mm,hmm⟩) hg hobj hints (Nat.le_trans hlen hn2) hr hF hb (λ H hO hS=>hsp w H a ns hlen hO hS) λ H e s'=>hCX w H s₁ e s'
def cI(s:Stmt):Arguments:=match s with
 | .FunctionDef _ a _ _ _ _ _ _ _ _=>a
 | _=>{posonlyargs:=[],args:=[],vararg:=none,kwonlyargs:=[],kw_defaults:=[],kwarg:=none,defaults:=[]}
def bU(s:Stmt):List Stmt:=match s with
 | .FunctionDef _ _ b _ _ _ _ _ _ _=>b
 | _=>[]
def ao(s:Stmt):Scope:=match s with
 | .FunctionDef _ _ _ _ _ _ sc _ _ _=>sc
 | _=>{kind:=.function,names:=[],isGenerator:=false,isCoroutine:=false}
abbrev CX0:CXT:=λ _ _ _ _ _ _=>False
abbrev E0:XK:=λ _ _ _=>False
theorem agh{X:Cx}:Passes CX0 X E0:=λ _ _ _ _ _ _ _ h=>h.elim
structure Fun(K:FG)(x qual:Str)(st:Stmt)(f:Addr)(fd:FuncData):Prop where
 ex:∃ (oc:Value) (od:Option Addr) (kV doc pm:Value) (an:Option Addr) (cdv ct:Value) (osl:Array (Option Value)),
  fd=W.fnOf x qual (cI st) (bU st) (ao st) .none kV doc pm an cdv ct/\K.lookup f=some ⟨oc,od,.func fd,osl⟩/\W.codeIn K cdv qual=true
 kp:W.keepIn K (.ref f)=true
section
variable {P:Program}{w:World}{K:FG}{mg:Str->Option Value}{base:Heap}
theorem Fun.ok{x qual:Str}{st:Stmt}{f:Addr}{fd:FuncData}{N ps:List Str}{k:Nat}{sp:Sp}(F:Fun K x qual st f fd)(S:aQ N ps (ao st))(len:∀ vs H Q E,sp vs H Q E->vs.length=ps.length)
  (hbody:∀ (cdv:Value) (A:Around) (outer:List Env) (s:Shared) (H:Hp) (vs:List V) (Q:VK) (E:XK),gm k (A.deeper (envOfC qual (ao st) s.heap.objs.size f cdv))->sp vs H Q E ->
   ∃ t,PSs (rX CX0 P w K mg base N qual (ao st) f cdv A outer s H E).nox (bU st) t/\t {nx:=λ _ H'=>Q .non H',rt:=Q} (start N vs) H):cU P w K mg base CX0 (k+1) f fd ps sp:=by
 obtain⟨oc,od,kV,doc,pm,an,cdv,ct,osl,rfl,lk,hcd⟩:=F.ex;refine adz lk hcd S len λ A outer s H vs Q E hr hsp=>?_;obtain⟨t,h,q⟩:=hbody cdv A outer s H vs Q E hr hsp;exact⟨t,h.nox,q⟩
theorem Fun.binds{x qual:Str}{st:Stmt}{f:Addr}{fd:FuncData}{ps:List Str}(F:Fun K x qual st f fd)
  (h:∀ (kV doc pm:Value) (an:Option Addr) (cdv ct:Value) (us:List Value),us.length=ps.length->bindArgs (W.fnOf x qual (cI st) (bU st) (ao st) .none kV doc pm an cdv ct) ⟨us,[]⟩=pure (ps.zip us)):Binds K fd ps []:=by
 obtain⟨oc,od,kV,doc,pm,an,cdv,ct,osl,rfl,lk,hcd⟩:=F.ex;exact .all (h kV doc pm an cdv ct)
theorem agp{x qual:Str}{st:Stmt}{f:Addr}{oc:Value}{od an:Option Addr}{osl:Array (Option Value)}{kV doc pm cdv ct:Value}(l:K.lookup f=some ⟨oc,od,.func (W.fnOf x qual (cI st) (bU st) (ao st) .none kV doc pm an cdv ct),osl⟩)
  (c:W.codeIn K cdv qual=true)(k:W.keepIn K (.ref f)=true):Fun K x qual st f (W.fnOf x qual (cI st) (bU st) (ao st) .none kV doc pm an cdv ct):=⟨⟨oc,od,kV,doc,pm,an,cdv,ct,osl,rfl,l,c⟩,k⟩
end
theorem aaN{A:Around}{k:Nat}(hr:gm k A):A.units+1<cLine:=Nat.lt_of_le_of_lt (Nat.add_le_add_left (by decide:1<=64) _) hr.units
section
variable {X:Cx}
end
theorem bR{A B:Prop}(h:B):if false=true then A else B:=by rw[if_neg Bool.false_ne_true];exact h
theorem dg{A B:Prop}(h:A):if true=true then A else B:=by rw[if_pos rfl];exact h
section
variable {κ:Type}[DecidableEq κ]
def mS(kvs:List (κ×V))(k:κ):Option V:=(kvs.find? λ kv=>decide (kv.1=k)).map (·.2)
def putK(kvs:List (κ×V))(k:κ)(v:V):List (κ×V):=
 if (kvs.any λ kv=>decide (kv.1=k))=true then kvs.map (λ kv=>if kv.1=k then (kv.1,v) else kv) else kvs++[(k,v)]
theorem iz{p:κ×V}{r:List (κ×V)}{k:κ}(e:p.1=k):mS (p::r) k=some p.2:=by simp[mS,List.find?_cons,e]
theorem jj{p:κ×V}{r:List (κ×V)}{k:κ}(e:¬ p.1=k):mS (p::r) k=mS r k:=by simp[mS,List.find?_cons,e]
theorem oW(k:κ):∀ kvs:List (κ×V),(kvs.any λ kv=>decide (kv.1=k))=(mS kvs k).isSome
 | []=>rfl
 | p::r=>by
  rw[List.any_cons]
  by_cases e:p.1=k
  ·simp only[iz e,decide_eq_true e,Bool.true_or,Option.isSome_some]
  ·rw[jj e,decide_eq_false e,Bool.false_or];exact oW k r
theorem sO(kvs:List (κ×V))(k:κ)(v:V):(putK kvs k v).length<=kvs.length+1:=by
 unfold putK
 split
 ·rw[List.length_map];omega
 ·rw[List.length_append,List.length_cons,List.length_nil];omega
theorem abc{kvs:List (κ×V)}{k:κ}(v:V)(h:mS kvs k=none):putK kvs k v=kvs++[(k,v)]:=by
 unfold putK;rw[oW,h];exact if_neg (by decide)
theorem vw.xC{o:Option V}{u:Option Value}(r:vw o u):o.isSome=u.isSome:=by
 cases o with
 | none=>cases u with
  | none=>rfl
  | some _=>exact(show False from r).elim
 | some _=>cases u with
  | none=>exact(show False from r).elim
  | some _=>rfl
theorem vw.getD{o:Option V}{u:Option Value}{d:V}{d':Value}(r:vw o u)(rd:RelV d d'):RelV (o.getD d) (u.getD d'):=by
 cases o with
 | none=>cases u with
  | none=>exact rd
  | some _=>exact(show False from r).elim
 | some _=>cases u with
  | none=>exact(show False from r).elim
  | some _=>exact r
theorem KV.val{kvs:List (κ×V)}{vs:List (κ×Value)}(r:KV kvs vs)(k:κ):vw (mS kvs k) (valueAt vs k):=by
 unfold KV at r
 induction r with
 | nil=>exact True.intro
 | @cons p q ps qs h t ih =>
  obtain⟨h1,h2⟩:=h
  by_cases e:p.1=k
  ·have e':q.1=k:=h1.symm.trans e;have b:valueAt (q::qs) k=some q.2:=by simp[valueAt,List.find?_cons,e']
   rw[iz e,b];exact h2
  ·have e':¬ q.1=k:=λ z=>e (h1.trans z);have b:valueAt (q::qs) k=valueAt qs k:=by simp[valueAt,List.find?_cons,e']
   rw[jj e,b];exact ih
theorem KV.any{kvs:List (κ×V)}{vs:List (κ×Value)}(r:KV kvs vs)(k:κ):(kvs.any λ kv=>decide (kv.1=k))=vs.any λ kv=>decide (kv.1=k):=by
 unfold KV at r
 induction r with
 | nil=>rfl
 | cons h t ih=>rw[List.any_cons,List.any_cons,ih,h.1]
theorem KV.ajC{kvs:List (κ×V)}{vs:List (κ×Value)}(r:KV kvs vs)(k:κ){y:V}{u:Value}(ry:RelV y u) :
  KV (kvs.map λ kv=>if kv.1=k then (kv.1,y) else kv) (vs.map λ kv=>if kv.1=k then (kv.1,u) else kv):=by
 unfold KV at r ⊢
 induction r with
 | nil=>exact .nil
 | @cons p q ps qs h t ih =>
  rw[List.map_cons,List.map_cons];refine .cons ?_ ih;obtain⟨h1,h2⟩:=h
  by_cases e:p.1=k
  ·rw[if_pos e,if_pos (h1.symm.trans e)];exact⟨h1,ry⟩
  ·rw[if_neg e,if_neg (λ z=>e (h1.trans z))];exact⟨h1,h2⟩
theorem KV.put{kvs:List (κ×V)}{vs:List (κ×Value)}(r:KV kvs vs)(k:κ){y:V}{u:Value}(ry:RelV y u):KV (putK kvs k y) (stored vs k u):=by
 unfold putK stored;rw[r.any k]
 by_cases e:(vs.any λ kv=>decide (kv.1=k))=true
 ·rw[if_pos e,if_pos e];exact r.ajC k ry
 ·rw[if_neg e,if_neg e];exact Paired.snoc r ⟨rfl,ry⟩
theorem KV.length{kvs:List (κ×V)}{vs:List (κ×Value)}(r:KV kvs vs):kvs.length=vs.length:=Paired.length r
end
theorem oI{P:Program}{w:World}{k:Key}{u:Value}(r:RelV (kV k) u):(a9 P w).is k u=true:=by
 cases k with
 | inl i=>obtain⟨t,e⟩:=(show ∃ t,u=Value.int i t from r);subst e;exact r9 P w i t
 | inr x=>obtain⟨t,e⟩:=(show ∃ t,u=Value.str x t from r);subst e;exact tP P w x t
theorem k6{P:Program}{w:World}:∀ {ks:List Key} {us:List Value},Vals (ks.map kV) us->ItemsAre (a9 P w) ks us
 | [],_,r=>by rw[List.map_nil] at r;cases r;exact .nil
 | k::ks,_,r=>by
  rw[List.map_cons] at r;cases r with
  | cons h t=>exact .cons (oI h) (k6 t)
abbrev KT(H:Hp):List (List Key×V)->List (List Key×Addr×Value)->Prop:=Paired λ p q=>p.1=q.1/\H q.2.1=some (.tup (p.1.map kV))/\RelV p.2 q.2.2
theorem KT.val{H:Hp}{kvs:List (List Key×V)}{xs:List (List Key×Addr×Value)}(r:KT H kvs xs)(k:List Key):vw (mS kvs k) ((atKey xs k).map (·.2)):=by
 induction r with
 | nil=>exact True.intro
 | @cons p q ps qs h t ih =>
  obtain⟨h1,_,h2⟩:=h
  by_cases e:p.1=k
  ·have e':q.1=k:=h1.symm.trans e;have b:atKey (q::qs) k=some q.2:=by simp[atKey,List.find?_cons,e']
   rw[iz e,b];exact h2
  ·have e':¬ q.1=k:=λ z=>e (h1.trans z);have b:atKey (q::qs) k=atKey qs k:=by simp[atKey,List.find?_cons,e']
   rw[jj e,b];exact ih
section
variable {P:Program}{w:World}{H:Hp}{h:Heap}{a:Addr}
theorem afk{u:HO}(ok:HOk P w H h)(e:Rd H a u):cR P w H h a u:=e.ok ok
theorem vH{kvs:List (Key×V)}(ok:HOk P w H h)(e:Rd H a (.dK kvs)):kvs.length<=sizeLine/\(a==sysModules)=false/\∃ vs,KV kvs vs/\h.DictOf (a9 P w) a vs:=
 show cR P w H h a (.dK kvs) from afk ok e
theorem adM{kvs:List (Key×V)}(ok:HOk P w H h)(e:H a=some (.dK kvs)):kvs.length<=sizeLine/\(a==sysModules)=false/\∃ vs,KV kvs vs/\h.DictOf (a9 P w) a vs:=vH ok (.inl e)
theorem aeV{ks:List Key}(ok:HOk P w H h)(e:H a=some (.tup (ks.map kV))):(tupleKind (a9 P w)).is h ks a:=by obtain⟨_,its,r,o,h1,h2,_,n,h3⟩:=(show cR P w H h a (.tup (ks.map kV)) from ok a _ e);exact⟨o,its.toArray,n,h1,h2,h3,by simpa using k6 r⟩
theorem aem{kvs:List (List Key×V)}(ok:HOk P w H h)(e:Rd H a (.dT kvs)):kvs.length<=sizeLine/\(a==sysModules)=false /\
  ∃ xs,KT H kvs xs/\h.DictOfH (tupleKind (a9 P w)) a xs:=by
 obtain⟨z,y,xs,r,o,es,ep,h1,h2,h3,h4,h5⟩:=(show cR P w H h a (.dT kvs) from afk ok e);refine⟨z,y,xs,r,o,es,ep,h1,h2,h3,h4,λ x hx=>?_,h5⟩;have all:∀ {l:List (List Key×V)} {m:List (List Key×Addr×Value)},KT H l m->∀ x∈m,(tupleKind (a9 P w)).is h x.1 x.2.1:=by
  intro l m q
  induction q with
  | nil=>intro x hx;exact nomatch hx
  | @cons p q ps qs hq t ih =>
   intro x hx;rcases List.mem_cons.mp hx with e | hx
   ·subst e;exact aeV ok (by rw[<- hq.1];exact hq.2.1)
   ·exact ih x hx
 exact all r x hx
end
section
variable {X:Cx}{pins:PN}{σ:St}{H:Hp}{s:Shared}{a:Addr}{y v:V}{u r:Value}{o:Option V}{A:Around}{E:VP}
theorem Inv.big(I:Inv X pins σ H s):sysModules<s.heap.objs.size:=by have h:mainGlobals<s.heap.objs.size:=(I.mod.glob.keeps I.bk).lt;exact Nat.lt_trans (by decide) h
theorem x6{h':Heap}{t':Nat}{ob:HO}(I:Inv X pins σ H s)(mu:Mut (H a))(hs:Heap.SameBut a s.heap h')(he:∃ q,h'.get? a=some q)(new:cR X.prog X.w (upd H a ob) h' a ob) :
  Inv X pins σ (upd H a ob) {s with heap:=h',toks:=t'}:=
 I.write (x:=a) (e:=a) mu (.inl rfl) (λ b q hb z=>(hs.2 b hb).trans z) he new
theorem abl{P:Program}{w:World}{H':Hp}{h':Heap}{kvs:List (Key×V)}{vs:List (Key×Value)}(z:kvs.length<=sizeLine)(hd:(a==sysModules)=false)(rel:KV kvs vs)(dd:h'.DictOf (a9 P w) a vs) :
  cR P w H' h' a (.dK kvs):=⟨z,hd,vs,rel,dd⟩
end
section
variable {X:Cx}{pins:PN}{σ:St}{H:Hp}{s:Shared}{a:Addr}{kvs:List (Key×V)}{k:Key}{u:Value}{A:Around}{E:VP}
end
def acj(i:Expr):Prop:=∀ ov iv,subscripted i false ov iv=operate [ov,iv] (getItem ov iv)
theorem zq{prog:Program}{w:World}{A:Around}{E:VP}{s:Shared}{env:Env}{value slice:Expr}{pos:Pos}{T id:String}{Q:VP}
  (hl:typeLookup (.type T) "__getitem__" = pure (some (.builtin id)))(hs:acj slice)
  (h:wpAny (model prog w) A (eval value env) (λ o s₁=>wpAny (model prog w) A (eval slice env) (λ i s₂=>s₂.TypeIs o T/\wpAny (model prog w) A (getItem o i) Q E s₂) E s₁) E s) :
  wpAny (model prog w) A (eval (.Subscript value slice pos) env) Q E s:=by
 refine Subscript_ (wpAny_mono h (λ o s₁ h₁=>wpAny_mono h₁ (λ i s₂ h₂=>?_) λ _ _ x=>x) λ _ _ x=>x);obtain⟨hT,h₂⟩:=h₂;unfold subscriptTail;refine wpAny_bind ?_;rw[getitemInPython_of_ne hT.not_modules];refine wpAny_bind (wpAny_specialOf hT hl ?_);have fin:wpAny (model prog w) A (subscripted slice false o i) (λ r s₃=>wpAny (model prog w) A (letTemporaryGo value o r >>= λ _=>pure r) Q E s₃) E s₂:=by rw[hs o i];exact wpAny_operating (wpAny_mono h₂ (λ r s₃ h₃=>wpAny_bind (wpAny_letTemporaryGo (wpAny_pure h₃))) λ _ _ x=>x)
 first
  | exact wpAny_pure (wpAny_bind fin)
  | exact wpAny_bind (wpAny_pure (wpAny_bind fin))
  | exact wpAny_bind fin
section
variable {X:Cx}{o i e value:Expr}{pos pos' tpos:Pos}{td ty tv:TE}
end
theorem ux{P:Program}{w:World}{H:Hp}(h:Heap)(hb:sysModules<h.objs.size):cR P w H (h.push {cls:=.type "dict",data:=.dict #[]}) h.objs.size (.dK []):=
 ⟨Nat.zero_le _,beq_eq_false_iff_ne.mpr (Ne.symm (Nat.ne_of_lt hb)),[],.nil,Heap.DictOf.new h⟩
def aft:TE:=λ _ H Q=>∀ p,H p=none->Q (.ref p) (upd H p (.dK []))
section
variable {X:Cx}{pos:Pos}
theorem aa2:PE X (.Dict [] [] pos) aft:=λ pins s σ H Q I h =>
 wpAny_Dict_empty ⟨.ref s.heap.objs.size,_,I.laid (a:=s.heap.objs.size) (o:=.dK []) (t':=s.toks) (λ _ _ q=>Heap.get?_push_of_some _ q) (Nat.le_refl _) (ux s.heap I.big),rfl,h _ (I.hok.fresh (Nat.le_refl _))⟩
end
def t7:List (TE×TE)->St->Hp->(List (V×V)->Hp->Prop)->Prop
 | [],_,H,Q=>Q [] H
 | (tk,tv)::r,σ,H,Q=>tk σ H λ x H1=>tv σ H1 λ y H2=>t7 r σ H2 λ ps H3=>Q ((x,y)::ps) H3
abbrev VV:List (V×V)->List (Value×Value)->Prop:=Paired λ p q=>RelV p.1 q.1/\RelV p.2 q.2
def PPs(X:Cx)(pos:Pos)(keys:List (Option Expr))(values:List Expr)(trs:List (TE×TE)):Prop:=
 ∀ (pins:PN) (s:Shared) (σ:St) (H:Hp) (Q:List (V×V)->Hp->Prop),Inv X pins σ H s->t7 trs σ H Q ->
  wpAny (model X.prog X.w) X.A (evalPairs (pairTrees keys values X.env pos)) (λ vs s'=>∃ ps H',Inv X pins σ H' s'/\VV ps vs/\Q ps H') X.xe s
theorem ads{X:Cx}{pos:Pos}:PPs X pos [] [] []:=λ pins s σ H Q I h=>pairTrees_nil_walk ⟨[],H,I,.nil,h⟩
theorem zB{X:Cx}{pos:Pos}{k v:Expr}{ks:List (Option Expr)}{vs:List Expr}{tk tv:TE}{trs:List (TE×TE)}(hk:PE X k tk)(hv:PE X v tv)(hr:PPs X pos ks vs trs) :
  PPs X pos (some k::ks) (v::vs) ((tk,tv)::trs):=λ pins s σ H Q I h =>
 pairTrees_cons_walk (thn (hk pins s σ H _ I h) λ u s1 ⟨x,H1,I1,rx,q1⟩=>thn (hv pins s1 σ H1 _ I1 q1) λ w2 s2 ⟨y,H2,I2,ry,q2⟩ =>
  thn (hr pins s2 σ H2 _ I2 q2) λ ws s3 ⟨ps,H3,I3,rel,q3⟩=>⟨(x,y)::ps,H3,I3,.cons ⟨rx,ry⟩ rel,q3⟩)
def gb(kvs more:List (Key×V)):List (Key×V):=more.foldl (λ acc kv=>putK acc kv.1 kv.2) kvs
theorem KV.merge:∀ {more:List (Key×V)} {rs:List (Key×Value)} {kvs:List (Key×V)} {vs:List (Key×Value)},KV more rs->KV kvs vs->KV (gb kvs more) (merged vs rs):=by
 intro more rs kvs vs r;unfold KV at r
 induction r generalizing kvs vs with
 | nil=>intro q;exact q
 | @cons p q ps qs h t ih =>
  intro r0;have e:KV (putK kvs p.1 p.2) (stored vs q.1 q.2):=by have:=r0.put p.1 h.2;rw[<- h.1];exact this
  exact ih e
theorem fK:∀ (more kvs:List (Key×V)),(gb kvs more).length<=kvs.length+more.length
 | [],kvs=>by show kvs.length<=kvs.length+0;omega
 | p::r,kvs=>by have h1:=fK r (putK kvs p.1 p.2);have h2:=sO kvs p.1 p.2;show(gb (putK kvs p.1 p.2) r).length<=_;rw[List.length_cons];omega
theorem nB{P:Program}{w:World}:∀ {kvs:List (Key×V)} {ws:List (Value×Value)},VV (kvs.map λ kv=>(kV kv.1,kv.2)) ws->∃ rs,Carries (a9 P w) ws rs/\KV kvs rs
 | [],_,r=>by rw[List.map_nil] at r;cases r;exact⟨[],True.intro,.nil⟩
 | p::kvs,_,r=>by
  rw[List.map_cons] at r;cases r with
  | @cons a b as bs h t =>
   obtain⟨rs,c,q⟩:=nB (P:=P) (w:=w) t;obtain⟨b1,b2⟩:=b;exact⟨(p.1,b2)::rs,⟨oI h.1,rfl,c⟩,.cons ⟨rfl,h.2⟩ q⟩
def aiA(trs:List (TE×TE)):TE:=λ σ H Q=>∀ p,H p=none->t7 trs σ (upd H p (.dK [])) λ ps H2=>H2 p=some (.dK [])/\∃ kvs:List (Key×V),ps=kvs.map (λ kv=>(kV kv.1,kv.2))/\kvs.length<=15/\Q (.ref p) (upd H2 p (.dK (gb [] kvs)))
theorem wN{X:Cx}{pos:Pos}{keys:List (Option Expr)}{values:List Expr}{trs:List (TE×TE)}(h:PPs X pos keys values trs)(hall:keys.all (·.isSome)=true)(hl:keys.length=values.length)(h0:keys≠[])
  (h15:keys.length<=15):PE X (.Dict keys values pos) (aiA trs):=by
 intro pins s σ H Q I q;have hn:=I.hok.fresh (Nat.le_refl s.heap.objs.size);have I1:=I.laid (a:=s.heap.objs.size) (o:=.dK []) (h':=s.heap.push {cls:=.type "dict",data:=.dict #[]}) (t':=s.toks) (λ _ _ q=>Heap.get?_push_of_some _ q) (Nat.le_refl _) (ux s.heap I.big);refine wpAny_Dict_walk (knd:=a9 X.prog X.w) hall hl h0 h15 (thn (h pins _ σ _ _ I1 (q _ hn)) λ ws s2 hq27=>?_);obtain⟨ps,H2,I2,rel,e,kvs,ep,lk,q2⟩:=hq27;subst ep;obtain⟨rs,c,rk⟩:=nB (P:=X.prog) (w:=X.w) rel;obtain⟨z,hd,vs0,r0,dd⟩:=adM I2.hok e;cases r0;refine⟨rs,c,dd,λ h' dd' hs=>⟨.ref s.heap.objs.size,_,?_,rfl,q2⟩⟩;have hz:(gb [] kvs).length<=sizeLine:=by have h1:=fK kvs [];rw[List.length_nil] at h1;rw[sizeLine_eq];omega
 have he:∃ q,h'.get? s.heap.objs.size=some q:=let ⟨q,_,_,hq,_⟩:=dd'; ⟨q,hq⟩;exact x6 I2 (by rw[e];exact True.intro) hs he (abl hz hd (rk.merge .nil) dd')
structure M1(X:Cx)(o:Expr)(m:Str)(apos:Pos)(e:Expr)(cpos:Pos):Prop where
 base:attributeBase o m X.env (eval o X.env)=eval o X.env
 few:((backTo cpos (starEach [e] X.env)).all (λ x=>!x.1)&&(backToKw cpos (keywordEach [] X.env)).all (λ x=>x.1.isSome)
  && decide (([e]:List Expr).length+([]:List Keyword).length+(if ([]:List Keyword).isEmpty then 0 else 1)<30))=true
 line:(apos.endLine==cpos.line)=true
 trees:backTo cpos (starEach [e] X.env)=[(false,eval e X.env)]
structure M2(X:Cx)(o:Expr)(m:Str)(apos:Pos)(e f:Expr)(cpos:Pos):Prop where
 base:attributeBase o m X.env (eval o X.env)=eval o X.env
 few:((backTo cpos (starEach [e,f] X.env)).all (λ x=>!x.1)&&(backToKw cpos (keywordEach [] X.env)).all (λ x=>x.1.isSome)
  && decide (([e,f]:List Expr).length+([]:List Keyword).length+(if ([]:List Keyword).isEmpty then 0 else 1)<30))=true
 line:(apos.endLine==cpos.line)=true
 trees:backTo cpos (starEach [e,f] X.env)=[(false,eval e X.env),(false,eval f X.env)]
def IsD(H:Hp)(a:Addr):Prop:=(∃ kvs,Rd H a (.dK kvs))\/∃ kvs,Rd H a (.dT kvs)
theorem abh{X:Cx}{pins:PN}{σ:St}{H:Hp}{s:Shared}{a:Addr}(I:Inv X pins σ H s)(d:IsD H a) :
  s.TypeIs (.ref a) "dict" /\ (∀ b,Value.ref a=.ref b->∃ ob,s.heap.get? b=some ob/\ob.dict=none)/\(a==sysModules)=false:=by
 rcases d with ⟨kvs,e⟩ | ⟨kvs,e⟩
 ·obtain⟨_,hd,vs,_,dd⟩:=vH I.hok e;refine⟨dd.typeIs,λ b q=>?_,hd⟩;cases q;obtain⟨ob,_,_,h1,h2,_⟩:=dd;exact⟨ob,h1,h2.2.1⟩
 ·obtain⟨_,hd,xs,_,dd⟩:=aem I.hok e;refine⟨dd.typeIs,λ b q=>?_,hd⟩;cases q;obtain⟨ob,_,_,h1,h2,_⟩:=dd;exact⟨ob,h1,h2.2.1⟩
section
variable {X:Cx}{pins:PN}{σ:St}{H:Hp}{s:Shared}{a:Addr}{y d:V}{u r:Value}{o:Option V}{A:Around}{E:VP}
end
section
variable {X:Cx}{o e f:Expr}{apos cpos:Pos}{td ty tx:TE}
end
section
variable {X:Cx}{pins:PN}{σ:St}{H:Hp}{s:Shared}{a:Addr}{kvs:List (Key×V)}{A:Around}{E:VP}
end
section
variable {X:Cx}{pins:PN}{σ:St}{H:Hp}{s:Shared}{a:Addr}{y:V}{u:Value}{A:Around}{E:VP}
end
end L2
set_option maxHeartbeats 0
namespace L2
def Fz:HO->Prop
 | .lst _=>True
 | .dK _=>True
 | _=>False
theorem afM(e:H p=some u)(f:Fz u):Un fs ex H (upd H p (.frz o u)) h h where
 keep:=λ b ob q _ _ _=>q
 slot:=λ b ob q _ _ _=>⟨ob.slots,q⟩
 free:=λ b ob _ n _=>by rw[aO (Ne.symm (bo e n))];exact n
 there:=λ b ob q _=>⟨ob,q⟩
 tups:=λ b xs q=>by
  have:b≠p:=λ z=>by subst z;rw[e] at q;cases q;exact f
  rw[aO this];exact q
 frzs:=λ b ob v q=>by
  have:b≠p:=λ z=>by subst z;rw[e] at q;cases q;exact f
  rw[aO this];exact q
 tbls:=λ b ps q=>by
  have:b≠p:=λ z=>by subst z;rw[e] at q;cases q;exact f
  exact⟨#[],by rw[aO this,q];simp⟩
theorem cR.ajh(f:Fz u)(x:cR P w H h a u):cR P w H' h a u:=by
 cases u with
 | lst xs=>exact x
 | dK kvs=>exact x
 | _=>exact f.elim
theorem cR.obj(f:Fz u)(x:cR P w H h a u):∃ o,h.get? a=some o:=by
 cases u with
 | lst xs=>obtain⟨_,_,_,_,e⟩:=x;exact⟨_,e⟩
 | dK kvs=>obtain⟨_,_,_,_,o,_,_,e,_⟩:=x;exact⟨o,e⟩
 | _=>exact f.elim
theorem Inv.freeze(I:Inv X pins σ H s)(e:H p=some u)(f:Fz u):∃ o,Inv X pins σ (upd H p (.frz o u)) s:=by
 obtain⟨o,ho⟩:=(I.hok p u e).obj f;refine⟨o,I.un (h':=s.heap) (t':=s.toks) (afM e f) λ b v q=>?_⟩
 by_cases hb:b=p
 ·subst hb;rw[aP] at q;cases q;exact⟨ho,(I.hok b u e).ajh f⟩
 ·rw[aO hb] at q;refine(I.hok b v q).vA (λ _ _ _ q=>q) (λ c r=>?_) λ c xs r=>?_
  ·have:c≠p:=λ z=>by subst z;rw[e] at r;cases r;exact f
   rw[aO this];exact r
  ·have:c≠p:=λ z=>by subst z;rw[e] at r;cases r;exact f
   rw[aO this];exact r
def ain(t:TE):TE:=λ σ H Q=>t σ H λ v H1=>∃ p u,v=.ref p/\H1 p=some u/\Fz u/\∀ o,Q v (upd H1 p (.frz o u))
theorem iD(h:PE X e t):PE X e (ain t):=by intro pins s σ H Q I hq;refine thn (h pins s σ H _ I hq) λ v s1 hq28=>?_;obtain⟨x,H1,I1,r1,p,u,e1,e2,f,q⟩:=hq28;obtain⟨o,I2⟩:=I1.freeze e2 f;exact⟨x,_,I2,r1,q o⟩
theorem Inv.ags(I:Inv X pins σ H s)(e:s.heap.get? D=some {cls:=.type "list",data:=.seq us.toArray n})(hn:H D=none)(hv:Vals ys us)(hz:ys.length<=sizeLine)
  (h0:X.s₀.heap.objs.size<=D)(hL:D≠X.env.locals)(hc:∀ x c,X.env.cells.lookup x=some c->c≠D)(hp:∀ p∈X.pn++pins,p.1≠D):Inv X pins σ (upd H D (.lst ys)) s:=by
 have ne:∀ b u,H b=some u->b≠D:=λ b u q=>bo q hn;refine I.step (h':=s.heap) (g':=s.gens) (d':=s.drawn) (t':=s.toks) (ch:=[D]) (λ b hb=>?_) (λ b o _ _ _ q _=>q) (λ b o _ _ _ q _=>⟨o.slots,q⟩) (λ b o hb q n=>?_) (λ b o _ q=>⟨o,q⟩)
  (λ b xs q=>by rw[aO (ne b _ q)];exact q) (λ b o u q=>by rw[aO (ne b _ q)];exact q) (λ b ps q=>⟨#[],by rw[aO (ne b _ q),q];simp⟩) (λ m hm=>hm) (λ b u q=>?_) I.bare
 ·have e:b=D:=by simpa using hb
  subst e;exact⟨.inr h0,hL,hc,hp⟩
 ·rw[aO (λ z=>hb (by simp[z]))];exact n
 ·by_cases hb:b=D
  ·subst hb;rw[aP] at q;cases q;exact⟨hz,us,n,hv,e⟩
  ·rw[aO hb] at q;exact(I.hok b u q).vA (λ _ _ _ q=>q) (λ c r=>by rw[aO (ne c _ r)];exact r) λ c xs r=>by rw[aO (ne c _ r)];exact r
abbrev tq(ifs:List Expr)(env:Env):Sem Bool:=forIn ifs true λ c r=>if r=true then do let ok <- isTrue c env (eval c env);pure (ForInStep.yield ok) else pure (ForInStep.yield r)
theorem pN(I:Nat->Shared->Prop)
  (turn:∀ n s,I n s->wpAny (model prog w) A (pyNext it) (λ r s₁=>match r with
   | none=>R (.ok .next) s₁
   | some v=>wpAny (model prog w) A (letOwnedTupleGo target it v) (λ _ s₁'=>wpAny (model prog w) A (assign target env v) (λ _ s₂ =>
     wpAny (model prog w) A (tq ifs env) (λ ok s₃ =>
      if ok=true then wpAny (model prog w) A (eval elt env) (λ x s₄ =>
       wpAny (model prog w) A (call (.builtin "list.append") [acc,x]) (λ _ s₅=>∃ m,m<n/\I m s₅) (λ _ _=>False) s₄) (λ _ _=>False) s₃
      else ∃ m,m<n/\I m s₃) (λ _ _=>False) s₂) (λ _ _=>False) s₁') (λ _ _=>False) s₁) (λ _ _=>False) s)
  (n:Nat)(h:I n s) :
  codeAny (model prog w) A (.compLoop (.ListComp elt [⟨target,iter,ifs,0⟩] scope pos) 0 it acc env) R s:=by
 refine codeAny_loop rfl I (λ n s hI=>?_) n h;show wpAny _ A ((compTurn (.ListComp elt [⟨target,iter,ifs,0⟩] scope pos) 0 it acc env).onRaise (λ x=>do noteFrame x env;theTreesLotGoes x)) _ _ s;refine wpAny_noted ?_;rw[compTurn_list];refine wpAny_bind (wpAny_standAt (wpAny_bind (wpAny_mono (turn n s hI) (λ r s₁ h₁=>?_) λ _ _ h'=>h'.elim)));cases r with
 | none=>exact wpAny_pure h₁
 | some v =>
  refine wpAny_bind (wpAny_mono h₁ (λ _ s₁' h₁'=>?_) λ _ _ h'=>h'.elim);refine wpAny_bind (wpAny_mono h₁' (λ _ s₂ h₂=>wpAny_bind (wpAny_mono h₂ (λ ok s₃ h₃=>?_) λ _ _ h'=>h'.elim)) λ _ _ h'=>h'.elim);cases ok with
  | false=>exact wpAny_pure ⟨rfl,h₃⟩
  | true =>
   exact wpAny_bind (wpAny_bind (wpAny_mono h₃ (λ x s₄ h₄=>wpAny_bind (wpAny_mono h₄ (λ _ s₅ h₅=>wpAny_pure (wpAny_pure ⟨rfl,h₅⟩)) λ _ _ h'=>h'.elim)) λ _ _ h'=>h'.elim))
theorem pZ(h:∀ x∈scope.names,x.2=.free->∃ c,env.cells.lookup x.1=some c) :
  ∃ cl,closureFor scope env=pure cl/\(∀ n c,cl.lookup n=some c->env.cells.lookup n=some c)/\(∀ n,(n,NameKind.free)∈scope.names->∃ c,cl.lookup n=some c):=by
 have key:∀ (l:List (Str×NameKind)) (cs:List (Str×Addr)),(∀ x∈l,x.2=.free->∃ c,env.cells.lookup x.1=some c)->(∀ n c,cs.lookup n=some c->env.cells.lookup n=some c) ->
   ∃ cl:List (Str×Addr),(forIn l cs λ x r=>match x with
    | (name,kind)=>if (kind==NameKind.free)=true then do let a <- cellOf env name;pure (ForInStep.yield ((name,a)::r)) else pure (ForInStep.yield r):Sem (List (Str×Addr)))=pure cl /\
    (∀ n c,cl.lookup n=some c->env.cells.lookup n=some c)/\(∀ n c,cs.lookup n=some c->∃ c,cl.lookup n=some c)/\(∀ n,(n,NameKind.free)∈l->∃ c,cl.lookup n=some c):=by
  intro l
  induction l with
  | nil=>intro cs _ hc;exact⟨cs,rfl,hc,λ n c e=>⟨c,e⟩,λ n hn=>nomatch hn⟩
  | cons x l ih =>
   intro cs hl hc;obtain⟨name,kind⟩:=x
   by_cases hk:kind=.free
   ·subst hk;obtain⟨c,e⟩:=hl (name,.free) List.mem_cons_self rfl;obtain⟨cl,h1,h2,h3,h4⟩:=ih ((name,c)::cs) (λ y hy=>hl y (List.mem_cons_of_mem _ hy)) (λ n d q=>by
     rw[List.lookup_cons] at q;cases hb:n==name with
     | true =>
      rw[hb] at q;cases q;rw[eq_of_beq hb];exact e
     | false =>
      rw[hb] at q;exact hc n d q)
    refine⟨cl,?_,h2,λ n d q=>?_,λ n hn=>?_⟩
    ·rw[List.forIn_cons];simp only[beq_self_eq_true,if_true,cellOf,e,pure_bind];exact h1
    ·cases hb:n==name with
     | true=>exact h3 n c (by rw[List.lookup_cons,hb])
     | false=>exact h3 n d (by rw[List.lookup_cons,hb];exact q)
    ·rcases List.mem_cons.mp hn with z | z
     ·cases z;exact h3 name c (by rw[List.lookup_cons];simp)
     ·exact h4 n z
   ·obtain⟨cl,h1,h2,h3,h4⟩:=ih cs (λ y hy=>hl y (List.mem_cons_of_mem _ hy)) hc;refine⟨cl,?_,h2,h3,λ n hn=>?_⟩
    ·rw[List.forIn_cons];have:(kind==NameKind.free)=false:=by simpa using hk
     simp only[this,Bool.false_eq_true,if_false,pure_bind];exact h1
    ·rcases List.mem_cons.mp hn with z | z
     ·cases z;exact absurd rfl hk
     ·exact h4 n z
 obtain⟨cl,h1,h2,_,h4⟩:=key scope.names [] h (λ n c e=>by simp at e);refine⟨cl,?_,h2,h4⟩;unfold closureFor;simp only[bind_pure];exact h1
theorem jS{sc:Scope}{env:Env}{x:Str}:∀ {names:List (Str×NameKind)},(names.map λ(n,k)=>if (k==NameKind.free&&env.scope.kind==.function&&env.kindOf n==some .cell) then (n,NameKind.cell) else (n,k)).lookup x=some .cell \/
  (names.map λ(n,k)=>if (k==NameKind.free&&env.scope.kind==.function&&env.kindOf n==some .cell) then (n,NameKind.cell) else (n,k)).lookup x=some .free->(∀ y∈names,y.2 ≠ .cell)->(x,NameKind.free)∈names
 | [],h,_=>by simp at h
 | (n,k)::r,h,hc=>by
  have ih:=@jS sc env x r
  by_cases hk:(k==NameKind.free&&env.scope.kind==.function&&env.kindOf n==some .cell)=true
  ·simp only[List.map_cons,if_pos hk,List.lookup_cons] at h;cases hx:x==n with
   | true =>
    have e:=eq_of_beq hx;subst e;simp only[Bool.and_eq_true] at hk;have:=eq_of_beq hk.1.1;subst this;exact List.mem_cons_self
   | false =>
    rw[hx] at h;exact List.mem_cons_of_mem _ (ih h λ y hy=>hc y (List.mem_cons_of_mem _ hy))
  ·simp only[List.map_cons,if_neg hk,List.lookup_cons] at h;cases hx:x==n with
   | true =>
    rw[hx] at h;have e:=eq_of_beq hx;subst e;rcases h with h | h
    ·cases h;exact absurd rfl (hc (x,.cell) List.mem_cons_self)
    ·cases h;exact List.mem_cons_self
   | false =>
    rw[hx] at h;exact List.mem_cons_of_mem _ (ih h λ y hy=>hc y (List.mem_cons_of_mem _ hy))
theorem eN{env:Env}{x:Str}:∀ {names:List (Str×NameKind)},names.lookup x=some .free ->
  (names.map λ(n,k)=>if (k==NameKind.free&&env.scope.kind==.function&&env.kindOf n==some .cell) then (n,NameKind.cell) else (n,k)).lookup x=some .cell \/
  (names.map λ(n,k)=>if (k==NameKind.free&&env.scope.kind==.function&&env.kindOf n==some .cell) then (n,NameKind.cell) else (n,k)).lookup x=some .free
 | [],h=>by simp at h
 | (n,k)::r,h=>by
  have ih:=@eN env x r
  by_cases hk:(k==NameKind.free&&env.scope.kind==.function&&env.kindOf n==some .cell)=true
  ·simp only[List.map_cons,if_pos hk,List.lookup_cons];cases hx:x==n with
   | true=>exact .inl rfl
   | false=>rw[List.lookup_cons,hx] at h;exact ih h
  ·simp only[List.map_cons,if_neg hk,List.lookup_cons];cases hx:x==n with
   | true=>rw[List.lookup_cons,hx] at h;exact .inr h
   | false=>rw[List.lookup_cons,hx] at h;exact ih h
def blk(X:Cx)(sc:Scope)(N':List Str)(cl:List (Str×Addr))(C:Addr)(s:Shared)(H:Hp)(ex:List Addr)(pins:PN):Cx:=
 {X with N:=N',s₀:=s,H₀:=H,env:=compEnvC sc cl C X.env,outer:=X.stack,ex:=ex,fn:=λ _=>false,pn:=X.pn++pins,xe:=λ _ _=>False}
def lcN(X:Cx)(own:List Str)(fr:List Nat):List Str:=own++fr.map λ j=>X.N.getD j Str.empty
def lcS(k:Nat)(fr:List Nat)(σ:St):St:=List.replicate k none++fr.map λ j=>(σ[j]?).getD none
def ahP(N:List Str)(sc:Scope)(fr:List Nat):Bool:=fr.all λ j=>match N[j]? with
 | some x=>sc.names.lookup x==some .free
 | none=>false
structure vZ(X:Cx)(sc:Scope)(own:List Str)(fr:List Nat):Prop where
 kind:sc.kind=.function
 cell:∀ y∈sc.names,y.2 ≠ .cell
 free:∀ y∈sc.names,y.2=.free->(X.env.kindOf y.1=some .cell\/X.env.kindOf y.1=some .free)
 names:∀ y∈sc.names,y.2=.local->sc.names.lookup y.1=some .local
 fr:ahP X.N sc fr=true
def PTs(X:Cx)(ifs:List Expr)(t:TT):Prop:=
 ∀ (pins:PN) (s:Shared) (σ:St) (H:Hp) (Q:Bool->Hp->Prop),Inv X pins σ H s->t σ H Q->wpAny (model X.prog X.w) X.A (tq ifs X.env) (TP X pins σ Q) X.xe s
def ajm:TT:=λ _ H Q=>Q true H
theorem acm:PTs X [] ajm:=λ _ _ _ H _ I h=>wpAny_tests_nil ⟨H,I,h⟩
theorem aat(h:ahP N sc fr=true)(hj:j∈fr):∃ x,N[j]? =some x/\sc.names.lookup x=some .free:=by
 have q:=List.all_eq_true.mp h j hj;cases e:N[j]? with
 | none=>simp[e] at q
 | some x =>
  simp only[e] at q;exact⟨x,rfl,eq_of_beq q⟩
theorem aeW(L:vZ X sc own fr)(I:Inv X pins σ H s)(hf:∀ b∈fp,sy X pins H b)(hb:∀ b∈fp,b<s.heap.objs.size)(hC:s.heap.objs.size<=C)
  (c1:∀ n c,cl.lookup n=some c->X.env.cells.lookup n=some c)(c2:∀ n,(n,NameKind.free)∈sc.names->∃ c,cl.lookup n=some c):(blk X sc (lcN X own fr) cl C s H fp pins).Ok where
 mod:=I.ok.mod
 kind:=L.kind
 glob:=I.ok.glob
 blt:=I.ok.blt
 above:=hC
 inj:=λ x y c a b=>I.ok.inj x y c (c1 _ _ a) (c1 _ _ b)
 has:=λ x hx=>c2 x (jS (sc:=sc) (env:=X.env) hx L.cell)
 cab:=λ x c z=>absurd (show false=true from z) Bool.false_ne_true
 hd:=I.ok.hd
 frames:=I.ok.frames
 stk:=.inl rfl
 exf:=λ b z=>⟨Nat.ne_of_lt (Nat.lt_of_lt_of_le (hb b z) hC),λ x c e=>(hf b z).2.2.2.2.1 x c (c1 _ _ e)⟩
 bs:=I.bs
 bsz:=Nat.le_trans I.ok.bsz I.sz
 noex:=λ b o e z=>by
  rcases(hf b z).2.2.2.1 with q | q
  ·exact I.ok.noex b o e q
  ·exact absurd (Nat.lt_of_lt_of_le (Heap.lt_size e) (Nat.le_trans I.ok.bsz q)) (Nat.lt_irrefl _)
 exfs:=λ b z q=>by
  rcases List.mem_cons.mp (I.jO b q) with e | e
  ·exact(hf b z).2.1 e
  ·exact(hf b z).2.2.1 e
 rK:=I.stack
 frf:=I.nQ
theorem xu(L:vZ X sc own fr)(I:Inv X pins σ H s)(hf:∀ b∈fp,sy X pins H b)(hb:∀ b∈fp,b<s.heap.objs.size)(hC:s.heap.objs.size<=C)
  (c1:∀ n c,cl.lookup n=some c->X.env.cells.lookup n=some c)(c2:∀ n,(n,NameKind.free)∈sc.names->∃ c,cl.lookup n=some c)
(hn:h1.Ns C m) (k:∀ b o,s.heap.get? b=some o->h1.get? b=some o) :
  Inv (blk X sc (lcN X own fr) cl C s H fp pins) [] (lcS own.length fr σ) H {s with heap:=h1,toks:=tk}:=by
 have ok:=aeW L I hf hb hC c1 c2;refine⟨ok,rfl,I.bare,Un.kept k,⟨m,hn,λ i x v e1 e2 e3=>?_⟩,λ x c e=>?_,I.hok.fresh hC,λ x c e=>I.freeC x c (c1 _ _ e),λ p hp=>?_,I.hok.kept k,?_⟩
 ·-- one of the names around
  have hi:¬ i<own.length:=λ hi=>by
   unfold lcS at e2;rw[List.getElem?_append_left (by simpa using hi),List.getElem?_replicate] at e2
   split at e2<;>cases e2
  have e1':(lcN X own fr)[i]? =some x:=e1;unfold lcN at e1';unfold lcS at e2;rw[List.getElem?_append_right (by omega),List.getElem?_map] at e1';rw[List.getElem?_append_right (by simpa using hi),List.getElem?_map,List.length_replicate] at e2;cases q:fr[i-own.length]? with
  | none=>rw[q] at e1';cases e1'
  | some j =>
   rw[q] at e1' e2;obtain⟨y,hy,hyf⟩:=aat L.fr (List.mem_of_getElem? q);have ex:y=x:=by have:=Option.some.inj e1';rw[<- this];simp[List.getD,hy]
   subst ex;have ev:σ[j]? =some (some v):=by
    have z:(σ[j]?).getD none=some v:=Option.some.inj e2;cases w:σ[j]? with
    | none=>rw[w] at z;cases z
    | some o=>rw[w] at z;exact congrArg some z
   have hm:(y,NameKind.free)∈sc.names:=PySem.mem_of_lookup hyf;have hk:=L.free _ hm rfl;have vis:Vis X.env.scope y:=by
    rcases hk with z | z
    ·exact .inr (.inl z)
    ·exact .inr (.inr z)
   obtain⟨m0,hn0,hl⟩:=I.loc;obtain⟨u,r,l⟩:=hl j y v hy ev vis;refine⟨u,r,.inr ⟨?_,?_⟩⟩
   ·exact eN (env:=X.env) hyf
   ·obtain⟨c,hc⟩:=c2 y hm;rcases l with ⟨z,_⟩ | ⟨_,c',hc',hcell⟩
    ·rcases hk with q | q
     ·exact absurd (show X.env.kindOf y=some .local from z) (by rw[q];decide)
     ·exact absurd (show X.env.kindOf y=some .local from z) (by rw[q];decide)
    ·have:c=c':=Option.some.inj ((c1 _ _ hc).symm.trans hc');subst this;obtain⟨o,ho,hd⟩:=hcell;exact⟨c,hc,o,k _ _ ho,hd⟩
 ·obtain⟨v,o,ho,hd⟩:=I.cell x c (c1 _ _ e);exact⟨v,o,k _ _ ho,hd⟩
 ·have hp':p∈X.pn++pins:=by simpa [blk] using hp
  obtain⟨a1,a2,a3,a4,a5⟩:=I.pin p hp';refine⟨k _ _ a1,a2,Nat.ne_of_lt (Nat.lt_of_lt_of_le (Heap.lt_size a1) hC),λ q=>?_,a5⟩;rcases List.mem_cons.mp (I.jO _ q) with e | e
  ·exact a3 e
  ·exact a4 e
 ·show(lcS own.length fr σ).length=(lcN X own fr).length;simp[lcS,lcN]
abbrev LcW:=Nat->Nat->List V->St->Hp->Prop
def uc(J:It)(g:TG)(tt:TT)(te:TE)(W:LcW)(Fin:List V->Hp->Prop):Prop:=∀ i m ys τ H,W i m ys τ H ->
 (J.stop i H/\Fin ys H)\/(J.go i H/\ys.length<sizeLine/\∀ x H',J.yld i H x H'->g x τ H' λ τ2 H2=>tt τ2 H2 λ b H3 =>
  if b=true then te τ2 H3 λ y H4=>∃ m',m'<m/\W (i+1) m' (ys++[y]) τ2 H4 else ∃ m',m'<m/\W (i+1) m' ys τ2 H3)
section
variable {X:Cx}{pins:PN}{σ:St}{H:Hp}{s:Shared}{sc:Scope}{own:List Str}{fr:List Nat}{cl:List (Str×Addr)}{fp:List Addr}{it:Addr}{J:It}{tn:Nat->Heap->Prop}{g:TG}{tt:TT}{te:TE}{W:LcW}{Fin:List V->Hp->Prop}
 {elt tg iter:Expr}{ifs:List Expr}{pos:Pos}{E:VP}
theorem adL{RR:Value->Addr->Result->Shared->Prop}(hc:X.calm=true)(L:vZ X sc own fr)(hcl1:∀ n c,cl.lookup n=some c->X.env.cells.lookup n=some c)(hcl2:∀ n,(n,NameKind.free)∈sc.names->∃ c,cl.lookup n=some c)
  (hg:∀ C s H ex pl,PG (blk X sc (lcN X own fr) cl C s H ex pl) tg g)(ht:∀ C s H ex pl,PTs (blk X sc (lcN X own fr) cl C s H ex pl) ifs tt)(he:∀ C s H ex pl,PE (blk X sc (lcN X own fr) cl C s H ex pl) elt te)
  (I:Inv X pins σ H s)(T:Turn X.prog X.w X.K tg J fp it tn)(st:tn 0 s.heap)(hf:∀ b∈fp,sy X pins H b)(w0:∃ m,W 0 m [] (lcS own.length fr σ) H)(turn:uc J g tt te W Fin)
  (hRR:∀ (D C:Addr) (s':Shared) (H':Hp) (ys:List V) (us:List Value) (n:Nat) (m:Str->Option Value),Inv X pins σ H' s'->s'.heap.get? D=some {cls:=.type "list",data:=.seq us.toArray n}->Vals ys us->ys.length<=sizeLine->H' D=none->H' C=none ->
   s.heap.objs.size<=D->s.heap.objs.size<=C->D≠C->s'.heap.Ns C m->Fin ys H'->RR (.ref D) C (.ok .next) s') :
  wpAny (model X.prog X.w) X.A (newList []) (λ acc s₃=>wpAny (model X.prog X.w) X.A (newFunctionEnv sc X.env.globals cl [] X.env.qual none .none (some X.env)) (λ cenv s₄ =>
   codeAny (model X.prog X.w) X.A (.compStart (.ListComp elt [⟨tg,iter,ifs,0⟩] sc pos) 0 (.ref it) acc {cenv with scope:=relabel sc X.env}) (RR acc cenv.locals) s₄) E s₃) E s:=by
 refine wpAny_newObj_type (wpAny_newFunctionEnv L.cell (by intro y hy;simp at hy) (λ h₁ hns₁ hsb₁=>?_) L.kind);dsimp only at hns₁ hsb₁ ⊢;generalize hH2:s.heap.push {cls:=.type "list",dict:=none,data:=.seq ([]:List Value).toArray}=H2 at hns₁ hsb₁ ⊢;have hCs:H2.objs.size=s.heap.objs.size+1:=by rw[<- hH2,Heap.size_push]
 have hD0:s.heap.objs.size≠H2.objs.size:=by rw[hCs];exact Nat.ne_of_lt (Nat.lt_succ_self _)
 have hCle:s.heap.objs.size<=H2.objs.size:=by rw[hCs];exact Nat.le_succ _
 have below:∀ b,b<s.heap.objs.size->b≠H2.objs.size/\b≠s.heap.objs.size:=λ b hb=>⟨by rw[hCs];exact Nat.ne_of_lt (Nat.lt_succ_of_lt hb),Nat.ne_of_lt hb⟩;have old:∀ b o,s.heap.get? b=some o->h₁.get? b=some o:=λ b o e=>hsb₁.extBut b o (below b (Heap.lt_size e)).1 (Heap.get?_push_of_some _ (hH2 ▸ Heap.get?_push_of_some _ e));have hacc:h₁.get? s.heap.objs.size=some {cls:=.type "list",data:=.seq ([]:List Value).toArray 0}:=hsb₁.extBut _ _ hD0 (Heap.get?_push_of_some _ (hH2 ▸ Heap.get?_push_size _ rfl));have hfb:∀ b∈fp,b<s.heap.objs.size:=λ b hb=>by obtain⟨o,e,_⟩:=T.obj 0 _ st b hb;exact Heap.lt_size e
 have I1:Inv (blk X sc (lcN X own fr) cl H2.objs.size s H fp pins) [] (lcS own.length fr σ) H {s with heap:=h₁,toks:=s.toks+([]:List (Str×Value)).length}:=xu L I hf hfb hCle hcl1 hcl2 hns₁ old;have st1:tn 0 h₁:=T.keep 0 _ _ st λ b _ o e=>old b o e;generalize hY:blk X sc (lcN X own fr) cl H2.objs.size s H fp pins=Y at I1;have hYp:Y.prog=X.prog:=by rw[<- hY];rfl
 have hYw:Y.w=X.w:=by rw[<- hY];rfl
 have hYK:Y.K=X.K:=by rw[<- hY];rfl
 have hYA:Y.A=X.A:=by rw[<- hY];rfl
 have hYc:Y.calm=true:=by rw[<- hY];exact hc
 have hYe:Y.env=compEnvC sc cl H2.objs.size X.env:=by rw[<- hY];rfl
 have hYx:Y.xe=λ _ _=>False:=by rw[<- hY];rfl
 have hYpn:Y.pn=X.pn++pins:=by rw[<- hY];rfl
 have hYs:Y.s₀=s:=by rw[<- hY];rfl
 have hYH:Y.H₀=H:=by rw[<- hY];rfl
 have hYex:Y.ex=fp:=by rw[<- hY];rfl
 have hYfs:Y.fs=frs X.stack:=by rw[<- hY];rfl
 have gY:=hg H2.objs.size s H fp pins;have tY:=ht H2.objs.size s H fp pins;have eY:=he H2.objs.size s H fp pins;rw[hY] at gY tY eY;have D_pin:∀ p∈Y.pn++([]:PN),p.1≠s.heap.objs.size:=λ p hp=>by rw[hYpn,List.append_nil] at hp;exact(below _ (Heap.lt_size (I.pin p hp).1)).2
 have D_cell:∀ x c,Y.env.cells.lookup x=some c->c≠s.heap.objs.size:=λ x c e=>by rw[hYe] at e;obtain⟨v,z⟩:=I.cell x c (hcl1 _ _ e);exact(below _ z.lt).2
 have D_loc:s.heap.objs.size≠Y.env.locals:=by rw[hYe];exact hD0
 have D_fs:s.heap.objs.size ∉ Y.fs:=by
  rw[hYfs];intro z;rcases List.mem_cons.mp (I.jO _ z) with e | e
  ·exact absurd I.lt (by rw[<- e];exact Nat.lt_irrefl _)
  ·exact I.ahO (Nat.le_refl _) e
 have fpY:∀ {H':Hp} (pl:PN),(∀ b∈fp,H' b=none)->(∀ p∈pl,p.1=s.heap.objs.size)->∀ b∈fp,sy Y pl H' b:=λ {H'} pl hn hp b hb=>by
  obtain⟨_,f1,f2,f3,f4,f5⟩:=hf b hb;refine⟨hn b hb,by rw[hYe];exact(below b (hfb b hb)).1,?_,.inl (by rw[hYex];exact hb),λ x c e=>?_,λ p q=>?_⟩
  ·rw[hYfs];intro z;rcases List.mem_cons.mp (I.jO _ z) with e | e
   ·exact f1 e
   ·exact f2 e
  ·rw[hYe] at e;exact f4 x c (hcl1 _ _ e)
  ·rcases List.mem_append.mp q with z | z
   ·rw[hYpn] at z;exact f5 p z
   ·rw[hp p z];exact Ne.symm (below b (hfb b hb)).2
 have loop:∀ s₃:Shared,s₃={s with heap:=h₁,toks:=s.toks+([]:List (Str×Value)).length} ->
   codeAny (model X.prog X.w) X.A (.compLoop (.ListComp elt [⟨tg,iter,ifs,0⟩] sc pos) 0 (.ref it) (.ref s.heap.objs.size) (compEnvC sc cl H2.objs.size X.env)) (RR (.ref s.heap.objs.size) H2.objs.size) s₃:=by
  rintro s₃ rfl;obtain⟨m0,w0⟩:=w0;refine pN (λ n s'=>∃ i ys τ H' us k,Inv Y [] τ H' s'/\tn i s'.heap/\(∀ b∈fp,H' b=none)/\H' s.heap.objs.size=none/\s'.heap.get? s.heap.objs.size=some {cls:=.type "list",data:=.seq us.toArray k}/\Vals ys us/\ys.length<=sizeLine/\W i n ys τ H') ?_ m0
   ⟨0,[],_,H,[],0,I1,st1,λ b hb=>(hf b hb).1,I.hok.fresh (Nat.le_refl _),hacc,.nil,Nat.zero_le _,w0⟩
  rintro n s' ⟨i,ys,τ,H',us,k,I',st',hn',hD',ha',hv',hz',w'⟩;have Ip:Inv Y [(s.heap.objs.size,{cls:=.type "list",data:=.seq us.toArray k})] τ H' s':=I'.gq λ p hp=>by
   have e:p=(s.heap.objs.size,{cls:=.type "list",data:=.seq us.toArray k}):=by simpa using hp
   subst e;exact⟨ha',hD',D_loc,D_fs,λ v z=>nomatch (show Data.seq _ _=Data.cell v from z)⟩
  have onlyD:∀ p∈[((s.heap.objs.size,{cls:=.type "list",data:=.seq us.toArray k}):Addr×Obj)],p.1=s.heap.objs.size:=λ p hp=>by
   have e:p=(s.heap.objs.size,{cls:=.type "list",data:=.seq us.toArray k}):=by simpa using hp
   subst e;rfl
  rcases turn i n ys τ H' w' with ⟨stop,fin⟩ | ⟨go,hlen,step⟩
  ·have q:=T.done Y hYp hYw hYK hYc i _ s' τ H' (λ _ _=>False) Ip (fpY _ hn' onlyD) st' stop;rw[hYA] at q;refine thn q λ r s4 hq29=>?_;obtain⟨hr,I4⟩:=hq29;subst hr;have un:Un (frs X.stack) fp H H' s.heap s4.heap:=by have z:=I4.base;rw[hYfs,hYex,hYH,hYs] at z;exact z
   have os4:s4.os=s.os:=by have z:=I4.os;rw[hYs] at z;exact z
   have hok4:HOk X.prog X.w H' s4.heap:=by have z:=I4.hok;rw[hYp,hYw] at z;exact z
   have hch:∀ b∈fp,(b∈X.ex\/X.s₀.heap.objs.size<=b)/\b≠X.env.locals/\(∀ x c,X.env.cells.lookup x=some c->c≠b)/\∀ p∈X.pn++pins,p.1≠b:=λ b hb=>by obtain⟨_,f1,f2,f3,f4,f5⟩:=hf b hb;exact⟨f3,f1,f4,f5⟩
   have IX:Inv X pins σ H' s4:=I.zH os4 un hok4 I4.bare hch;obtain⟨mC,hmC,_⟩:=I4.loc;have hCf:=I4.free;rw[hYe] at hmC hCf;have pD:=I4.pin (s.heap.objs.size,{cls:=.type "list",data:=.seq us.toArray k}) (List.mem_append_right _ (List.mem_singleton.mpr rfl));exact hRR _ _ s4 H' ys us k mC IX pD.1 hv' hz' pD.2.1 hCf (Nat.le_refl _) hCle hD0 hmC fin
  ·have q:=T.item Y hYp hYw hYK hYc i _ s' τ H' (λ _ _=>False) Ip (fpY _ hn' onlyD) st' go;rw[hYA] at q;refine thn q λ r s4 hq30=>?_;obtain⟨u,hr,h4⟩:=hq30;subst hr;refine thn h4 λ _ s5 hq31=>?_;obtain⟨x,H5,I5,r5,y5,st5,fr5⟩:=hq31;have I5':=I5.pinned (fpY _ fr5 onlyD) (T.obj _ _ st5);have g5:=gY _ s5 τ H5 x u _ I5' r5 (step x H5 y5);rw[hYp,hYw,hYA,hYe,hYx] at g5;refine thn g5 λ _ s6 hq32=>?_;obtain⟨σ6,H6,I6,q6⟩:=hq32;have t6:=tY _ s6 σ6 H6 _ I6 q6;rw[hYp,hYw,hYA,hYe,hYx] at t6;refine thn t6 λ ok s7 hq33=>?_;obtain⟨H7,I7,q7⟩:=hq33;have keepD:∀ {σ8:St} {H8:Hp} {s8:Shared},Inv Y ([(s.heap.objs.size,{cls:=.type "list",data:=.seq us.toArray k})]++jQ fp s5.heap) σ8 H8 s8->s8.heap.get? s.heap.objs.size=some {cls:=.type "list",data:=.seq us.toArray k}/\H8 s.heap.objs.size=none:=
    λ {σ8 H8 s8} I8=>by have pD:=I8.pin (s.heap.objs.size,{cls:=.type "list",data:=.seq us.toArray k}) (List.mem_append_right _ (List.mem_append_left _ (List.mem_singleton.mpr rfl)));exact⟨pD.1,pD.2.1⟩
   have keepI:∀ {σ8:St} {H8:Hp} {s8:Shared},Inv Y ([(s.heap.objs.size,{cls:=.type "list",data:=.seq us.toArray k})]++jQ fp s5.heap) σ8 H8 s8->tn (i+1) s8.heap/\∀ b∈fp,H8 b=none:=
    λ {σ8 H8 s8} I8=>by refine⟨T.keep _ _ _ st5 λ b hb o e=>(I8.pin (b,o) (List.mem_append_right _ (List.mem_append_right _ (eB hb e)))).1,λ b hb=>?_⟩;obtain⟨o,e,d⟩:=T.obj _ _ st5 b hb;exact(I8.pin (b,o) (List.mem_append_right _ (List.mem_append_right _ (eB hb e)))).2.1
   cases ok with
   | false =>
    rw[if_neg Bool.false_ne_true] at q7 ⊢;obtain⟨m',hm',w7⟩:=q7;obtain⟨a7,b7⟩:=keepD I7;obtain⟨c7,d7⟩:=keepI I7;exact⟨m',hm',i+1,ys,σ6,H7,us,k,I7.gq (λ p hp=>(nomatch hp)),c7,d7,b7,a7,hv',hz',w7⟩
   | true =>
    rw[if_pos rfl] at q7 ⊢;have e7:=eY _ s7 σ6 H7 _ I7 q7;rw[hYp,hYw,hYA,hYe,hYx] at e7;refine thn e7 λ v s8 hq34=>?_;obtain⟨y,H8,I8,r8,m',hm',w8⟩:=hq34;obtain⟨a8,b8⟩:=keepD I8;obtain⟨c8,d8⟩:=keepI I8;have hl:=hv'.length;refine call_meets F.slot_list_append ⟨_,a8,rfl⟩ F.entry_list_append (F.args_list_append_2 _ _) (PySem.list_append s.heap.objs.size us.toArray k v (by rw[List.size_toArray];omega)) ⟨a8,?_⟩;have qu:=PySem.IsL.update a8 (λ xs=>xs.push v);have I9:=(I8.gq (pins':=[]) λ p hp=>nomatch hp).turned (it:=s.heap.objs.size) (t':=s8.toks) (h':=s8.heap.update s.heap.objs.size (Obj.mapSeq λ xs=>xs.push v)) (λ b o hb e=>(Heap.get?_update_other s8.heap _ (Ne.symm hb)).trans e) b8 D_loc (.inr (by rw[hYs];exact Nat.le_refl _)) D_cell D_pin;have ep:us.toArray.push v=(us++[v]).toArray:=by simp
    rw[ep] at qu;refine⟨m',hm',i+1,ys++[y],σ6,H8,us++[v],(if (us++[v]).toArray.size==us.toArray.size then k else k+1),I9,T.keep _ _ _ c8 λ b hb o e=>(Heap.get?_update_other s8.heap _ (Ne.symm (below b (hfb b hb)).2)).trans e,d8,b8,?_,hv'.append (.cons r8 .nil),?_,w8⟩
    ·exact qu
    ·rw[List.length_append,List.length_singleton];omega
 exact codeAny_compStart_list (loop _ rfl) (T.self _ 0 _ _ _ st1 (loop _ rfl))
def tLC(wi:TI)(g:TG)(tt:TT)(te:TE)(k:Nat)(fr:List Nat):TE:=λ σ H Q=>wi σ H λ J H1=>∃ W:LcW,(∃ m,W 0 m [] (lcS k fr σ) H1)/\uc J g tt te W λ ys H2=>∀ p,H2 p=none->Q (.ref p) (upd H2 p (.lst ys))
theorem mX(L:vZ X sc own fr)(ok:X.Ok):∃ cl,closureFor sc X.env=pure cl/\(∀ n c,cl.lookup n=some c->X.env.cells.lookup n=some c)/\(∀ n,(n,NameKind.free)∈sc.names->∃ c,cl.lookup n=some c):=
 pZ λ x hx hf=>ok.has x.1 (L.free x hx hf)
theorem ah1(hc:X.calm=true)(L:vZ X sc own fr)(hi:PI X tg iter wi)
  (hg:∀ cl C s H ex pl,PG (blk X sc (lcN X own fr) cl C s H ex pl) tg g)(ht:∀ cl C s H ex pl,PTs (blk X sc (lcN X own fr) cl C s H ex pl) ifs tt)(he:∀ cl C s H ex pl,PE (blk X sc (lcN X own fr) cl C s H ex pl) elt te)
  (hs:∀ x,foldedSetIterable iter X.env x=pure x:=by intro _;rfl):PE X (.ListComp elt [⟨tg,iter,ifs,0⟩] sc pos) (tLC wi g tt te own.length fr):=by
 intro pins s σ H Q I h;obtain⟨cl,hcl,c1,c2⟩:=mX L I.ok;rw[eval_ListComp];refine wpAny_comprehension_free (use:=none) (g:=⟨tg,iter,ifs,0⟩) (gs:=[]) rfl hs hcl L.kind L.names ?_;refine thn (hi pins s σ H _ I h) λ v s1 h1=>thn h1 λ itv s2 h2=>?_;obtain⟨it,fp,tn,J,H2,e,I2,T,st2,f2,W,w0,turn⟩:=h2;subst e;refine adL (cl:=cl) hc L c1 c2 (hg cl) (ht cl) (he cl) I2 T st2 f2 w0 turn λ D C s' H' ys us n m I' a' hv hz hD hC dD dC hDC hns fin=>?_;refine⟨m,hns,λ h' sb=>?_⟩;have far:∀ b,s2.heap.objs.size<=b->(X.s₀.heap.objs.size<=b)/\b≠X.env.locals/\(∀ x c,X.env.cells.lookup x=some c->c≠b)/\∀ p∈X.pn++pins,p.1≠b:=λ b hb=>by obtain⟨_,f1,_,f3,f4,f5⟩:=I2.vX (H':=λ _=>none) hb rfl;refine⟨Nat.le_trans I2.sz hb,f1,f4,f5⟩
 obtain⟨z1,z2,z3,z4⟩:=far C dC;obtain⟨y1,y2,y3,y4⟩:=far D dD;have I3:Inv X pins σ H' {s' with heap:=h'}:=I'.turned (t':=s'.toks) (λ b o hb e=>sb.extBut b o hb e) hC z2 (.inr z1) z3 z4;exact⟨.ref D,_,I3.ags (sb.extBut _ _ hDC a') hD hv hz y1 y2 y3 y4,rfl,fin D hD⟩
end
end L2
namespace D
open L2
abbrev St:=L2.St
structure Kp(H H':Hp):Prop where
 tup:∀ b xs,H b=some (.tup xs)->H' b=some (.tup xs)
 frz:∀ b o u,H b=some (.frz o u)->H' b=some (.frz o u)
theorem Kp.refl(H:Hp):Kp H H:=⟨λ _ _ e=>e,λ _ _ _ e=>e⟩
theorem Kp.trans(a:Kp H H1)(b:Kp H1 H2):Kp H H2:=⟨λ c xs e=>b.tup c xs (a.tup c xs e),λ c o u e=>b.frz c o u (a.frz c o u e)⟩
theorem Kp.new(h:H p=none):Kp H (upd H p o):=⟨λ b xs e=>by rw[aO (bo e h)];exact e,λ b ob u e=>by rw[aO (bo e h)];exact e⟩
theorem Kp.set(h:H p=some u)(ht:∀ xs,u ≠ .tup xs)(hf:∀ ob v,u ≠ .frz ob v):Kp H (upd H p o):=
 ⟨λ b xs e=>by rw[aO (afb e h λ z=>ht _ z.symm)];exact e,λ b ob v e=>by rw[aO (afb e h λ z=>hf _ _ z.symm)];exact e⟩
theorem Kp.un(u:Un fs ex H H' h h'):Kp H H':=⟨u.tups,u.frzs⟩
def SqF(K:FG)(H:Hp)(a:Addr)(xs:List V):Prop:=
 (∃ o,H a=some (.frz o (.lst xs)))\/∃ (o:Obj) (its:Array Value) (n:Nat),K.lookup a=some o/\o.cls=.type "list" /\ o.dict=none/\o.data=.seq its n/\its.size<=sizeLine/\Vals xs its.toList
theorem SqF.sq{K:FG}{H:Hp}{a:Addr}{xs:List V}(h:SqF K H a xs):SqL K H a xs:=by
 rcases h with h | h
 ·exact .inl (.inr h)
 ·exact .inr h
theorem SqF.keep{K:FG}{H H':Hp}{a:Addr}{xs:List V}(k:Kp H H')(h:SqF K H a xs):SqF K H' a xs:=by
 rcases h with ⟨o,h⟩ | h
 ·exact .inl ⟨o,k.frz _ _ _ h⟩
 ·exact .inr h
theorem SqT.keep{K:FG}{H H':Hp}{a:Addr}{xs:List V}(k:Kp H H')(h:SqT K H a xs):SqT K H' a xs:=by
 rcases h with (h | ⟨o,h⟩) | h
 ·exact .inl (.inl (k.tup _ _ h))
 ·exact .inl (.inr ⟨o,k.frz _ _ _ h⟩)
 ·exact .inr h
def qU:Key->PyData
 | .inl i=>.int i
 | .inr x=>.str x
mutual
def aB(K:FG)(H:Hp):PyData->V->Prop
 | .none,v=>v=.non
 | .bool b,v=>v=.bl b
 | .int i,v=>v=.int i
 | .str x,v=>v=.str x
 | .list ds,v=>∃ a vs,v=.ref a/\SqF K H a vs/\bD K H ds vs
 | .tuple ds,v=>∃ a vs,v=.ref a/\SqT K H a vs/\bD K H ds vs
 | .dict kvs,v=>∃ a o l,v=.ref a/\H a=some (.frz o (.dK l))/\oH K H kvs l
def bD(K:FG)(H:Hp):List PyData->List V->Prop
 | [],vs=>vs=[]
 | d::ds,vs=>∃ v r,vs=v::r/\aB K H d v/\bD K H ds r
def oH(K:FG)(H:Hp):List (PyData×PyData)->List (Key×V)->Prop
 | [],l=>l=[]
 | (k,d)::ds,l=>∃ key v r,l=(key,v)::r/\k=qU key/\aB K H d v/\oH K H ds r
end
mutual
theorem aB.keep{K:FG}{H H':Hp}(k:Kp H H'):∀ {d:PyData} {v:V},aB K H d v->aB K H' d v
 | .none,v,h=>by simp only[aB] at h ⊢;exact h
 | .bool b,v,h=>by simp only[aB] at h ⊢;exact h
 | .int i,v,h=>by simp only[aB] at h ⊢;exact h
 | .str x,v,h=>by simp only[aB] at h ⊢;exact h
 | .list ds,v,h=>by simp only[aB] at h ⊢;obtain⟨a,vs,e,s,r⟩:=h;exact⟨a,vs,e,s.keep k,bD.keep k r⟩
 | .tuple ds,v,h=>by simp only[aB] at h ⊢;obtain⟨a,vs,e,s,r⟩:=h;exact⟨a,vs,e,SqT.keep k s,bD.keep k r⟩
 | .dict kvs,v,h=>by simp only[aB] at h ⊢;obtain⟨a,o,l,e,s,r⟩:=h;exact⟨a,o,l,e,k.frz _ _ _ s,oH.keep k r⟩
theorem bD.keep{K:FG}{H H':Hp}(k:Kp H H'):∀ {ds:List PyData} {vs:List V},bD K H ds vs->bD K H' ds vs
 | [],vs,h=>by simp only[bD] at h ⊢;exact h
 | d::ds,vs,h=>by simp only[bD] at h ⊢;obtain⟨v,r,e,h1,h2⟩:=h;exact⟨v,r,e,aB.keep k h1,bD.keep k h2⟩
theorem oH.keep{K:FG}{H H':Hp}(k:Kp H H'):∀ {ds:List (PyData×PyData)} {l:List (Key×V)},oH K H ds l->oH K H' ds l
 | [],l,h=>by simp only[oH] at h ⊢;exact h
 | (key,d)::ds,l,h=>by simp only[oH] at h ⊢;obtain⟨k',v,r,e,ek,h1,h2⟩:=h;exact⟨k',v,r,e,ek,aB.keep k h1,oH.keep k h2⟩
end
theorem bD.length{K:FG}{H:Hp}:∀ {ds:List PyData} {vs:List V},bD K H ds vs->vs.length=ds.length
 | [],vs,h=>by simp only[bD] at h;rw[h];rfl
 | d::ds,vs,h=>by simp only[bD] at h;obtain⟨v,r,e,_,h2⟩:=h;rw[e,List.length_cons,List.length_cons,bD.length h2]
theorem bD.get{K:FG}{H:Hp}:∀ {ds:List PyData} {vs:List V} {i:Nat} {d:PyData},bD K H ds vs->ds[i]? =some d->∃ v,vs[i]? =some v/\aB K H d v
 | [],_,_,_,_,e=>by simp at e
 | d::ds,vs,0,d',h,e=>by simp only[bD] at h;obtain⟨v,r,ev,h1,_⟩:=h;simp at e;subst e;exact⟨v,by rw[ev];rfl,h1⟩
 | d::ds,vs,i+1,d',h,e=>by simp only[bD] at h;obtain⟨v,r,ev,_,h2⟩:=h;obtain⟨v',e1,e2⟩:=bD.get (i:=i) h2 (by simpa using e);exact⟨v',by rw[ev];simpa using e1,e2⟩
theorem bD.get'{K:FG}{H:Hp}{ds:List PyData}{vs:List V}{i:Nat}{v:V}(h:bD K H ds vs)(e:vs[i]? =some v):∃ d,ds[i]? =some d/\aB K H d v:=by
 have hi:i<ds.length:=by have:=(List.getElem?_eq_some_iff.mp e).1;rw[h.length] at this;exact this
 obtain⟨v',e1,r⟩:=h.get (i:=i) (d:=ds[i]) (by simp[hi]);rw[e] at e1;cases e1;exact⟨ds[i],by simp[hi],r⟩
theorem bD.ints{K:FG}{H:Hp}:∀ (ns:List Int),bD K H (ns.map PyData.int) (ns.map V.int)
 | []=>by simp[bD]
 | n::ns=>by simp only[List.map_cons,bD];exact⟨_,_,rfl,by simp[aB],bD.ints ns⟩
theorem bD.append{K:FG}{H:Hp}:∀ {ds es:List PyData} {vs us:List V},bD K H ds vs->bD K H es us->bD K H (ds++es) (vs++us)
 | [],es,vs,us,h,q=>by simp only[bD] at h;subst h;exact q
 | d::ds,es,vs,us,h,q=>by simp only[bD] at h;obtain⟨v,r,e,h1,h2⟩:=h;subst e;simp only[List.cons_append,bD];exact⟨v,r++us,rfl,h1,bD.append h2 q⟩
theorem bD.drop{K:FG}{H:Hp}:∀ {ds:List PyData} {vs:List V} (n:Nat),bD K H ds vs->bD K H (ds.drop n) (vs.drop n)
 | ds,vs,0,h=>by simpa using h
 | [],vs,n+1,h=>by simp only[bD] at h;subst h;simp[bD]
 | d::ds,vs,n+1,h=>by
  simp only[bD] at h;obtain⟨v,r,e,_,h2⟩:=h;subst e
  simpa using bD.drop n h2
theorem bD.take{K:FG}{H:Hp}:∀ {ds:List PyData} {vs:List V} (n:Nat),bD K H ds vs->bD K H (ds.take n) (vs.take n)
 | ds,vs,0,h=>by simp[bD]
 | [],vs,n+1,h=>by simp only[bD] at h;subst h;simp[bD]
 | d::ds,vs,n+1,h=>by simp only[bD] at h;obtain⟨v,r,e,h1,h2⟩:=h;subst e;simp only[List.take_succ_cons,bD];exact⟨v,_,rfl,h1,bD.take n h2⟩
inductive W where
 | d (x:PyData)
 | m (a:Addr)
 | t (n:String)
inductive MO where
 | lst (ws:List W)
 | dic (kvs:List (Key×W))
 | dct (kvs:List (List Key×W))
 | fdic (kvs:List (Key×W))
 | ins (C:Addr) (fs:List (Str×W))
 | tup (ws:List W)
 | flst (ws:List W)
 | exc (C:Addr) (fs:List (Str×W))
 | code (q:Str) (pos:Pos)
abbrev MH:=Addr->Option MO
def dR(M:MH)(a:Addr)(o:MO):MH:=λ b=>if b=a then some o else M b
theorem aC:dR M a o a=some o:=if_pos rfl
theorem de(h:b≠a):dR M a o b=M b:=if_neg h
theorem eP:dR (dR M a o) a u=dR M a u:=by funext b;unfold dR;split<;>rfl
abbrev DS:=List (Option W)
def aH(K:FG)(H:Hp):W->V->Prop
 | .d x,v=>aB K H x v
 | .m a,v=>v=.ref a
 | .t n,v=>v=.ty n
theorem aH.keep{K:FG}{H H':Hp}(k:Kp H H'):∀ {w:W} {v:V},aH K H w v->aH K H' w v
 | .d _,_,h=>aB.keep k h
 | .m _,_,h=>h
 | .t _,_,h=>h
def bQ(K:FG)(H:Hp):List W->List V->Prop:=Paired (aH K H)
theorem bQ.keep{K:FG}{H H':Hp}(k:Kp H H'){ws:List W}{vs:List V}(h:bQ K H ws vs):bQ K H' ws vs:=Paired.xQ h λ _ _ r=>r.keep k
theorem bQ.length{K:FG}{H:Hp}{ws:List W}{vs:List V}(h:bQ K H ws vs):ws.length=vs.length:=Paired.length h
theorem bQ.get{K:FG}{H:Hp}:∀ {ws:List W} {vs:List V} {i:Nat} {w:W},bQ K H ws vs->ws[i]? =some w->∃ v,vs[i]? =some v/\aH K H w v
 | _,_,_,_,.nil,e=>by simp at e
 | _,_,0,_,.cons r _,e=>by simp at e;subst e;exact⟨_,rfl,r⟩
 | _,_,i+1,_,.cons _ t,e=>by obtain⟨u,h1,h2⟩:=bQ.get (i:=i) t (by simpa using e);exact⟨u,by simpa using h1,h2⟩
theorem bQ.set{K:FG}{H:Hp}{w:W}{v:V}(r:aH K H w v):∀ {ws:List W} {vs:List V} (i:Nat),bQ K H ws vs->bQ K H (ws.set i w) (vs.set i v)
 | _,_,_,.nil=>.nil
 | _,_,0,.cons _ t=>.cons r t
 | _,_,i+1,.cons q t=>.cons q (bQ.set r i t)
theorem bQ.append{K:FG}{H:Hp}:∀ {ws ws':List W} {vs vs':List V},bQ K H ws vs->bQ K H ws' vs'->bQ K H (ws++ws') (vs++vs')
 | _,_,_,_,.nil,s=>s
 | _,_,_,_,.cons r t,s=>.cons r (bQ.append t s)
theorem bQ.data{K:FG}{H:Hp}:∀ {ds:List PyData} {vs:List V},bQ K H (ds.map W.d) vs->bD K H ds vs
 | [],_,h=>by cases h;simp[bD]
 | d::ds,_,h=>by
  cases h with
  | cons r t=>simp only[bD];exact⟨_,_,rfl,r,bQ.data t⟩
theorem bD.ws{K:FG}{H:Hp}:∀ {ds:List PyData} {vs:List V},bD K H ds vs->bQ K H (ds.map W.d) vs
 | [],vs,h=>by simp only[bD] at h;subst h;exact .nil
 | d::ds,vs,h=>by simp only[bD] at h;obtain⟨v,r,e,h1,h2⟩:=h;subst e;exact .cons h1 (bD.ws h2)
def aej(K:FG)(H:Hp)(a:Addr):MO->Prop
 | .lst ws=>∃ vs,H a=some (.lst vs)/\bQ K H ws vs
 | .dic kvs=>∃ l,H a=some (.dK l)/\Paired (λ(p:Key×W) (q:Key×V)=>p.1=q.1/\aH K H p.2 q.2) kvs l
 | .fdic kvs=>∃ o l,H a=some (.frz o (.frz o (.dK l)))/\Paired (λ(p:Key×W) (q:Key×V)=>p.1=q.1/\aH K H p.2 q.2) kvs l
 | .dct kvs=>∃ l,H a=some (.dT l)/\Paired (λ(p:List Key×W) (q:List Key×V)=>p.1=q.1/\aH K H p.2 q.2) kvs l
 | .ins C fs=>∃ dx l,H a=some (.ins C dx l)/\Paired (λ(p:Str×W) (q:Str×V)=>p.1=q.1/\aH K H p.2 q.2) fs l
 | .tup ws=>∃ vs,H a=some (.tup vs)/\bQ K H ws vs
 | .flst ws=>∃ o vs,H a=some (.frz o (.frz o (.lst vs)))/\bQ K H ws vs
 | .exc C fs=>∃ φ dct,H a=some (.ext φ)/\(∀ h,φ h->∃ vs,h.get? a=some {cls:=.ref C,dict:=dct,data:=.fields vs}/\(fs=[]->vs[2]? =some .none)) /\
   ((dct=none/\fs=[])\/∃ dx o l,dct=some dx/\H dx=some (.frz o (.xd l))/\Paired (λ(p:Str×W) (q:Str×V)=>p.1=q.1/\aH K H p.2 q.2) fs l)
 | .code q pos=>∃ ps,H a=some (.tbl ps)/\TriplesOk ps.toList/\(codeAmong pos ps.toList=none\/∃ c o vs t,codeAmong pos ps.toList=some (.ref c)/\H c=some (.frz o (.own 0))/\o.data=.fields vs/\vs[1]? =some (.str q t))
def dJ(K:FG)(H:Hp)(M:MH):Prop:=∀ a o,M a=some o->aej K H a o
theorem aej.is{K:FG}{H:Hp}{a:Addr}{o:MO}(h:aej K H a o):∃ u,H a=some u:=by
 cases o with
 | lst ws=>obtain⟨vs,e,_⟩:=h;exact⟨_,e⟩
 | dic kvs=>obtain⟨l,e,_⟩:=h;exact⟨_,e⟩
 | dct kvs=>obtain⟨l,e,_⟩:=h;exact⟨_,e⟩
 | fdic kvs=>obtain⟨o,l,e,_⟩:=h;exact⟨_,e⟩
 | ins C fs=>obtain⟨dx,l,e,_⟩:=h;exact⟨_,e⟩
 | tup ws=>obtain⟨vs,e,_⟩:=h;exact⟨_,e⟩
 | flst ws=>obtain⟨o,vs,e,_⟩:=h;exact⟨_,e⟩
 | exc C fs=>obtain⟨φ,dct,e,_⟩:=h;exact⟨_,e⟩
 | code q pos=>obtain⟨ps,e,_⟩:=h;exact⟨_,e⟩
theorem dJ.free{K:FG}{H:Hp}{M:MH}(h:dJ K H M){p:Addr}(e:H p=none):M p=none:=by
 cases q:M p with
 | none=>rfl
 | some o =>
  obtain⟨u,z⟩:=(h p o q).is;rw[e] at z;cases z
theorem aej.keep{K:FG}{H H':Hp}{a:Addr}{o:MO}(k:Kp H H')(s:∀ u,H a=some u->H' a=some u)(h:aej K H a o):aej K H' a o:=by
 cases o with
 | lst ws=>obtain⟨vs,e,r⟩:=h;exact⟨vs,s _ e,r.keep k⟩
 | dic kvs=>obtain⟨l,e,r⟩:=h;exact⟨l,s _ e,Paired.xQ r λ p q z=>⟨z.1,z.2.keep k⟩⟩
 | dct kvs=>obtain⟨l,e,r⟩:=h;exact⟨l,s _ e,Paired.xQ r λ p q z=>⟨z.1,z.2.keep k⟩⟩
 | fdic kvs=>obtain⟨o,l,e,r⟩:=h;exact⟨o,l,s _ e,Paired.xQ r λ p q z=>⟨z.1,z.2.keep k⟩⟩
 | ins C fs=>obtain⟨dx,l,e,r⟩:=h;exact⟨dx,l,s _ e,Paired.xQ r λ p q z=>⟨z.1,z.2.keep k⟩⟩
 | tup ws=>obtain⟨vs,e,r⟩:=h;exact⟨vs,s _ e,r.keep k⟩
 | flst ws=>obtain⟨o,vs,e,r⟩:=h;exact⟨o,vs,s _ e,r.keep k⟩
 | exc C fs =>
  obtain⟨φ,dct,e,p,r⟩:=h;refine⟨φ,dct,s _ e,p,?_⟩;rcases r with r | ⟨dx,o,l,e1,e2,r⟩
  ·exact .inl r
  ·exact .inr ⟨dx,o,l,e1,k.frz _ _ _ e2,Paired.xQ r λ p q z=>⟨z.1,z.2.keep k⟩⟩
 | code q pos =>
  obtain⟨ps,e,ht,hc⟩:=h;refine⟨ps,s _ e,ht,?_⟩;rcases hc with hc | ⟨c,o,vs,t,e1,e2,e3⟩
  ·exact .inl hc
  ·exact .inr ⟨c,o,vs,t,e1,k.frz _ _ _ e2,e3⟩
theorem dJ.new{K:FG}{H:Hp}{M:MH}{p:Addr}{o:HO}(h:dJ K H M)(e:H p=none):dJ K (upd H p o) M:=λ a mo q =>
 (h a mo q).keep (Kp.new e) λ u z=>by rw[aO (bo z e)];exact z
theorem dJ.put{K:FG}{H:Hp}{M:MH}{p:Addr}{o:HO}{mo:MO}(h:dJ K H M)(k:Kp H (upd H p o))(r:aej K (upd H p o) p mo):dJ K (upd H p o) (dR M p mo):=λ a mo' q=>by
 by_cases e:a=p
 ·subst e;rw[aC] at q;cases q;exact r
 ·rw[de e] at q;exact(h a mo' q).keep k λ u z=>by rw[aO e];exact z
structure Abs(K:FG)(H:Hp)(σ:St)(τ:DS)(M:MH):Prop where
 len:σ.length=τ.length
 val:∀ (i:Nat) w,τ[i]? =some (some w)->∃ v,σ[i]? =some (some v)/\aH K H w v
 mem:dJ K H M
theorem Abs.go{K:FG}{H H':Hp}{σ:St}{τ:DS}{M M':MH}(h:Abs K H σ τ M)(k:Kp H H')(m:dJ K H' M'):Abs K H' σ τ M':=
 ⟨h.len,λ i w e=>let ⟨v,q,r⟩:=h.val i w e; ⟨v,q,r.keep k⟩,m⟩
theorem Abs.set{K:FG}{H:Hp}{σ:St}{τ:DS}{M:MH}{w:W}{v:V}(h:Abs K H σ τ M)(i:Nat)(r:aH K H w v):Abs K H (σ.set i (some v)) (τ.set i (some w)) M:=by
 refine⟨by rw[List.length_set,List.length_set];exact h.len,λ j w' e=>?_,h.mem⟩
 by_cases hj:i=j
 ·subst hj;have hl:i<τ.length:=by
   have:=(List.getElem?_eq_some_iff.mp e).1
   rwa[List.length_set] at this
  rw[List.getElem?_set_self hl] at e;cases e;exact⟨v,List.getElem?_set_self (by rw[h.len];exact hl),r⟩
 ·rw[List.getElem?_set_ne hj] at e;obtain⟨v',q,r'⟩:=h.val j w' e;exact⟨v',by rw[List.getElem?_set_ne hj];exact q,r'⟩
abbrev QD:=W->MH->Prop
abbrev TD:=DS->MH->QD->Prop
abbrev TTd:=DS->MH->(Bool->MH->Prop)->Prop
abbrev TAd:=DS->MH->(List W->MH->Prop)->Prop
structure Ed where
 nx:DS->MH->Prop
 rt:QD
 bk:DS->MH->Prop:=λ _ _=>False
 ct:DS->MH->Prop:=λ _ _=>False
abbrev TSd:=Ed->DS->MH->Prop
def up(K:FG)(t:TD):TE:=λ σ H Q=>∃ τ M Qd,Abs K H σ τ M/\t τ M Qd/\∀ v H' w M',Kp H H'->aH K H' w v->dJ K H' M'->Qd w M'->Q v H'
def upT(K:FG)(t:TTd):TT:=λ σ H Q=>∃ τ M Qd,Abs K H σ τ M/\t τ M Qd/\∀ b H' M',Kp H H'->dJ K H' M'->Qd b M'->Q b H'
def upA(K:FG)(t:TAd):TA:=λ σ H Q=>∃ τ M Qd,Abs K H σ τ M/\t τ M Qd/\∀ vs H' ws M',Kp H H'->bQ K H' ws vs->dJ K H' M'->Qd ws M'->Q vs H'
def upS(K:FG)(t:TSd):TS:=λ D σ H=>∃ τ M Dd,Abs K H σ τ M/\t Dd τ M /\
 (∀ σ' H' τ' M',Kp H H'->Abs K H' σ' τ' M'->Dd.nx τ' M'->D.nx σ' H')/\(∀ v H' w M',Kp H H'->aH K H' w v->dJ K H' M'->Dd.rt w M'->D.rt v H') /\
 (∀ σ' H' τ' M',Kp H H'->Abs K H' σ' τ' M'->Dd.bk τ' M'->D.bk σ' H')/\(∀ σ' H' τ' M',Kp H H'->Abs K H' σ' τ' M'->Dd.ct τ' M'->D.ct σ' H')
abbrev PD(X:Cx)(e:Expr)(t:TD):Prop:=PE X e (up X.K t)
abbrev PTd(X:Cx)(e:Expr)(t:TTd):Prop:=PT X e (upT X.K t)
abbrev PAd(X:Cx)(es:List Expr)(t:TAd):Prop:=PA X es (upA X.K t)
abbrev PSd(X:Cx)(st:Stmt)(t:TSd):Prop:=PS X st (upS X.K t)
abbrev mP(X:Cx)(st:List Stmt)(t:TSd):Prop:=PSs X st (upS X.K t)
theorem fS(h:PE X e t)(k:∀ σ H Q,t' σ H Q->t σ H Q):PE X e t':=λ pins s σ H Q I q=>h pins s σ H Q I (k σ H Q q)
theorem aer(h:PT X e t)(k:∀ σ H Q,t' σ H Q->t σ H Q):PT X e t':=λ pins s σ H Q I q=>h pins s σ H Q I (k σ H Q q)
theorem aiR(h:PA X es t)(k:∀ σ H Q,t' σ H Q->t σ H Q):PA X es t':=λ pos pins s σ H Q I q=>h pos pins s σ H Q I (k σ H Q q)
theorem abx{st:Stmt}{t t':TS}(h:PS X st t)(k:∀ D σ H,t' D σ H->t D σ H):PS X st t':=λ pins s σ H D I q=>h pins s σ H D I (k D σ H q)
theorem afR{st:List Stmt}{t t':TS}(h:PSs X st t)(k:∀ D σ H,t' D σ H->t D σ H):PSs X st t':=λ pins s σ H D I q=>h pins s σ H D I (k D σ H q)
end D
namespace D
open L2
section
variable {X:Cx}{pos:Pos}{a b c e:Expr}{ta tb tc te:TD}{K:FG}
abbrev Kont(K:FG)(H:Hp)(Qd:QD)(Q:VK):Prop:=∀ v H' w M',Kp H H'->aH K H' w v->dJ K H' M'->Qd w M'->Q v H'
theorem kgo(k:Kont K H Qd Q)(kp:Kp H H1):Kont K H1 Qd Q:=λ v H' w M' k2 r m q=>k v H' w M' (kp.trans k2) r m q
inductive ai8(i:Nat) (τ:DS) (M:MH) (Q:QD):Prop
 | mk (w:W) (z:τ[i]? =some (some w)) (q:Q w M):ai8 i τ M Q
def aj(i:Nat)(τ:DS)(M:MH)(Q:QD):Prop:=ai8 i τ M Q
theorem aga(h:PE X e (ai3 i)):PD X e (aj i):=fS h λ σ H Q hq35=>by obtain⟨τ,M,Qd,A,⟨w,e,q⟩,k⟩:=hq35;obtain⟨v,e',r⟩:=A.val i w e;exact⟨v,e',k v H w M (Kp.refl H) r A.mem q⟩
def dC(w:W)(_:DS)(M:MH)(Q:QD):Prop:=Q w M
theorem abM(h:PE X e (tC v))(r:∀ H,aH X.K H w v):PD X e (dC w):=fS h λ σ H Q ⟨τ,M,Qd,A,q,k⟩=>k v H w M (Kp.refl H) (r H) A.mem q
def OpD(K:FG)(r:R2)(rd:W->W->MH->QD->Prop):Prop:=∀ x y H w w' M Qd Q,aH K H w x->aH K H w' y->dJ K H M->rd w w' M Qd->Kont K H Qd Q->r x y H Q
def dOp(rd:W->W->MH->QD->Prop)(ta tb:TD)(τ:DS)(M:MH)(Q:QD):Prop:=ta τ M λ w M1=>tb τ M1 λ w' M2=>rd w w' M2 Q
theorem uO(hd:OpD K r rd)(h:up K (dOp rd ta tb) σ H Q):tOp r (up K ta) (up K tb) σ H Q:=by obtain⟨τ,M,Qd,A,h,k⟩:=h;refine⟨τ,M,_,A,h,λ x H1 w M1 kp r1 m1 q1=>⟨τ,M1,_,A.go kp m1,q1,λ y H2 w' M2 kp2 r2 m2 q2=>?_⟩⟩;exact hd x y H2 w w' M2 Qd Q (r1.keep kp2) r2 m2 q2 (kgo k (kp.trans kp2))
theorem aif(ho:OpR X (binaryOp op) r)(hd:OpD X.K r rd)(ha:PD X a ta)(hb:PD X b tb):PD X (.BinOp a op b pos) (dOp rd ta tb):=fS (aeP ho ha hb) λ σ H Q h=>uO hd h
theorem agy(ho:OpR X (compareOp op) r)(hd:OpD X.K r rd)(ha:PD X a ta)(hb:PD X b tb)(hm:behindInMarks op b=false:=by first | exact jg _ (by decide) (by decide) | rfl) :
  PD X (.Compare a [op] [b] pos) (dOp rd ta tb):=fS (aco ho ha hb hm) λ σ H Q h=>uO hd h
theorem ahK(hr:IxR X r)(hd:OpD X.K r rd)(ha:PD X a ta)(hb:PD X b tb)(hs:sG b:=by intro _ _;rfl):PD X (.Subscript a b pos) (dOp rd ta tb):=fS (ahq hr ha hb hs) λ σ H Q h=>uO hd h
def aE(t:TD)(τ:DS)(M:MH)(Q:Bool->MH->Prop):Prop:=t τ M λ w M1=>∃ k,w=.d (.bool k)/\Q k M1
theorem kf(hi:∀ σ H Q,up K ta σ H Q->t' σ H Q)(h:upT K (aE ta) σ H Q):ab8 t' σ H Q:=by obtain⟨τ,M,Qd,A,h,k⟩:=h;refine hi σ H _ ⟨τ,M,_,A,h,λ v H' w M' kp r m hq36=>?_⟩;obtain⟨b,e,q⟩:=hq36;subst e;simp only[aH,aB] at r;exact⟨b,r,k b H' M' kp m q⟩
theorem adj(ho:OpR X (compareOp op) r)(hd:OpD X.K r rd)(ha:PD X a ta)(hb:PD X b tb)(hm:behindInMarks op b=false:=by first | exact jg _ (by decide) (by decide) | rfl) :
  PTd X (.Compare a [op] [b] pos) (aE (dOp rd ta tb)):=aer (ael ho ha hb hm) λ σ H Q h=>kf (λ _ _ _ q=>uO hd q) h
theorem aeg(h:PD X e te)(he:∀ whole,isTrue e X.env whole=(do let v <- whole;standAt e.pos;holding [v] (truthy v)):=by intro _;rfl):PTd X e (aE te):=aer (aeX h he) λ σ H Q q=>kf (λ _ _ _ z=>z) q
def eE(r r':W->W->MH->QD->Prop)(ta tb tc:TD)(τ:DS)(M:MH)(Q:QD):Prop:=ta τ M λ x M1=>tb τ M1 λ y M2=>r x y M2 λ z M3=>∃ k,z=.d (.bool k)/\(if k=true then tc τ M3 λ w' M4=>r' y w' M4 Q else Q (.d (.bool false)) M3)
theorem pM(hd:OpD K r rd)(hd':OpD K r' rd')(h:up K (eE rd rd' ta tb tc) σ H Q):yh r r' (up K ta) (up K tb) (up K tc) σ H Q:=by
 obtain⟨τ,M,Qd,A,h,k⟩:=h;refine⟨τ,M,_,A,h,λ x H1 w M1 kp r1 m1 q1=>⟨τ,M1,_,A.go kp m1,q1,λ y H2 w' M2 kp2 r2 m2 q2=>?_⟩⟩;have kq:=kp.trans kp2;refine hd x y H2 w w' M2 _ _ (r1.keep kp2) r2 m2 q2 λ v H3 w'' M3 kp3 r3 m3 hq37=>?_;obtain⟨b,e,q3⟩:=hq37;subst e;simp only[aH,aB] at r3;refine⟨b,r3,?_⟩;have kr:=kq.trans kp3;cases b with
 | false =>
  rw[if_neg Bool.false_ne_true] at q3 ⊢;exact k _ H3 _ M3 kr (by simp[aH,aB]) m3 q3
 | true =>
  rw[if_pos rfl] at q3 ⊢;exact⟨τ,M3,_,A.go kr m3,q3,λ u H4 w4 M4 kp4 r4 m4 q4=>hd' y u H4 w' w4 M4 Qd Q (r2.keep (kp3.trans kp4)) r4 m4 q4 (kgo k (kr.trans kp4))⟩
theorem aa9(ho:OpR X (compareOp op) r)(hd:OpD X.K r rd)(ho':OpR X (compareOp op') r')(hd':OpD X.K r' rd')(ha:PD X a ta)(hb:PD X b tb)(hc:PD X c tc)
  (hm:lastMarks [op,op'] [b,c]=false:=by with_unfolding_all rfl):PD X (.Compare a [op,op'] [b,c] pos) (eE rd rd' ta tb tc):=fS (aaQ ho ho' ha hb hc hm) λ σ H Q h=>pM hd hd' h
theorem xR(ho:OpR X (compareOp op) r)(hd:OpD X.K r rd)(ho':OpR X (compareOp op') r')(hd':OpD X.K r' rd')(ha:PD X a ta)(hb:PD X b tb)(hc:PD X c tc)
  (hm:lastMarks [op,op'] [b,c]=false:=by with_unfolding_all rfl):PTd X (.Compare a [op,op'] [b,c] pos) (aE (eE rd rd' ta tb tc)):=aer (aaS ho ho' ha hb hc hm) λ σ H Q h=>kf (λ _ _ _ q=>pM hd hd' q) h
variable {tA tB:TTd}{rest:List Expr}
def qb(t u:TTd)(τ:DS)(M:MH)(Q:Bool->MH->Prop):Prop:=t τ M λ k M1=>if k=true then u τ M1 Q else Q false M1
def dOr(t u:TTd)(τ:DS)(M:MH)(Q:Bool->MH->Prop):Prop:=t τ M λ k M1=>if k=true then Q true M1 else u τ M1 Q
def kZ(t:TTd)(τ:DS)(M:MH)(Q:Bool->MH->Prop):Prop:=t τ M λ k M1=>Q (!k) M1
abbrev PWd(X:Cx)(e:Expr)(t:TTd):Prop:=PW X e (upT X.K t)
theorem pw_w(h:PW X e t)(k:∀ σ H Q,t' σ H Q->t σ H Q):PW X e t':=λ w pins s σ H Q I q=>h w pins s σ H Q I (k σ H Q q)
theorem aa1(ha:PTd X a tA):PWd X (.BoolOp .And [a] pos) tA:=pw_and1 ha
theorem adC(ha:PTd X a tA):PWd X (.BoolOp .Or [a] pos) tA:=pw_or1 ha
theorem ad8(ha:PTd X a tA)(hb:PWd X (.BoolOp .And (b::rest) pos) tB):PWd X (.BoolOp .And (a::b::rest) pos) (qb tA tB):=pw_w (pw_and ha hb) λ σ H Q h=>by
 obtain⟨τ,M,Qd,A,h,k⟩:=h;refine⟨τ,M,_,A,h,λ b H1 M1 kp m1 q1=>?_⟩;cases b with
 | true=>rw[if_pos rfl] at q1 ⊢;exact⟨τ,M1,Qd,A.go kp m1,q1,λ b H2 M2 kp2 m2 q2=>k b H2 M2 (kp.trans kp2) m2 q2⟩
 | false=>rw[if_neg Bool.false_ne_true] at q1 ⊢;exact k _ H1 M1 kp m1 q1
theorem afm(ha:PTd X a tA)(hb:PWd X (.BoolOp .Or (b::rest) pos) tB):PWd X (.BoolOp .Or (a::b::rest) pos) (dOr tA tB):=pw_w (pw_or ha hb) λ σ H Q h=>by
 obtain⟨τ,M,Qd,A,h,k⟩:=h;refine⟨τ,M,_,A,h,λ b H1 M1 kp m1 q1=>?_⟩;cases b with
 | false=>rw[if_neg Bool.false_ne_true] at q1 ⊢;exact⟨τ,M1,Qd,A.go kp m1,q1,λ b H2 M2 kp2 m2 q2=>k b H2 M2 (kp.trans kp2) m2 q2⟩
 | true=>rw[if_pos rfl] at q1 ⊢;exact k _ H1 M1 kp m1 q1
theorem ah5(h:PWd X e tA):PTd X e tA:=h.pt
theorem aec(ha:PTd X a tA):PTd X (.UnaryOp .Not a pos) (kZ tA):=aer (agS ha) λ σ H Q h=>by obtain⟨τ,M,Qd,A,h,k⟩:=h;exact⟨τ,M,_,A,h,λ b H1 M1 kp m1 q1=>k (!b) H1 M1 kp m1 q1⟩
def tU(ta tb:TD)(τ:DS)(M:MH)(Q:QD):Prop:=ta τ M λ x M1=>∃ k,x=.d (.bool k)/\if k=true then tb τ M1 Q else Q (.d (.bool false)) M1
def aih(ta tb:TD)(τ:DS)(M:MH)(Q:QD):Prop:=ta τ M λ x M1=>∃ k,x=.d (.bool k)/\if k=true then Q (.d (.bool true)) M1 else tb τ M1 Q
def adv(ta:TD)(τ:DS)(M:MH)(Q:QD):Prop:=ta τ M λ x M1=>∃ k,x=.d (.bool k)/\Q (.d (.bool (!k))) M1
theorem afJ{op}(h:PD X a ta):PD X (.BoolOp op [a] pos) ta:=agg h
theorem ae2(ha:PD X a ta)(hb:PD X (.BoolOp .And (b::rest) pos) tb):PD X (.BoolOp .And (a::b::rest) pos) (tU ta tb):=fS (aeJ ha hb) λ σ H Q h=>by
 obtain⟨τ,M,Qd,A,h,k⟩:=h;refine⟨τ,M,_,A,h,λ x H1 w M1 kp r1 m1 hq38=>?_⟩;obtain⟨b,e,q1⟩:=hq38;subst e;simp only[aH,aB] at r1;refine⟨b,r1,?_⟩;cases b with
 | true=>rw[if_pos rfl] at q1 ⊢;exact⟨τ,M1,Qd,A.go kp m1,q1,kgo k kp⟩
 | false=>rw[if_neg Bool.false_ne_true] at q1 ⊢;exact k _ H1 _ M1 kp (by simp[aH,aB]) m1 q1
theorem aiw(ha:PD X a ta)(hb:PD X (.BoolOp .Or (b::rest) pos) tb):PD X (.BoolOp .Or (a::b::rest) pos) (aih ta tb):=fS (aho ha hb) λ σ H Q h=>by
 obtain⟨τ,M,Qd,A,h,k⟩:=h;refine⟨τ,M,_,A,h,λ x H1 w M1 kp r1 m1 hq39=>?_⟩;obtain⟨b,e,q1⟩:=hq39;subst e;simp only[aH,aB] at r1;refine⟨b,r1,?_⟩;cases b with
 | false=>rw[if_neg Bool.false_ne_true] at q1 ⊢;exact⟨τ,M1,Qd,A.go kp m1,q1,kgo k kp⟩
 | true=>rw[if_pos rfl] at q1 ⊢;exact k _ H1 _ M1 kp (by simp[aH,aB]) m1 q1
theorem agq(ha:PD X a ta):PD X (.UnaryOp .Not a pos) (adv ta):=fS (ago ha) λ σ H Q h=>by obtain⟨τ,M,Qd,A,h,k⟩:=h;refine⟨τ,M,_,A,h,λ x H1 w M1 kp r1 m1 hq40=>?_⟩;obtain⟨b,e,q1⟩:=hq40;subst e;simp only[aH,aB] at r1;exact⟨b,r1,k _ H1 _ M1 kp (by simp[aH,aB]) m1 q1⟩
def abN(t:TTd)(ta tb:TD)(τ:DS)(M:MH)(Q:QD):Prop:=t τ M λ k M1=>if k=true then ta τ M1 Q else tb τ M1 Q
theorem zD(hc:PTd X c tA)(ha:PD X a ta)(hb:PD X b tb):PD X (.IfExp c a b pos) (abN tA ta tb):=fS (zF hc ha hb) λ σ H Q h=>by
 obtain⟨τ,M,Qd,A,h,k⟩:=h;refine⟨τ,M,_,A,h,λ b H1 M1 kp m1 q1=>?_⟩;cases b with
 | true=>rw[if_pos rfl] at q1 ⊢;exact⟨τ,M1,Qd,A.go kp m1,q1,kgo k kp⟩
 | false=>rw[if_neg Bool.false_ne_true] at q1 ⊢;exact⟨τ,M1,Qd,A.go kp m1,q1,kgo k kp⟩
variable {es:List Expr}{t:TAd}
def av(_:DS)(M:MH)(Q:List W->MH->Prop):Prop:=Q [] M
def ae(ta:TD)(tr:TAd)(τ:DS)(M:MH)(Q:List W->MH->Prop):Prop:=ta τ M λ w M1=>tr τ M1 λ ws M2=>Q (w::ws) M2
theorem gv:PAd X [] av:=aiR wj λ σ H Q ⟨τ,M,Qd,A,h,k⟩=>k [] H [] M (Kp.refl H) .nil A.mem h
theorem uq(ha:PD X e te)(hr:PAd X es t)(hs:starEach (e::es) X.env=(false,eval e X.env)::starEach es X.env:=by rfl):PAd X (e::es) (ae te t):=aiR (oJ ha hr hs) λ σ H Q h=>by obtain⟨τ,M,Qd,A,h,k⟩:=h;exact⟨τ,M,_,A,h,λ x H1 w M1 kp r1 m1 q1=>⟨τ,M1,_,A.go kp m1,q1,λ xs H2 ws M2 kp2 r2 m2 q2=>k _ H2 _ M2 (kp.trans kp2) (.cons (r1.keep kp2) r2) m2 q2⟩⟩
def pb:List W->Option (List PyData)
 | []=>some []
 | .d x::r=>(pb r).map (x::·)
 | _::_=>none
theorem oO:∀ {ws:List W} {ds:List PyData},pb ws=some ds->ws=ds.map W.d
 | [],ds,h=>by simp only[pb] at h;cases h;rfl
 | .d x::r,ds,h=>by
  simp only[pb] at h;cases q:pb r with
  | none=>rw[q] at h;cases h
  | some l=>rw[q] at h;cases h;rw[oO q];rfl
 | .m _::_,ds,h=>by simp[pb] at h
 | .t _::_,ds,h=>by simp[pb] at h
def dq(t:TAd)(τ:DS)(M:MH)(Q:QD):Prop:=t τ M λ ws M1=>∃ ds,pb ws=some ds/\ds.length<=sizeLine/\Q (.d (.list ds)) M1
theorem adZ(hp:H p=none)(r:bD K H ds vs):aB K (upd H p (.frz o (.lst vs))) (.list ds) (.ref p):=by simp only[aB];exact⟨p,vs,rfl,.inl ⟨o,aP⟩,r.keep (Kp.new hp)⟩
theorem ik(hp:H p=none)(r:bD K H ds vs)(m:dJ K H M)(q:Qd (.d (.list ds)) M)(k:Kont K H Qd Q) :
  ∃ p' u,V.ref p=.ref p'/\(upd H p (.lst vs)) p'=some u/\Fz u/\∀ o,Q (.ref p) (upd (upd H p (.lst vs)) p' (.frz o u)):=by
 refine⟨p,_,rfl,aP,trivial,λ o=>?_⟩;rw[tD];exact k _ _ (.d (.list ds)) M (Kp.new hp) (adZ hp r) (m.new hp) q
theorem agE(h:PAd X es t):PD X (.List es pos) (dq t):=fS (iD (abK h)) λ σ H Q h=>by obtain⟨τ,M,Qd,A,h,k⟩:=h;refine⟨τ,M,_,A,h,λ vs H1 ws M1 kp r1 m1 hq41=>?_⟩;obtain⟨ds,e,hz,q1⟩:=hq41;have e':=oO e;subst e';have rA:=r1.data;exact⟨by rw[rA.length];exact hz,λ p hp=>ik hp rA m1 q1 (kgo k kp)⟩
def xO(t:TAd)(τ:DS)(M:MH)(Q:QD):Prop:=t τ M λ ws M1=>ws.length<=sizeLine/\∀ p,M1 p=none->Q (.m p) (dR M1 p (.lst ws))
theorem ab5(h:PAd X es t):PD X (.List es pos) (xO t):=fS (abK h) λ σ H Q h=>by obtain⟨τ,M,Qd,A,h,k⟩:=h;refine⟨τ,M,_,A,h,λ vs H1 ws M1 kp r1 m1 ⟨hz,q1⟩=>⟨by rw[<- r1.length];exact hz,λ p hp=>?_⟩⟩;exact k _ _ (.m p) (dR M1 p (.lst ws)) (kp.trans (Kp.new hp)) rfl (m1.put (mo:=.lst ws) (Kp.new hp) ⟨vs,aP,r1.keep (Kp.new hp)⟩) (q1 p (m1.free hp))
def eX(t:TAd)(τ:DS)(M:MH)(Q:QD):Prop:=t τ M λ ws M1=>∃ ds,pb ws=some ds/\ds.length<=sizeLine/\Q (.d (.tuple ds)) M1
theorem afu{x1}(h:PAd X es t):PD X (.Tuple es x1 pos) (eX t):=fS (abG h) λ σ H Q h=>by obtain⟨τ,M,Qd,A,h,k⟩:=h;refine⟨τ,M,_,A,h,λ vs H1 ws M1 kp r1 m1 hq42=>?_⟩;obtain⟨ds,e,hz,q1⟩:=hq42;have e':=oO e;subst e';have rA:=r1.data;refine⟨by rw[rA.length];exact hz,λ p hp=>k _ _ (.d (.tuple ds)) M1 (kp.trans (Kp.new hp)) ?_ (m1.new hp) q1⟩;simp only[aH,aB];exact⟨p,vs,rfl,.inl (.inl aP),rA.keep (Kp.new hp)⟩
variable {x:Str}{p:Pos}{id T:String}{r:List V->Hp->VK->Prop}{rd:List W->MH->QD->Prop}
def fz(K:FG)(r:List V->Hp->VK->Prop)(rd:List W->MH->QD->Prop):Prop:=∀ vs H ws M Qd Q,bQ K H ws vs->dJ K H M->rd ws M Qd->Kont K H Qd Q->r vs H Q
def dCB(rd:List W->MH->QD->Prop)(t:TAd)(τ:DS)(M:MH)(Q:QD):Prop:=t τ M λ ws M1=>rd ws M1 Q
theorem abF(hd:fz K r rd)(h:up K (dCB rd t) σ H Q):tCB r (upA K t) σ H Q:=by obtain⟨τ,M,Qd,A,h,k⟩:=h;exact⟨τ,M,_,A,h,λ vs H1 ws M1 kp r1 m1 q1=>hd vs H1 ws M1 Qd Q r1 m1 q1 (kgo k kp)⟩
theorem aaG(hc:eL X (.builtin id) r)(hd:fz X.K r rd)(hg:Gl X x)(hm:X.mg x=none)(hv:bootBuiltins x=some (.builtin id))(ha:PAd X (e::es) t)(hn:x ≠ "__name__":= by decide)(hdb:ND x:=by decide)
  (he:starEach (e::es) X.env=(false,eval e X.env)::starEach es X.env:=by rfl)(hpl:(backTo pos (starEach es X.env)).any (·.1)=false:=by rfl):PD X (.Call (.Name x p) (e::es) [] pos) (dCB rd t):=
 fS (uP hc hg hm hv ha hn hdb he hpl) λ σ H Q h=>abF hd h
theorem xH(hc:eL X (.type T) r)(hd:fz X.K r rd)(hg:Gl X x)(hm:X.mg x=none)(hv:bootBuiltins x=some (.type T))(ha:PAd X (e::es) t)(hn:x ≠ "__name__":= by decide)(hdb:ND x:=by decide)
  (he:starEach (e::es) X.env=(false,eval e X.env)::starEach es X.env:=by rfl)(hpl:(backTo pos (starEach es X.env)).any (·.1)=false:=by rfl):PD X (.Call (.Name x p) (e::es) [] pos) (dCB rd t):=
 fS (yK hc hg hm hv ha hn hdb he hpl) λ σ H Q h=>abF hd h
end
section
variable {X:Cx}{pos:Pos}{st:Stmt}{sts:List Stmt}{t u:TSd}{e:Expr}{te:TD}{K:FG}
def bj(D:Ed)(τ:DS)(M:MH):Prop:=D.nx τ M
def bc(t u:TSd)(D:Ed)(τ:DS)(M:MH):Prop:=t {D with nx:=u D} τ M
theorem yI(h1:PSd X st t)(h2:mP X sts u):mP X (st::sts) (bc t u):=afR (aaL h1 h2) λ D σ H ⟨τ,M,Dd,A,h,k1,k2,k3,k4⟩ =>
 ⟨τ,M,{Dd with nx:=u Dd},A,h,λ σ' H' τ' M' kp A' q=>⟨τ',M',Dd,A',q,λ σ2 H2 τ2 M2 kp2=>k1 σ2 H2 τ2 M2 (kp.trans kp2),λ v H2 w M2 kp2=>k2 v H2 w M2 (kp.trans kp2),λ σ2 H2 τ2 M2 kp2=>k3 σ2 H2 τ2 M2 (kp.trans kp2),λ σ2 H2 τ2 M2 kp2=>k4 σ2 H2 τ2 M2 (kp.trans kp2)⟩,k2,k3,k4⟩
theorem aa5(h1:PSd X st t):mP X [st] t:=adu h1
def jW(te:TD)(D:Ed)(τ:DS)(M:MH):Prop:=te τ M λ _ M1=>D.nx τ M1
theorem zA(he:PD X e te)(hs:swapsWith e none pos.line X.env=pure false:=by rfl):PSd X (.Expr e pos) (jW te):=abx (acD he hs) λ D σ H ⟨τ,M,Dd,A,h,k1,_⟩ =>
 ⟨τ,M,_,A,h,λ v H1 w M1 kp r m q=>k1 σ H1 τ M1 kp (A.go kp m) q⟩
def bK(te:TD)(D:Ed)(τ:DS)(M:MH):Prop:=te τ M D.rt
theorem ac8(he:PD X e te):PSd X (.Return (some e) pos) (bK te):=abx (aeN he) λ D σ H ⟨τ,M,Dd,A,h,k1,k2,_⟩=>⟨τ,M,_,A,h,λ v H1 w M1 kp r m q=>k2 v H1 w M1 kp r m q⟩
def dIf(c:TTd)(t u:TSd)(D:Ed)(τ:DS)(M:MH):Prop:=c τ M λ b M1=>if b=true then t D τ M1 else u D τ M1
theorem afD(hc:PTd X c tc)(ha:mP X a t)(hb:mP X b u):PSd X (.If c a b pos) (dIf tc t u):=abx (aim hc ha hb) λ D σ H hq43=>by
 obtain⟨τ,M,Dd,A,h,k1,k2,k3,k4⟩:=hq43;refine⟨τ,M,_,A,h,λ b H1 M1 kp m q=>?_⟩;have go:∀ {t':TSd},t' Dd τ M1->upS X.K t' D σ H1:=λ {t'} q=>⟨τ,M1,Dd,A.go kp m,q,λ σ2 H2 τ2 M2 kp2=>k1 σ2 H2 τ2 M2 (kp.trans kp2),λ v H2 w M2 kp2=>k2 v H2 w M2 (kp.trans kp2),λ σ2 H2 τ2 M2 kp2=>k3 σ2 H2 τ2 M2 (kp.trans kp2),λ σ2 H2 τ2 M2 kp2=>k4 σ2 H2 τ2 M2 (kp.trans kp2)⟩;cases b with
 | true=>rw[if_pos rfl] at q;show(if true=true then upS X.K t D σ H1 else upS X.K u D σ H1);rw[if_pos rfl];exact go q
 | false=>rw[if_neg Bool.false_ne_true] at q;show(if false=true then upS X.K t D σ H1 else upS X.K u D σ H1);rw[if_neg Bool.false_ne_true];exact go q
abbrev TGd:=W->DS->MH->(DS->MH->Prop)->Prop
def upG(K:FG)(g:TGd):TG:=λ v σ H Q=>∃ w τ M Qd,aH K H w v/\Abs K H σ τ M/\g w τ M Qd/\∀ σ' H' τ' M',Kp H H'->Abs K H' σ' τ' M'->Qd τ' M'->Q σ' H'
abbrev PGd(X:Cx)(e:Expr)(g:TGd):Prop:=PG X e (upG X.K g)
theorem aie(h:PG X e g)(k:∀ v σ H Q,g' v σ H Q->g v σ H Q):PG X e g':=λ pins s σ H v u Q I r q=>h pins s σ H v u Q I r (k v σ H Q q)
def gN(i:Nat)(w:W)(τ:DS)(M:MH)(Q:DS->MH->Prop):Prop:=Q (τ.set i (some w)) M
def cE(te:TD)(g:TGd)(D:Ed)(τ:DS)(M:MH):Prop:=te τ M λ w M1=>g w τ M1 D.nx
theorem ab6(h:upS K (cE te g) D σ H):ahY (up K te) (upG K g) D σ H:=by obtain⟨τ,M,Dd,A,h,k1,_⟩:=h;exact⟨τ,M,_,A,h,λ v H1 w M1 kp r m q=>⟨w,τ,M1,_,r,A.go kp m,q,λ σ2 H2 τ2 M2 kp2 A2 q2=>k1 σ2 H2 τ2 M2 (kp.trans kp2) A2 q2⟩⟩
theorem acq(he:PD X e te)(hg:PGd X tg g)(hs:swapsWithSole [tg] e pos.line X.env=pure false:=by rfl)(hw:swappedStores [tg] e X.env=pure none:=by rfl)
  (h1:(assignEach [tg] X.env).map (·.2)=[assign tg X.env]:=by rfl):PSd X (.Assign [tg] e pos) (cE te g):=abx (afF he hg hs hw h1) λ D σ H h=>ab6 h
theorem ab0(hN:X.N.Nodup)(hi:X.N[i]? =some x)(hx:Loc X.env.scope x)(he:PD X e te)(hs:swapsWith e (some (.Name x pos')) pos.line X.env=pure false:=by rfl)(hf:X.fn x=true\/X.env.scope.names.lookup x=some .local:=by first | exact .inl rfl | exact .inr rfl | assumption) :
  PSd X (.Assign [.Name x pos'] e pos) (cE te (gN i)):=abx (agZ hN hi hx he hs hf) λ D σ H ⟨τ,M,Dd,A,h,k1,_⟩ =>
 ⟨τ,M,_,A,h,λ v H1 w M1 kp r m q=>k1 _ H1 _ M1 kp ((A.go kp m).set i r) q⟩
end
abbrev SpD:=List W->MH->QD->Prop
def eQ(K:FG)(sp:SpD):Sp:=λ vs H Q _=>∃ ws M Qd,bQ K H ws vs/\dJ K H M/\sp ws M Qd/\Kont K H Qd Q
def aW(sp:SpD)(t:TAd)(τ:DS)(M:MH)(Q:QD):Prop:=t τ M λ ws M1=>sp ws M1 Q
theorem aek(F:cU X.prog X.w X.K X.mg X.base CX0 k f fd ps (eQ X.K sp))(hr:gm k X.A)(hg:Gl X x)(hm:X.mg x=some (.ref f))(hk:W.keepIn X.K (.ref f)=true)(hb:Binds X.K fd ps [])
  (ha:PAd X (e::es) t)(hdb:ND x:=by decide)(he:starEach (e::es) X.env=(false,eval e X.env)::starEach es X.env:=by rfl)(hpl:(backTo pos (starEach es X.env)).any (·.1)=false:=by rfl) :
  PD X (.Call (.Name x p) (e::es) [] pos) (aW sp t):=fS (aei (E:=E0) (dvs:=[]) F hr hg hm hk hb .nil agh ha hdb he hpl) λ σ H Q h=>by
 obtain⟨τ,M,Qd,A,h,k⟩:=h;exact⟨τ,M,_,A,h,λ vs H1 ws M1 kp r1 m1 q1=>⟨ws,M1,Qd,by rw[List.append_nil];exact r1,m1,q1,kgo k kp⟩⟩
def dQ(N:List Str)(ws:List W):DS:=ws.map some++List.replicate (N.length-ws.length) none
section
variable {P:Program}{w:World}{K:FG}{mg:Str->Option Value}{base:Heap}
theorem kQ(r:bQ K H ws vs)(m:dJ K H M):Abs K H (start N vs) (dQ N ws) M:=by
 have hl:=r.length;refine⟨?_,λ i w e=>?_,m⟩
 ·simp[L2.start,dQ,hl]
 ·unfold dQ at e
  by_cases hi:i<ws.length
  ·rw[List.getElem?_append_left (by simpa using hi),List.getElem?_map] at e;cases q:ws[i]? with
   | none=>rw[q] at e;cases e
   | some w' =>
    rw[q] at e;cases e;obtain⟨v,e1,r1⟩:=r.get q;refine⟨v,?_,r1⟩;unfold L2.start;rw[List.getElem?_append_left (by rw[List.length_map,<- hl];exact hi),List.getElem?_map,e1];rfl
  ·rw[List.getElem?_append_right (by simpa using hi),List.getElem?_replicate] at e
   split at e<;>cases e
theorem bH{x qual:Str}{st:Stmt}{N ps:List Str}{k:Nat}{sp:SpD}{t:TSd}(F:Fun K x qual st f fd)(S:aQ N ps (ao st))(len:∀ ws M Q,sp ws M Q->ws.length=ps.length)
  (hbody:∀ (cdv:Value) (A:Around) (outer:List Env) (s:Shared) (H:Hp) (E:XK),gm k (A.deeper (envOfC qual (ao st) s.heap.objs.size f cdv)) ->
   mP (rX CX0 P w K mg base N qual (ao st) f cdv A outer s H E).nox (bU st) t)
  (read:∀ ws M Q,sp ws M Q->t {nx:=λ _ M'=>Q (.d .none) M',rt:=Q} (dQ N ws) M):cU P w K mg base CX0 (k+1) f fd ps (eQ K sp):=by
 refine F.ok S (λ vs H Q E h=>?_) (λ cdv A outer s H vs Q E hr h=>?_)
 ·obtain⟨ws,M,Qd,r,_,q,_⟩:=h;rw[<- r.length];exact len _ _ _ q
 ·obtain⟨ws,M,Qd,r,m,q,kk⟩:=h;refine⟨_,hbody cdv A outer s H E hr,dQ N ws,M,_,kQ r m,read ws M Qd q,λ σ' H' τ' M' kp A' q'=>?_,λ v H' w' M' kp r' m' q'=>?_,λ σ' H' τ' M' kp A' q'=>q'.elim,λ σ' H' τ' M' kp A' q'=>q'.elim⟩
  ·exact kk _ H' _ M' kp (by simp[aH,aB]) A'.mem q'
  ·exact kk v H' w' M' kp r' m' q'
end
end D
namespace L2
structure l4(k:Nat)(A:Around):Prop where
 gd:A.guards=some []
 dp:A.depth+3 * k+5<recursionLimit
 un:A.units+16 * k+200<cLine
theorem l4.units(r:l4 k A):A.units+64<cLine:=by have:=r.un;omega
theorem gm.h(r:gm k A):l4 k A:=⟨r.gd,r.dp,r.un⟩
end L2
namespace D
open L2
mutual
theorem dM(I:Inv X pins σ H s):∀ (d:PyData) {x:V} {u:Value},aB X.K H d x->RelV x u->d.hasDict=false->∃ as,Reads s.heap u d as
 | .none,x,u,h,r,_=>by simp only[aB] at h;subst h;cases (show u=Value.none from r);exact⟨_,.none⟩
 | .bool b,x,u,h,r,_=>by simp only[aB] at h;subst h;cases (show u=Value.bool b from r);exact⟨_,.bool b⟩
 | .int i,x,u,h,r,_=>by simp only[aB] at h;subst h;obtain⟨t,e⟩:=(show ∃ t,u=Value.int i t from r);subst e;exact⟨_,.int i t⟩
 | .str z,x,u,h,r,_=>by simp only[aB] at h;subst h;obtain⟨t,e⟩:=(show ∃ t,u=Value.str z t from r);subst e;exact⟨_,.str z t⟩
 | .list ds,x,u,h,r,hd=>by simp only[aB] at h;obtain⟨a,vs,e,hs,ra⟩:=h;subst e;cases (show u=Value.ref a from r);obtain⟨its,rv,⟨o,n,e1,e2,e3,e4⟩,hz⟩:=I.list hs.sq;obtain⟨as,q⟩:=kM I ds ra rv (by simpa [PyData.hasDict] using hd);exact⟨_,.list e1 e2 e4 (by simpa using q)⟩
 | .tuple ds,x,u,h,r,hd=>by simp only[aB] at h;obtain⟨a,vs,e,hs,ra⟩:=h;subst e;cases (show u=Value.ref a from r);obtain⟨its,rv,⟨o,e1,e2,n,e4⟩,hz⟩:=I.tuple hs;obtain⟨as,q⟩:=kM I ds ra rv (by simpa [PyData.hasDict] using hd);exact⟨_,.tuple e1 e2 e4 (by simpa using q)⟩
 | .dict kvs,x,u,h,r,hd=>by simp[PyData.hasDict] at hd
theorem kM(I:Inv X pins σ H s):∀ (ds:List PyData) {xs:List V} {us:List Value},bD X.K H ds xs->Vals xs us->PyData.hasDictAll ds=false->∃ as,ReadsAll s.heap us ds as
 | [],xs,us,h,r,_=>by simp only[bD] at h;subst h;cases r;exact⟨_,.nil⟩
 | d::ds,xs,us,h,r,hd=>by
  simp only[bD] at h;obtain⟨v,vr,e,h1,h2⟩:=h;subst e;simp only[PyData.hasDictAll,Bool.or_eq_false_iff] at hd;cases r with
  | cons r1 r2 =>
   obtain⟨as,q1⟩:=dM I d h1 r1 hd.1;obtain⟨bs,q2⟩:=kM I ds h2 r2 hd.2;exact⟨_,.cons q1 q2⟩
end
def adU:PyData->Bool
 | .none | .bool _ | .int _ | .str _=>true
 | _=>false
theorem vE:∀ {d:PyData} {x:V} {u:Value} {h:Heap} {K:FG} {H:Hp},adU d=true->aB K H d x->RelV x u->Reads h u d []
 | .none,x,u,h,K,H,_,e,r=>by simp only[aB] at e;subst e;cases (show u=Value.none from r);exact .none
 | .bool b,x,u,h,K,H,_,e,r=>by simp only[aB] at e;subst e;cases (show u=Value.bool b from r);exact .bool b
 | .int i,x,u,h,K,H,_,e,r=>by simp only[aB] at e;subst e;obtain⟨t,z⟩:=(show ∃ t,u=Value.int i t from r);subst z;exact .int i t
 | .str i,x,u,h,K,H,_,e,r=>by simp only[aB] at e;subst e;obtain⟨t,z⟩:=(show ∃ t,u=Value.str i t from r);subst z;exact .str i t
 | .list _,_,_,_,_,_,f,_,_=>nomatch f
 | .tuple _,_,_,_,_,_,f,_,_=>nomatch f
 | .dict _,_,_,_,_,_,f,_,_=>nomatch f
theorem ll{P:Program}{w:World}{h:Heap}{K:FG}{H:Hp}:∀ {kvs:List (PyData×PyData)} {l:List (Key×V)} {vs:List (Key×Value)} {es:List DictEntry},(kvs.all λ p=>adU p.2)=true->oH K H kvs l->KV l vs->Pairs (a9 P w) es vs ->
  ReadsAll h (es.map (·.key)) (kvs.map (·.1)) []/\ReadsAll h (es.map (·.val)) (kvs.map (·.2)) []
 | [],l,vs,es,_,r,kv,p=>by simp only[oH] at r;subst r;cases kv;cases p;exact⟨.nil,.nil⟩
 | (k,d)::kvs,l,vs,es,f,r,kv,p=>by
  simp only[oH] at r;obtain⟨key,v,lr,e,ek,r1,r2⟩:=r;subst e;rw[List.all_cons,Bool.and_eq_true] at f;cases kv with
  | cons q1 q2 =>
   rename_i kv0 vs0
   obtain⟨k0,u0⟩:=kv0;obtain⟨q1,q3⟩:=q1;cases p with
   | cons p1 p2 p3 =>
    rename_i en es0
    obtain⟨i1,i2⟩:=ll f.2 r2 q2 p3;have rk:Reads h en.key k []:=by
     have hk:nM k0 en.key=true:=p1;have hk0:key=k0:=q1;subst hk0;rw[ek];rcases bI hk with ⟨i,t,z1,z2⟩ | ⟨i,t,z1,z2⟩
     ·subst z1;rw[z2];exact .int i t
     ·subst z1;rw[z2];exact .str i t
    have rv:Reads h en.val d []:=by rw[p2];exact vE f.1 r1 q3
    exact⟨.cons rk i1,.cons rv i2⟩
def gC(d:PyData):Bool:=d.showable&&decide (d.shown.length<=sizeLine)&&decide (d.depth<=60)&&(!d.hasDict || match d with
 | .dict kvs=>kvs.all λ p=>adU p.2
 | _=>false)
theorem vG(I:Inv X pins σ H s){d:PyData}{x:V}{u:Value}(h:aB X.K H d x)(r:RelV x u)(ok:gC d=true):∃ as,Reads s.heap u d as/\(d.hasDict=true->sysModules ∉ as):=by
 simp only[gC,Bool.and_eq_true,Bool.or_eq_true] at ok;cases hd:d.hasDict with
 | false =>
  obtain⟨as,q⟩:=dM I d h r hd;exact⟨as,q,λ z=>absurd z (by simp)⟩
 | true =>
  have f:=ok.2.resolve_left (by simp[hd]);cases d with
  | dict kvs =>
   simp only[aB] at h;obtain⟨a,o,l,e,ha,rk⟩:=h;subst e;cases (show u=Value.ref a from r);obtain⟨z,hs,vs,kv,o',es,ep,e1,e2,e3,e4,e5,e6⟩:=vH I.hok (.inr ⟨o,ha⟩);obtain⟨q1,q2⟩:=ll (h:=s.heap) f rk kv e5;refine⟨_,.dict e1 e2.1 e3 q1 q2,λ _ hm=>?_⟩;simp only[List.append_nil] at hm;have hm':sysModules=a:=by simpa using hm
   rw[<- hm'] at hs;simp at hs
  | _=>exact absurd f (by simp)
def sh(d:PyData):Bool:=SeqAt.shaped d&&!d.hasDict
def eR:PyData->PyData->Bool
 | .str _,.str _=>true
 | d,d'=>sh d&&sh d'
theorem fP(h:eR d d'=true):(∃ x y,d=.str x/\d'=.str y)\/(sh d=true/\sh d'=true):=by
 cases d with
 | str x =>
  cases d' with
  | str y=>exact .inl ⟨x,y,rfl,rfl⟩
  | _=>exact .inr (by simpa [eR] using h)
 | _=>exact .inr (by simpa [eR] using h)
theorem tH(x y:Str):decide (V.str x=V.str y)=PyData.eqv (.str x) (.str y):=by
 rw[PyData.eqv]
 by_cases e:x=y
 ·subst e;simp
 ·rw[decide_eq_false (λ z=>e (V.str.inj z))];exact(beq_eq_false_iff_ne.mpr e).symm
theorem abU(hr:l4 k X.A):OpR X (compareOp .Eq) (λ x y H Q=>∃ d d',aB X.K H d x/\aB X.K H d' y/\eR d d'=true/\Q (.bl (PyData.eqv d d')) H):=by
 intro pins s σ H x y v u Q I rx ry h;obtain⟨d,d',h1,h2,o,q⟩:=h;rcases fP o with ⟨a,b,e1,e2⟩ | ⟨o1,o2⟩
 ·subst e1;subst e2;simp only[aB] at h1 h2;subst h1;subst h2;exact ah0 pins s σ H _ _ v u Q I rx ry ⟨rfl,by rw[tH];exact q⟩
 simp only[sh,Bool.and_eq_true,Bool.not_eq_true'] at o1 o2;obtain⟨as,r1⟩:=dM I d h1 rx o1.2;obtain⟨bs,r2⟩:=dM I d' h2 ry o2.2;exact eq_dataH r1 r2 o1.1 o2.1 hr.units ⟨.bl _,H,I,rfl,q⟩
theorem aeT(hr:l4 k X.A):OpR X (compareOp .NotEq) (λ x y H Q=>∃ d d',aB X.K H d x/\aB X.K H d' y/\eR d d'=true/\Q (.bl (!PyData.eqv d d')) H):=by
 intro pins s σ H x y v u Q I rx ry h;obtain⟨d,d',h1,h2,o,q⟩:=h;rcases fP o with ⟨a,b,e1,e2⟩ | ⟨o1,o2⟩
 ·subst e1;subst e2;simp only[aB] at h1 h2;subst h1;subst h2;exact ahB pins s σ H _ _ v u Q I rx ry ⟨rfl,by rw[tH];exact q⟩
 simp only[sh,Bool.and_eq_true,Bool.not_eq_true'] at o1 o2;obtain⟨as,r1⟩:=dM I d h1 rx o1.2;obtain⟨bs,r2⟩:=dM I d' h2 ry o2.2;exact ne_dataH r1 r2 o1.1 o2.1 hr.units ⟨.bl _,H,I,rfl,q⟩
def tyD:PyData->String
 | .none => "NoneType"
 | .bool _ => "bool"
 | .int _ => "int"
 | .str _ => "str"
 | .list _ => "list"
 | .tuple _ => "tuple"
 | .dict _ => "dict"
inductive Ty6:String->Prop where
 | int:Ty6 "int" | bool:Ty6 "bool" | str:Ty6 "str" | list:Ty6 "list" | tuple:Ty6 "tuple" | dict:Ty6 "dict"
def jR(d:PyData)(T:String):Bool:=tyD d==T || (T == "int" && tyD d == "bool")
theorem xE{K:FG}(d:PyData){T:String}(h:Ty6 T):W.kitOne K (.type (tyD d)) (.type T)=some (jR d T):=by
 cases h<;>cases d<;>rfl
theorem wW:eL X (.builtin "isinstance") (λ xs H Q=>∃ x d T,xs=[x,.ty T]/\aB X.K H d x/\Ty6 T/\Q (.bl (jR d T)) H):=by
 intro pins s σ H xs us Q I r h;obtain⟨x,d,T,rfl,rd,h6,q⟩:=h;obtain⟨u,w',rfl,rx,ry⟩:=vals2 r;cases (show w'=Value.type T from ry);have e:=xE (K:=X.K) d h6;have fin:∀ tk,EP X pins σ Q (.bool (jR d T)) {s with toks:=tk}:=λ tk=>⟨.bl _,H,I.tok _,rfl,q⟩;generalize jR d T=b at e fin;cases d with
 | none=>simp only[aB] at rd;subst rd;cases (show u=Value.none from rx);exact W.kia_one W.kitx_none I.kIn True.intro e (λ z=>nomatch z) fin
 | bool y=>simp only[aB] at rd;subst rd;cases (show u=Value.bool y from rx);exact W.kia_one W.kitx_bool I.kIn True.intro e (λ z=>nomatch z) fin
 | int i=>simp only[aB] at rd;subst rd;obtain⟨t,z⟩:=(show ∃ t,u=Value.int i t from rx);subst z;exact W.kia_one W.kitx_int I.kIn True.intro e (λ z=>nomatch z) fin
 | str y=>simp only[aB] at rd;subst rd;obtain⟨t,z⟩:=(show ∃ t,u=Value.str y t from rx);subst z;exact W.kia_one W.kitx_str I.kIn True.intro e (λ z=>nomatch z) fin
 | list ds =>
  simp only[aB] at rd;obtain⟨a,vs,z,hs,_⟩:=rd;subst z;cases (show u=Value.ref a from rx);obtain⟨its,rv,⟨o,n,e1,e2,e3,e4⟩,hz⟩:=I.list hs.sq;exact W.kia_one W.kitx_list I.kIn ⟨_,e1,e2⟩ e (λ z=>nomatch z) fin
 | tuple ds =>
  simp only[aB] at rd;obtain⟨a,vs,z,hs,_⟩:=rd;subst z;cases (show u=Value.ref a from rx);obtain⟨its,rv,⟨o,e1,e2,e3⟩,hz⟩:=I.tuple hs;exact W.kia_one W.kitx_tuple I.kIn ⟨_,e1,e2⟩ e (λ z=>nomatch z) fin
 | dict kvs =>
  simp only[aB] at rd;obtain⟨a,o,l,z,ha,_⟩:=rd;subst z;cases (show u=Value.ref a from rx);obtain⟨_,hs,vs,kv,o',es,ep,e1,e2,_⟩:=vH I.hok (.inr ⟨o,ha⟩);exact W.kia_one W.kitx_dict I.kIn ⟨_,e1,e2.1⟩ e (λ z=>nomatch z) fin
theorem qH{K:FG}{H:Hp}:∀ {bs:List Bool} {vs:List V} {us:List Value},bD K H (bs.map PyData.bool) vs->Vals vs us->LSm.BoolsAre us bs
 | [],vs,us,h,r=>by simp only[List.map_nil,bD] at h;subst h;cases r;exact .nil
 | b::bs,vs,us,h,r=>by
  simp only[List.map_cons,bD] at h;obtain⟨v,vr,e,h1,h2⟩:=h;subst e;simp only[aB] at h1;subst h1;cases r with
  | cons r1 r2=>cases (show _=Value.bool b from r1);exact .cons b (qH h2 r2)
theorem eC(hc:X.calm=true):eL X (.builtin "all") (λ xs H Q=>∃ (x:V) (bs:List Bool),xs=[x]/\aB X.K H (.list (bs.map PyData.bool)) x/\Q (.bl (bs.all id)) H):=by
 intro pins s σ H xs us Q I r h;obtain⟨x,bs,rfl,rd,q⟩:=h;obtain⟨u,rfl,rx⟩:=vals1 r;simp only[aB] at rd;obtain⟨a,vs,z,hs,ra⟩:=rd;subst z;cases (show u=Value.ref a from rx);obtain⟨its,rv,pl,hz⟩:=I.list hs.sq;obtain⟨m,F⟩:=I.fr;have N:News X.base X.env.locals s.heap []:=λ p hp=>nomatch hp;have hb:=qH ra rv;have hl:s.heap.IsList a its.toArray:=pl.isList;have hlt:a<s.heap.objs.size:=by obtain⟨_,e,_⟩:=hl;exact Heap.lt_size e
 refine call_all_walk (wpAny_pyIter_list hl ?_);refine⟨s.heap.objs.size,[s.heap.objs.size,a],[s.heap.objs.size],its.toArray.size,_,_,λ i=>(bs[i]?).getD true,rfl,Walks.list (A:=X.A.in1) (I.ok.hd hc) _ a (Nat.ne_of_lt hlt) its.toArray,
  ⟨⟨_,Heap.get?_push_size _ rfl,rfl,rfl⟩,hl.push _⟩,λ i v s' Q' E' hP hQ=>?_,λ h' tk hk=>?_⟩
 ·obtain⟨b,e,rfl⟩:=hb.get i v (by simpa using hP);simp only[e,Option.getD_some] at hQ;exact wpAny_truthy_bool hQ
 ·have e:((List.range its.toArray.size).all λ i=>(bs[i]?).getD true)=bs.all id:=by rw[List.size_toArray,hb.length];exact LSm.range_all bs
  rw[e];exact⟨.bl _,H,I.kept (LSm.kept_iter hk),rfl,q⟩
end D
namespace D
open L2
section
variable {X:Cx}{K:FG}
theorem OpR.or(h:OpR X f r)(h':OpR X f r'):OpR X f (λ x y H Q=>r x y H Q\/r' x y H Q):=by
 intro pins s σ H x y v u Q I rx ry q;rcases q with q | q
 ·exact h pins s σ H x y v u Q I rx ry q
 ·exact h' pins s σ H x y v u Q I rx ry q
theorem OpD.or(h:OpD K r rd)(h':OpD K r' rd'):OpD K (λ x y H Q=>r x y H Q\/r' x y H Q) (λ w w' M Q=>rd w w' M Q\/rd' w w' M Q):=by
 intro x y H w w' M Qd Q r1 r2 m q k;rcases q with q | q
 ·exact .inl (h x y H w w' M Qd Q r1 r2 m q k)
 ·exact .inr (h' x y H w w' M Qd Q r1 r2 m q k)
def adR(g:Int->Int->PyData)(w:W)(w':W)(M:MH)(Q:QD):Prop:=∃ i j,w=.d (.int i)/\w'=.d (.int j)/\Q (.d (g i j)) M
def rdI(C:Int->Int->Prop)(g:Int->Int->PyData)(w:W)(w':W)(M:MH)(Q:QD):Prop:=∃ i j,w=.d (.int i)/\w'=.d (.int j)/\C i j/\Q (.d (g i j)) M
theorem mN(hg:∀ i j H,aB K H (gd i j) (g i j)):OpD K (rI0 g) (adR gd):=by intro x y H w w' M Qd Q r1 r2 m ⟨i,j,e1,e2,q⟩ k;subst e1;subst e2;simp only[aH,aB] at r1 r2;exact⟨i,j,r1,r2,k _ H (.d (gd i j)) M (Kp.refl H) (hg i j H) m q⟩
theorem zY(hg:∀ i j H,aB K H (gd i j) (g i j)):OpD K (rI C g) (rdI C gd):=by intro x y H w w' M Qd Q r1 r2 m ⟨i,j,e1,e2,c,q⟩ k;subst e1;subst e2;simp only[aH,aB] at r1 r2;exact⟨i,j,r1,r2,c,k _ H (.d (gd i j)) M (Kp.refl H) (hg i j H) m q⟩
def sj(w w':W)(M:MH)(Q:QD):Prop:=adR (λ i j=>.int (i-j)) w w' M Q
def ix(w w':W)(M:MH)(Q:QD):Prop:=rdI afe (λ i j=>.int (i * j)) w w' M Q
def fG(w w':W)(M:MH)(Q:QD):Prop:=rdI (λ _ j=>0<j) (λ i j=>.int (i % j)) w w' M Q
def xI(w w':W)(M:MH)(Q:QD):Prop:=rdI ahz (λ i j=>.int (i / j)) w w' M Q
def ad0(w w':W)(M:MH)(Q:QD):Prop:=rdI ah4 (λ i j=>.int (i ^ j.toNat)) w w' M Q
def cu(w:W)(w':W)(M:MH)(Q:QD):Prop:=adR (λ i j=>.int (i+j)) w w' M Q\/∃ x y,w=.d (.str x)/\w'=.d (.str y)/\x.length+y.length<=sizeLine/\Q (.d (.str (x++y))) M
theorem kU:OpD K (rI0 λ i j=>.int (i-j)) sj:=mN λ _ _ _=>by simp[aB]
theorem jw:OpD K (rI afe λ i j=>.int (i * j)) ix:=zY λ _ _ _=>by simp[aB]
theorem gF:OpD K (rI (λ _ j=>0<j) λ i j=>.int (i % j)) fG:=zY λ _ _ _=>by simp[aB]
theorem wK:OpD K (rI ahz λ i j=>.int (i / j)) xI:=zY λ _ _ _=>by simp[aB]
theorem adm:OpD K (rI ah4 λ i j=>.int (i ^ j.toNat)) ad0:=zY λ _ _ _=>by simp[aB]
def ac2:R2:=λ x y H Q=>∃ i j,x=.str i/\y=.str j/\i.length+j.length<=sizeLine/\Q (.str (i++j)) H
theorem aaX:OpD K ac2 (λ w w' M Q=>∃ x y,w=.d (.str x)/\w'=.d (.str y)/\x.length+y.length<=sizeLine/\Q (.d (.str (x++y))) M):=by intro x y H w w' M Qd Q r1 r2 m ⟨i,j,e1,e2,c,q⟩ k;subst e1;subst e2;simp only[aH,aB] at r1 r2;exact⟨i,j,r1,r2,c,k _ H (.d (.str (i++j))) M (Kp.refl H) (by simp[aH,aB]) m q⟩
theorem bq:OpR X (binaryOp .Add) (λ x y H Q=>rI0 (λ i j=>.int (i+j)) x y H Q\/ac2 x y H Q):=OpR.or aeY vD
theorem aX:OpD K (λ x y H Q=>rI0 (λ i j=>.int (i+j)) x y H Q\/ac2 x y H Q) cu:=OpD.or (mN λ _ _ _=>by simp[aB]) aaX
def rS(g:Str->Str->Bool):R2:=λ x y H Q=>∃ i j,x=.str i/\y=.str j/\Q (.bl (g i j)) H
def rdS(g:Str->Str->Bool)(w:W)(w':W)(M:MH)(Q:QD):Prop:=∃ i j,w=.d (.str i)/\w'=.d (.str j)/\Q (.d (.bool (g i j))) M
theorem af8:OpD K (rS g) (rdS g):=by intro x y H w w' M Qd Q r1 r2 m ⟨i,j,e1,e2,q⟩ k;subst e1;subst e2;simp only[aH,aB] at r1 r2;exact⟨i,j,r1,r2,k _ H (.d (.bool (g i j))) M (Kp.refl H) (by simp[aH,aB]) m q⟩
theorem yH:OpR X (compareOp .LtE) (rS λ x y=>!decide (y.cps.toList<x.cps.toList)):=by intro pins s σ H x y v u Q I rx ry h;obtain⟨i,j,rfl,rfl,q⟩:=h;obtain⟨t,rfl⟩:=rx;obtain⟨t',rfl⟩:=ry;exact PySem.P.le_str ⟨.bl _,H,I,rfl,q⟩
def lp(w:W)(w':W)(M:MH)(Q:QD):Prop:=adR (λ i j=>.bool (decide (i<=j))) w w' M Q\/rdS (λ x y=>!decide (y.cps.toList<x.cps.toList)) w w' M Q
theorem cT:OpR X (compareOp .LtE) (λ x y H Q=>rI0 (λ i j=>.bl (decide (i<=j))) x y H Q\/rS (λ x y=>!decide (y.cps.toList<x.cps.toList)) x y H Q):=OpR.or ahI yH
theorem bV:OpD K (λ x y H Q=>rI0 (λ i j=>.bl (decide (i<=j))) x y H Q\/rS (λ x y=>!decide (y.cps.toList<x.cps.toList)) x y H Q) lp:=OpD.or (mN λ _ _ _=>by simp[aB]) af8
def ahp(w w':W)(M:MH)(Q:QD):Prop:=adR (λ i j=>.bool (decide (i<j))) w w' M Q
def uL(w w':W)(M:MH)(Q:QD):Prop:=adR (λ i j=>.bool (decide (j<i))) w w' M Q
def aix(w w':W)(M:MH)(Q:QD):Prop:=adR (λ i j=>.bool (decide (j<=i))) w w' M Q
theorem abL:OpD K (rI0 λ i j=>.bl (decide (i<j))) ahp:=mN λ _ _ _=>by simp[aB]
theorem jK:OpD K (rI0 λ i j=>.bl (decide (j<i))) uL:=mN λ _ _ _=>by simp[aB]
theorem ag0:OpD K (rI0 λ i j=>.bl (decide (j<=i))) aix:=mN λ _ _ _=>by simp[aB]
def aiP(w:W)(w':W)(M:MH)(Q:QD):Prop:=∃ d d',w=.d d/\w'=.d d'/\eR d d'=true/\Q (.d (.bool (PyData.eqv d d'))) M
theorem agT:OpD K (λ x y H Q=>∃ d d',aB K H d x/\aB K H d' y/\eR d d'=true/\Q (.bl (PyData.eqv d d')) H) aiP:=by intro x y H w w' M Qd Q r1 r2 m ⟨d,d',e1,e2,o1,q⟩ k;subst e1;subst e2;exact⟨d,d',r1,r2,o1,k _ H (.d (.bool _)) M (Kp.refl H) (by simp[aH,aB]) m q⟩
def inS(x y:Str):Bool:=!(Builtin.Str.occurrences y x 0 y.length 1).isEmpty
def aaZ(w w':W)(M:MH)(Q:QD):Prop:=rdS inS w w' M Q
theorem sF:OpD K (rS inS) aaZ:=af8
theorem wA:OpR X (compareOp .In) (rS inS):=wb
def tK:W->Bool
 | .d (.str z)=>decide (z.length<=sizeLine)
 | _=>true
def ixW(M:MH):W->Int->Option W
 | .d (.list ds),i=>(atI ds i).map W.d
 | .d (.tuple ds),i=>(atI ds i).map W.d
 | .d (.str z),i=>(atI z.cps.toList i).map λ c=>W.d (.str ⟨#[c]⟩)
 | .m a,i=>match M a with
  | some (.lst ws)=>atI ws i
  | some (.tup ws)=>atI ws i
  | _=>none
 | _,_=>none
inductive RIx(w:W) (w':W) (M:MH) (Q:QD):Prop
 | mk (i:Int) (x:W) (z0:w'=.d (.int i)) (z1:ixW M w i=some x) (z2:tK w=true) (q:Q x M):RIx w w' M Q
def cH(w:W)(w':W)(M:MH)(Q:QD):Prop:=RIx w w' M Q
theorem uX(r:bD K H ds vs)(e:atI ds i=some d):∃ v,atI vs i=some v/\aB K H d v:=by
 unfold atI at e ⊢;rw[r.length];cases q:ixN ds.length i with
 | none=>rw[q] at e;cases e
 | some j =>
  rw[q] at e;exact r.get e
theorem qT(r:bQ K H ds vs)(e:atI ds i=some d):∃ v,atI vs i=some v/\aH K H d v:=by
 unfold atI at e ⊢;rw[<- r.length];cases q:ixN ds.length i with
 | none=>rw[q] at e;cases e
 | some j =>
  rw[q] at e;exact r.get e
theorem aS:OpD K (rIx K) cH:=by
 intro x y H w w' M Qd Q r1 r2 m ⟨i,z,e2,ei,hf,q⟩ k;subst e2;simp only[aH,aB] at r2;cases w with
 | t n=>simp[ixW] at ei
 | m a =>
  simp only[aH] at r1;simp only[ixW] at ei;cases hm:M a with
  | none=>rw[hm] at ei;cases ei
  | some mo =>
   rw[hm] at ei;cases mo with
   | lst ws =>
    obtain⟨vs,e1,rw1⟩:=m a _ hm;obtain⟨v,e3,rv⟩:=qT rw1 ei;exact .inl ⟨a,vs,i,v,r1,r2,SqL.of e1,e3,k v H z M (Kp.refl H) rv m q⟩
   | dic _=>cases ei
   | dct _=>cases ei
   | fdic _=>cases ei
   | ins _ _=>cases ei
   | tup ws =>
    obtain⟨vs,e1,rw1⟩:=m a _ hm;obtain⟨v,e3,rv⟩:=qT rw1 ei;exact .inr (.inl ⟨a,vs,i,v,r1,r2,.inl (.inl e1),e3,k v H z M (Kp.refl H) rv m q⟩)
   | flst _=>cases ei
   | exc _ _=>cases ei
   | code _ _=>cases ei
 | d d =>
  cases d with
  | list ds =>
   simp only[aH,aB] at r1;obtain⟨a,vs,e1,hs,ra⟩:=r1;simp only[ixW] at ei;cases h:atI ds i with
   | none=>rw[h] at ei;cases ei
   | some d =>
    rw[h] at ei;cases ei;obtain⟨v,e3,rv⟩:=uX ra h;exact .inl ⟨a,vs,i,v,e1,r2,hs.sq,e3,k v H (.d d) M (Kp.refl H) rv m q⟩
  | tuple ds =>
   simp only[aH,aB] at r1;obtain⟨a,vs,e1,hs,ra⟩:=r1;simp only[ixW] at ei;cases h:atI ds i with
   | none=>rw[h] at ei;cases ei
   | some d =>
    rw[h] at ei;cases ei;obtain⟨v,e3,rv⟩:=uX ra h;exact .inr (.inl ⟨a,vs,i,v,e1,r2,hs,e3,k v H (.d d) M (Kp.refl H) rv m q⟩)
  | str s =>
   simp only[aH,aB] at r1;simp only[ixW] at ei;cases h:atI s.cps.toList i with
   | none=>rw[h] at ei;cases ei
   | some c =>
    rw[h] at ei;cases ei;exact .inr (.inr ⟨s,i,c,r1,r2,of_decide_eq_true hf,h,k _ H (.d (.str ⟨#[c]⟩)) M (Kp.refl H) (by simp[aH,aB]) m q⟩)
  | _=>simp[ixW] at ei
theorem adf(h:PE X e t):PE X e (λ σ H Q=>t σ H λ v H1=>Q v H1\/∃ p u,v=.ref p/\H1 p=some u/\Fz u/\∀ o,Q v (upd H1 p (.frz o u))):=by
 intro pins s σ H Q I hq;refine thn (h pins s σ H _ I hq) λ v s1 hq44=>?_;obtain⟨x,H1,I1,r1,q⟩:=hq44;rcases q with q | ⟨p,u,e1,e2,f,q⟩
 ·exact⟨x,_,I1,r1,q⟩
 ·obtain⟨o,I2⟩:=I1.freeze e2 f;exact⟨x,_,I2,r1,q o⟩
def aiO:V->Option Int->Option Int->Hp->VK->Prop:=λ x lo hi H Q=>∃ z,x=.str z/\z.length<=sizeLine/\Q (.str (Txt.slice z lo hi)) H
theorem afd:SlR X aiO:=by
 intro pins s σ H x v vl vu lo hi sl Q I rx hs pl pu h;obtain⟨z,rfl,hz,q⟩:=h;obtain⟨t,rfl⟩:=rx;have fin:∀ t' k,EP X pins σ Q (.str (Txt.slice z lo hi) t') {s with toks:=k}:=λ t' k=>⟨.str _,H,I.tok _,⟨_,rfl⟩,q⟩;refine⟨"str",_,F.slot_str_getitem.lookup,typeIs_str _ _ _,?_⟩;cases pl with
 | none =>
  cases pu with
  | none=>exact wpAny_getItem_str_slice (l:=none) (u:=none) (st:=none) hs rfl (post_val_or_str ⟨Nat.le_trans (Txt.slice_le z _ _) hz,fin⟩)
  | int j uj=>exact wpAny_getItem_str_slice (l:=none) (u:=some (j,uj)) (st:=none) hs rfl (post_val_or_str ⟨Nat.le_trans (Txt.slice_le z _ _) hz,fin⟩)
 | int i ui =>
  cases pu with
  | none=>exact wpAny_getItem_str_slice (l:=some (i,ui)) (u:=none) (st:=none) hs rfl (post_val_or_str ⟨Nat.le_trans (Txt.slice_le z _ _) hz,fin⟩)
  | int j uj=>exact wpAny_getItem_str_slice (l:=some (i,ui)) (u:=some (j,uj)) (st:=none) hs rfl (post_val_or_str ⟨Nat.le_trans (Txt.slice_le z _ _) hz,fin⟩)
abbrev TOd:=DS->MH->(Option Int->MH->Prop)->Prop
def upO(K:FG)(t:TOd):TO:=λ σ H Q=>∃ τ M Qd,Abs K H σ τ M/\t τ M Qd/\∀ b H' M',Kp H H'->dJ K H' M'->Qd b M'->Q b H'
abbrev POd(X:Cx)(e:Option Expr)(t:TOd):Prop:=PO X e (upO X.K t)
theorem aiD(h:PO X e t)(k:∀ σ H Q,t' σ H Q->t σ H Q):PO X e t':=λ pins s σ H Q I q=>h pins s σ H Q I (k σ H Q q)
def bt(_:DS)(M:MH)(Q:Option Int->MH->Prop):Prop:=Q none M
def cX(t:TD)(τ:DS)(M:MH)(Q:Option Int->MH->Prop):Prop:=t τ M λ w M1=>∃ i,w=.d (.int i)/\Q (some i) M1
theorem aar(h:PD X e te):POd X (some e) (cX te):=aiD (acb h) λ σ H Q ⟨τ,M,Qd,A,q,k⟩=>⟨τ,M,_,A,q,λ v H1 w M1 kp r m hq45=>by obtain⟨i,e,q1⟩:=hq45;subst e;simp only[aH,aB] at r;exact⟨i,r,k _ H1 M1 kp m q1⟩⟩
def cutD(xs:List α)(lo hi:Option Int):List α:=(xs.drop (HT.sIx xs.length 0 lo)).take (HT.sIx xs.length xs.length hi-HT.sIx xs.length 0 lo)
def ng(n:Nat)(lo hi:Option Int):Bool:=decide (HT.sIx n 0 lo=0/\HT.sIx n n hi=n)
def slW:W->Option Int->Option Int->Option W
 | .d (.list ds),lo,hi=>some (.d (.list (cutD ds lo hi)))
 | .d (.tuple ds),lo,hi=>if ng ds.length lo hi then none else some (.d (.tuple (cutD ds lo hi)))
 | .d (.str z),lo,hi=>some (.d (.str (Txt.slice z lo hi)))
 | _,_,_=>none
def dSl(te:TD)(tl th:TOd)(τ:DS)(M:MH)(Q:QD):Prop:=te τ M λ w M1=>tl τ M1 λ lo M2=>th τ M2 λ hi M3=>∃ z,slW w lo hi=some z/\tK w=true/\Q z M3
theorem af7:SlR X (λ x lo hi H Q=>ai4 X.K x lo hi H Q\/ai9 X.K x lo hi H Q\/aiO x lo hi H Q):=adK.or (agP.or afd)
theorem bD.cut(r:bD K H ds vs)(lo hi:Option Int):bD K H (cutD ds lo hi) (abi vs lo hi):=by
 unfold cutD abi;rw[r.length];exact(r.drop _).take _
theorem abf{te:TD}{lo hi:Option Expr}{tl th:TOd}{pos p2:Pos}(he:PD X e te)(hl:POd X lo tl)(hu:POd X hi th):PD X (.Subscript e (.Slice lo hi none p2) pos) (dSl te tl th):=
 fS (adf (abe af7 he hl hu)) λ σ H Q h=>by
  obtain⟨τ,M,Qd,A,h,k⟩:=h;refine⟨τ,M,_,A,h,λ v H1 w M1 kp1 r1 m1 q1=>⟨τ,M1,_,A.go kp1 m1,q1,λ lo H2 M2 kp2 m2 q2=>⟨τ,M2,_,A.go (kp1.trans kp2) m2,q2,λ hi H3 M3 kp3 m3 q3=>?_⟩⟩⟩;obtain⟨z,ez,hf,q⟩:=q3;have kp:=(kp1.trans kp2).trans kp3;have r:=r1.keep (kp2.trans kp3);cases w with
  | t n=>simp[slW] at ez
  | m a=>simp[slW] at ez
  | d d =>
   cases d with
   | list ds =>
    simp only[slW] at ez;cases ez;simp only[aH,aB] at r;obtain⟨a,vs,e1,hs,ra⟩:=r;exact .inl ⟨a,vs,e1,hs.sq,λ p hp=>.inr (ik hp (bD.cut ra lo hi) m3 q (kgo k kp))⟩
   | tuple ds =>
    simp only[slW] at ez
    split at ez
    ·cases ez
    ·rename_i hw
     cases ez;simp only[aH,aB] at r;obtain⟨a,vs,e1,hs,ra⟩:=r;refine .inr (.inl ⟨a,vs,e1,hs,?_,λ p hp=>.inl ?_⟩)
     ·rw[ra.length]
      simpa [ng] using hw
     ·refine k _ _ (.d (.tuple _)) M3 (kp.trans (Kp.new hp)) ?_ (m3.new hp) q;simp only[aH,aB];exact⟨p,_,rfl,.inl (.inl aP),(bD.cut ra lo hi).keep (Kp.new hp)⟩
   | str s =>
    simp only[slW] at ez;cases ez;simp only[aH,aB] at r;exact .inr (.inr ⟨s,r,of_decide_eq_true hf,.inl (k _ H3 (.d (.str _)) M3 kp (by simp[aH,aB]) m3 q)⟩)
   | _=>simp[slW] at ez
def aao(to ti:TD)(v:W)(τ:DS)(M:MH)(Q:DS->MH->Prop):Prop:=to τ M λ w M1=>ti τ M1 λ w' M2=>∃ a ws i j,w=.m a/\w'=.d (.int i)/\M2 a=some (.lst ws)/\ixN ws.length i=some j/\Q τ (dR M2 a (.lst (ws.set j v)))
theorem xF(m:dJ K H M)(e:H a=some (.lst vs))(rw1:bQ K H ws vs)(rv:aH K H w v) :
  Kp H (upd H a (.lst (vs.set j v)))/\dJ K (upd H a (.lst (vs.set j v))) (dR M a (.lst (ws.set j w))):=by
 have kp:Kp H (upd H a (.lst (vs.set j v))):=Kp.set e (λ xs z=>nomatch z) λ _ _ z=>nomatch z;exact⟨kp,m.put kp ⟨_,aP,(bQ.set rv j rw1).keep kp⟩⟩
theorem adS(ho:PD X o to)(hi:PD X i ti)
  (ha:∀ v,assign (.Subscript o i pos) X.env v=(do
   let ov <- holding [v] (eval o X.env)
   let iv <- holding [v,ov] (eval i X.env)
   standAt pos
   holding [v,ov,iv] (setItem ov iv v)
   release [v,ov,iv] []):=by intro _;rfl):PGd X (.Subscript o i pos) (aao to ti):=aie (agc ho hi set_list ha) λ v σ H Q h=>by
 obtain⟨w,τ,M,Qd,rv,A,h,k⟩:=h;refine⟨τ,M,_,A,h,λ x H1 wo M1 kp1 r1 m1 q1=>⟨τ,M1,_,A.go kp1 m1,q1,λ y H2 wi M2 kp2 r2 m2 q2=>?_⟩⟩;obtain⟨a,ws,i,j,e1,e2,hm,hj,q⟩:=q2;subst e1;subst e2;simp only[aH,aB] at r1 r2;obtain⟨vs,e3,rw1⟩:=m2 a _ hm;have kp:=kp1.trans kp2;obtain⟨kp3,m3⟩:=xF (j:=j) m2 e3 rw1 (rv.keep kp);exact⟨a,vs,i,j,r1,r2,e3,by rw[<- rw1.length];exact hj,k σ _ τ _ (kp.trans kp3) (A.go (kp.trans kp3) m3) q⟩
theorem zy:aiZ X (ahX X.K):=by
 intro pins s σ H o i ov iv Q I ro ri h;obtain⟨p,xs,k,z,rfl,rfl,hq,he,q⟩:=h;cases ro;obtain⟨t,rfl⟩:=ri;obtain⟨its,r,pl,hz⟩:=I.list hq;obtain⟨j,h1,h2,h3,h4,h5⟩:=oA he;obtain⟨w,ew,rw'⟩:=r.get h2;have hl:=r.length;have hn:=l8;have fin:EP X pins σ Q w s:=⟨z,H,I,rw',q⟩
 by_cases h0:0<=k
 ·have hj:k.toNat=j:=by rw[seqIndex_of h0 h5] at h1;exact Option.some.inj h1
  exact wpAny_getItem_list pl.isList h0 (by omega) (by rw[hj];simpa using ew) fin
 ·have hj:(k+(its.toArray.size:Int)).toNat=j:=by rw[seqIndex_neg (by omega) h4] at h1;rw[List.size_toArray,<- hl];exact Option.some.inj h1
  exact wpAny_getItem_list_neg pl.isList (by omega) (by rw[List.size_toArray]<;>omega) (by omega) (by rw[hj];simpa using ew) fin
def zN(to ti te:TD)(f:Int->Int->Int)(D:Ed)(τ:DS)(M:MH):Prop:=to τ M λ w M1=>ti τ M1 λ w' M2=>∃ a ws i j n,w=.m a/\w'=.d (.int i)/\M2 a=some (.lst ws)/\ixN ws.length i=some j/\ws[j]? =some (.d (.int n)) /\
 te τ M2 λ y M3=>∃ n',y=.d (.int n')/\M3=M2/\D.nx τ (dR M3 a (.lst (ws.set j (.d (.int (f n n'))))))
theorem aaA(ho:PD X o to)(hi:PD X i ti)(he:PD X e te)(hp:PIp X op (ipI f))
  (ha:∀ ov iv new,augStore i ov iv new=(do holding [new,ov,iv] (setItem ov iv new);release [new,ov,iv] [];pure .next):=by intros;rfl):PSd X (.AugAssign (.Subscript o i tpos) op e pos) (zN to ti te f):=
 abx (adY ho hi zy he hp set_list ha) λ D σ H h=>by
  obtain⟨τ,M,Dd,A,h,k1,_⟩:=h;refine⟨τ,M,_,A,h,λ x H1 wo M1 kp1 r1 m1 q1=>⟨τ,M1,_,A.go kp1 m1,q1,λ y H2 wi M2 kp2 r2 m2 q2=>?_⟩⟩;obtain⟨a,ws,i,j,n,e1,e2,hm,hj,hn,q⟩:=q2;subst e1;subst e2;simp only[aH,aB] at r1 r2;obtain⟨vs,e3,rw1⟩:=m2 a _ hm;obtain⟨v,e4,rv⟩:=rw1.get hn;simp only[aH,aB] at rv;have hj':ixN vs.length i=some j:=by rw[<- rw1.length];exact hj
  refine⟨a,vs,i,v,r1,r2,SqL.of e3,by unfold atI;rw[hj'];exact e4,?_⟩;refine⟨τ,M2,_,A.go (kp1.trans kp2) m2,q,λ z H3 wz M3 kp3 r3 m3 q3=>?_⟩;obtain⟨n',e5,e6,qn⟩:=q3;subst e5;subst e6;simp only[aH,aB] at r3;refine⟨n,n',rv,r3,?_⟩;obtain⟨vs',e3',rw2⟩:=m3 a _ hm;have kp:=(kp1.trans kp2).trans kp3;obtain⟨kp4,m4⟩:=xF (j:=j) (v:=.int (f n n')) (w:=.d (.int (f n n'))) m3 e3' rw2 (by simp[aH,aB]);exact⟨a,vs',i,j,r1,r2,e3',by rw[<- rw2.length];exact hj,k1 σ _ τ _ (kp.trans kp4) (A.go (kp.trans kp4) m4) qn⟩
end
section
variable {X:Cx}{K:FG}{tg:Expr}
def Its(z:Str):It:=⟨λ i _=>i<z.cps.size,λ i H x H'=>H'=H/\∃ c,z.cps[i]? =some c/\x=.str ⟨#[c]⟩,λ i _=>z.cps.size<=i⟩
theorem uR(it:Addr)(T:String)(z:Str)(t:Tok)
  (hT:["enumerate", "zip", "dict_itemiterator", "dict_reverseitemiterator", "odict_iterator", "itertools.zip_longest", "itertools.pairwise"].contains T=false)
  (W:∀ A:Around,A.handled=none->Walks P w A it [it] [it] z.cps.size (SignAt z) (λ i h=>h.IsStrIter it T z t i))(hself:∀ (A:Around) (i:Nat) (s:Shared) (Q:VP) (E:VP),s.heap.IsStrIter it T z t i->Q (.ref it) s->wpAny (model P w) A (pyIter (.ref it)) Q E s)
  (hend:∀ (A:Around) (i:Nat) (s:Shared) (Q:Option Value->Shared->Prop) (E:VP),A.handled=none->s.heap.IsStrIter it T z t i->z.cps[i]? =none->(∀ h',Heap.ExtBut it s.heap h'->Q none {s with heap:=h'})->wpAny (model P w) A (pyNext (.ref it)) Q E s) :
  Turn P w K tg (Its z) [it] it (λ i h=>h.IsStrIter it T z t i) where
 mem:=by simp
 obj:=λ i h st b hb=>by
  have e:b=it:=by simpa using hb
  subst e;obtain⟨o,e,c,d⟩:=st;exact⟨o,e,λ v q=>by rw[d] at q;cases q⟩
 keep:=λ i h h' st k=>by obtain⟨o,e,r⟩:=st;exact⟨o,k it (by simp) o e,r⟩
 item:=by intro X hP hw hK hc i pins s σ H E I hf st hg;subst hP hw hK;obtain⟨f0,f1,f2,f3,f4,f5⟩:=hf it (by simp);refine(W X.A (I.ok.hd hc)).item i s _ _ hg st λ v h' tk hv st' kk=>?_;obtain⟨c,u,hc',rfl⟩:=hv;have I1:Inv X pins σ H {s with heap:=h',toks:=tk}:=I.turned (λ b o hb e=>kk b o (by simpa using hb) e) f0 f1 f3 f4 f5;obtain⟨o,e,cl,d⟩:=id st';exact⟨_,rfl,aax (s:={s with heap:=h',toks:=tk}) e cl d hT ⟨.str ⟨#[c]⟩,H,I1,⟨u,rfl⟩,⟨rfl,c,hc',rfl⟩,st',λ b hb=>(hf b hb).1⟩⟩
 done:=by intro X hP hw hK hc i pins s σ H E I hf st hg;subst hP hw hK;obtain⟨f0,f1,f2,f3,f4,f5⟩:=hf it (by simp);have hn:z.cps.size<=i:=hg;exact hend X.A i s _ E (I.ok.hd hc) st (by simp[hn]) λ h' eb=>⟨rfl,I.turned (t':=s.toks) (λ b o hb e=>eb b o hb e) f0 f1 f3 f4 f5⟩
 self:=hself
section
variable {pins:PN}{σ:St}{H:Hp}{s:Shared}{R:It->Hp->Prop}{E:VP}
theorem ae3(I:Inv X pins σ H s)(q:R (Its z) H):wpAny (model X.prog X.w) X.A (pyIter (.str z t)) (PIE X pins σ tg R) E s:=by
 cases ha:z.cps.all (·<128)
 ·refine wpAny_pyIter_wide ha ?_;refine⟨s.heap.objs.size,[s.heap.objs.size],_,_,H,rfl,I.kept (t':=s.toks) λ b o e=>Heap.get?_push_of_some _ e,
   uR _ "str_iterator" z t (by decide) (λ A hA=>Walks.strWide hA _ z t) (λ A i s Q E st h=>wpAny_pyIter_striter_wide st h) (λ A i s Q E hh st hx hQ=>wpAny_pyNext_wide_end hh st hx hQ),⟨_,Heap.get?_push_size _ rfl,rfl,rfl⟩,λ b hb=>?_,q⟩
  have e:b=s.heap.objs.size:=by simpa using hb
  subst e;exact I.vX (Nat.le_refl _) (I.hok.fresh (Nat.le_refl _))
 ·refine wpAny_pyIter_ascii ha ?_;refine⟨s.heap.objs.size,[s.heap.objs.size],_,_,H,rfl,I.kept (t':=s.toks) λ b o e=>Heap.get?_push_of_some _ e,
   uR _ "str_ascii_iterator" z t (by decide) (λ A hA=>Walks.strAscii hA _ z t) (λ A i s Q E st h=>wpAny_pyIter_striter_ascii st h) (λ A i s Q E hh st hx hQ=>wpAny_pyNext_ascii_end hh st hx hQ),⟨_,Heap.get?_push_size _ rfl,rfl,rfl⟩,λ b hb=>?_,q⟩
  have e:b=s.heap.objs.size:=by simpa using hb
  subst e;exact I.vX (Nat.le_refl _) (I.hok.fresh (Nat.le_refl _))
theorem ac6(I:Inv X pins σ H s)(hq:SqL X.K H a xs)(q:R (Itl X.K a) H):wpAny (model X.prog X.w) X.A (pyIter (.ref a)) (PIE X pins σ tg R) E s:=by
 obtain⟨its,rv,p,hz⟩:=I.list hq;refine wpAny_pyIter_list p.isList ?_;refine⟨s.heap.objs.size,[s.heap.objs.size],_,_,H,rfl,I.kept (t':=s.toks) λ b o e=>Heap.get?_push_of_some _ e,wI a _,⟨_,Heap.get?_push_size _ rfl,rfl,rfl⟩,λ b hb=>?_,q⟩;have e:b=s.heap.objs.size:=by simpa using hb
 subst e;exact I.vX (Nat.le_refl _) (I.hok.fresh (Nat.le_refl _))
theorem afq(I:Inv X pins σ H s)(hq:SqT X.K H a xs)(q:R (Itt X.K a) H):wpAny (model X.prog X.w) X.A (pyIter (.ref a)) (PIE X pins σ tg R) E s:=by
 obtain⟨its,rv,p,hz⟩:=I.tuple hq;refine wpAny_pyIter_tuple (show s.heap.IsTuple a its.toArray from p) ?_;refine⟨s.heap.objs.size,[s.heap.objs.size],_,_,H,rfl,I.kept (t':=s.toks) λ b o e=>Heap.get?_push_of_some _ e,vm a _,⟨_,Heap.get?_push_size _ rfl,rfl,rfl⟩,λ b hb=>?_,q⟩;have e:b=s.heap.objs.size:=by simpa using hb
 subst e;exact I.vX (Nat.le_refl _) (I.hok.fresh (Nat.le_refl _))
end
def ajt(K:FG)(tl:TE):TI:=λ σ H R=>tl σ H λ x H1=>(∃ a xs,x=.ref a/\SqL K H1 a xs/\R (Itl K a) H1)\/(∃ a xs,x=.ref a/\SqT K H1 a xs/\R (Itt K a) H1)\/∃ z,x=.str z/\R (Its z) H1
theorem agb(hl:PE X l tl):PI X tg l (ajt X.K tl):=by
 intro pins s σ H R I h;refine thn (hl pins s σ H _ I h) λ v s1 hq46=>?_;obtain⟨x,H1,I1,r1,q1⟩:=hq46;rcases q1 with ⟨a,xs,e,hq,q⟩ | ⟨a,xs,e,hq,q⟩ | ⟨z,e,q⟩
 ·subst e;cases r1;exact ac6 I1 hq q
 ·subst e;cases r1;exact afq I1 hq q
 ·subst e;obtain⟨t,rfl⟩:=r1;exact ae3 I1 q
def ItD(K:FG)(J:It)(H0:Hp)(ws:List W):Prop:=∀ H,Kp H0 H->∀ i:Nat,(i<ws.length->J.go i H)/\(ws.length<=i->J.stop i H) /\
 ∀ x H',i<ws.length->J.yld i H x H'->Kp H H'/\(∀ M,dJ K H M->dJ K H' M)/\∃ w,ws[i]? =some w/\aH K H' w x
abbrev TId:=DS->MH->(List W->MH->Prop)->Prop
def upI(K:FG)(t:TId):TI:=λ σ H R=>∃ τ M Rd,Abs K H σ τ M/\t τ M Rd/\∀ J H' ws M',Kp H H'->dJ K H' M'->ItD K J H' ws->Rd ws M'->R J H'
abbrev PId(X:Cx)(tg iter:Expr)(t:TId):Prop:=PI X tg iter (upI X.K t)
theorem ahi(h:PI X tg iter t)(k:∀ σ H R,t' σ H R->t σ H R):PI X tg iter t':=λ pins s σ H R I q=>h pins s σ H R I (k σ H R q)
def lR:W->Option (List W)
 | .d (.list ds)=>some (ds.map W.d)
 | .d (.tuple ds)=>some (ds.map W.d)
 | .d (.str z)=>some (z.cps.toList.map λ c=>W.d (.str ⟨#[c]⟩))
 | _=>none
def fY(te:TD)(τ:DS)(M:MH)(R:List W->MH->Prop):Prop:=te τ M λ w M1=>∃ ws,lR w=some ws/\R ws M1
theorem ad4(hs:SqT K H a vs)(ra:bD K H ds vs):ItD K (Itt K a) H (ds.map W.d):=λ H1 kp i=>by
 have hl:=ra.length;refine⟨λ hi=>?_,λ hi=>⟨vs,SqT.keep kp hs,by rw[List.length_map] at hi;omega⟩,λ x H' hi y=>?_⟩
 ·rw[List.length_map] at hi;exact⟨vs,vs[i]'(by omega),SqT.keep kp hs,by simp⟩
 ·obtain⟨e,y⟩:=y;subst e;have ev:=y vs (SqT.keep kp hs);obtain⟨d,e1,rd⟩:=(ra.keep kp).get' ev;exact⟨Kp.refl _,λ M m=>m,.d d,by simp[e1],rd⟩
theorem acr(z:Str):ItD K (Its z) H (z.cps.toList.map λ c=>W.d (.str ⟨#[c]⟩)):=λ H1 kp i=>by refine⟨λ hi=>(show i<z.cps.size by simpa using hi),λ hi=>(show z.cps.size<=i by simpa using hi),λ x H' hi y=>?_⟩;obtain⟨e,c,hc,ex⟩:=y;subst e;subst ex;exact⟨Kp.refl _,λ M m=>m,.d (.str ⟨#[c]⟩),by simp[hc],by simp[aH,aB]⟩
theorem aca(lo:Int)(n:Nat):ItD K (Itr lo n) H ((List.range n).map λ i:Nat=>W.d (.int (lo+(i:Int)))):=λ H1 kp i=>by refine⟨λ hi=>(show i<n by simpa using hi),λ hi=>(show n<=i by simpa using hi),λ x H' hi y=>?_⟩;obtain⟨e,ex⟩:=y;subst e;subst ex;simp at hi;exact⟨Kp.refl _,λ M m=>m,.d (.int (lo+i)),by simp[hi],by simp[aH,aB]⟩
theorem w9(h:PD X l te):PId X tg l (fY te):=ahi (agb h) λ σ H R hq47=>by
 obtain⟨τ,M,Rd,A,h,k⟩:=hq47;refine⟨τ,M,_,A,h,λ v H1 w M1 kp r m hq48=>?_⟩;obtain⟨ws,e,q⟩:=hq48;cases w with
 | t n=>simp[lR] at e
 | m a=>simp[lR] at e
 | d d =>
  cases d with
  | list ds =>
   simp only[lR] at e;cases e;simp only[aH,aB] at r;obtain⟨a,vs,e1,hs,ra⟩:=r;refine .inl ⟨a,vs,e1,hs.sq,k _ H1 _ M1 kp m ?_ q⟩;intro H2 kp2 i;have hl:=ra.length;have hs2:=(hs.keep kp2).sq;refine⟨λ hi=>?_,λ hi=>⟨vs,hs2,by rw[List.length_map] at hi;omega⟩,λ x H' hi y=>?_⟩
   ·rw[List.length_map] at hi;exact⟨vs,vs[i]'(by omega),hs2,by simp⟩
   ·obtain⟨e,y⟩:=y;subst e;have ev:=y vs hs2;obtain⟨d,e1,rd⟩:=(ra.keep kp2).get' ev;exact⟨Kp.refl _,λ M m=>m,.d d,by simp[e1],rd⟩
  | tuple ds =>
   simp only[lR] at e;cases e;simp only[aH,aB] at r;obtain⟨a,vs,e1,hs,ra⟩:=r;exact .inr (.inl ⟨a,vs,e1,hs,k _ H1 _ M1 kp m (ad4 hs ra) q⟩)
  | str z =>
   simp only[lR] at e;cases e;simp only[aH,aB] at r;exact .inr (.inr ⟨z,r,k _ H1 _ M1 kp m (acr z) q⟩)
  | _=>simp[lR] at e
def kS(lo:Int)(n:Nat):List W:=(List.range n).map λ i:Nat=>W.d (.int (lo+(i:Int)))
def sL(ta:TAd)(τ:DS)(M:MH)(R:List W->MH->Prop):Prop:=ta τ M λ ws M1=>∃ j:Int,ws=[.d (.int j)]/\-(2 ^ 62)<=j/\j<2 ^ 62/\R (kS 0 j.toNat) M1
theorem da(r:bQ K H [w] vs):∃ v,vs=[v]/\aH K H w v:=by
 cases r with
 | cons r1 r2=>cases r2;exact⟨_,rfl,r1⟩
theorem l3(r:bQ K H [w,w'] vs):∃ v v',vs=[v,v']/\aH K H w v/\aH K H w' v':=by
 cases r with
 | cons r1 r2 =>
  cases r2 with
  | cons r3 r4=>cases r4;exact⟨_,_,rfl,r1,r3⟩
theorem vQ(hg:Gl X "range")(hm:X.mg "range" = none)(ha:PAd X [a] ta)(hs:starEach [a] X.env=[(false,eval a X.env)]:=by rfl):PId X tg (.Call (.Name "range" p) [a] [] pos) (sL ta):=
 ahi (xG hg hm ha hs) λ σ H R ⟨τ,M,Rd,A,h,k⟩=>⟨τ,M,_,A,h,λ vs H1 ws M1 kp r m hq49=>by obtain⟨j,e,h1,h2,q⟩:=hq49;subst e;obtain⟨v,e1,r1⟩:=da r;simp only[aH,aB] at r1;subst r1;exact⟨j,e1,h1,h2,k _ H1 _ M1 kp m (aca 0 j.toNat) q⟩⟩
def abY(di:TId)(g:TGd)(tb:TSd)(D:Ed)(τ:DS)(M:MH):Prop:=di τ M λ ws M1=>∃ P:Nat->DS->MH->Prop,P 0 τ M1 /\
 (∀ i w τ M,ws[i]? =some w->P i τ M->g w τ M λ τ2 M2=>tb {D with nx:=P (i+1),ct:=P (i+1),bk:=D.nx} τ2 M2)/\∀ τ M,P ws.length τ M->D.nx τ M
theorem ace(hp:PassesOwn (model X.prog X.w) X.A X.env X.xe)(hc:X.calm=true)(hi:PId X tg iter di)(hg:PGd X tg g)(hb:mP X body tb)
  (hs:∀ x,foldedSetIterable iter X.env x=pure x:=by intro _;rfl):PSd X (.For tg iter body [] pos) (abY di g tb):=abx (aeS hp hc hi hg hb hs) λ D σ H hq50=>by
 obtain⟨τ,M,Dd,A,h,k1,k2,k3,k4⟩:=hq50;refine⟨τ,M,_,A,h,λ J H1 ws M1 kp m1 it hq51=>?_⟩;obtain⟨P,p0,pt,pe⟩:=hq51;refine⟨λ i n σ H'=>n=ws.length-i/\i<=ws.length/\Kp H1 H'/\∃ τ M,Abs X.K H' σ τ M/\P i τ M,⟨ws.length,by simp,Nat.zero_le _,Kp.refl _,τ,M1,A.go kp m1,p0⟩,?_⟩;rintro i n σ2 H2 ⟨rfl,hi,kp2,τ2,M2,A2,p2⟩;obtain⟨go,stop,yld⟩:=it H2 kp2 i
 by_cases hlt:i<ws.length
 ·refine .inr ⟨go hlt,λ σ3 H3=>Kp H2 H3/\∃ τ M,Abs X.K H3 σ3 τ M/\P (i+1) τ M,λ σ3 H3 ⟨kp3,τ3,M3,A3,p3⟩=>⟨ws.length-(i+1),by omega,rfl,hlt,kp2.trans kp3,τ3,M3,A3,p3⟩,λ x H3 y=>?_⟩;obtain⟨kp3,mk,w,ew,rw⟩:=yld x H3 hlt y;refine⟨w,τ2,M2,_,rw,A2.go kp3 (mk _ A2.mem),pt i w τ2 M2 ew p2,λ σ4 H4 τ4 M4 kp4 A4 q4=>?_⟩;have kq:=kp3.trans kp4;have kr:=(kp.trans kp2).trans kq;exact⟨τ4,M4,_,A4,q4,λ σ5 H5 τ5 M5 kp5 A5 q5=>⟨kq.trans kp5,τ5,M5,A5,q5⟩,λ v H5 w M5 kp5=>k2 v H5 w M5 (kr.trans kp5),λ σ5 H5 τ5 M5 kp5=>k1 σ5 H5 τ5 M5 (kr.trans kp5),λ σ5 H5 τ5 M5 kp5 A5 q5=>⟨kq.trans kp5,τ5,M5,A5,q5⟩⟩
 ·have hl:i=ws.length:=by omega
  subst hl;exact .inl ⟨stop (Nat.le_refl _),k1 σ2 H2 τ2 M2 (kp.trans kp2) A2 (pe τ2 M2 p2)⟩
def aeq(k:Nat)(fr:List Nat)(τ:DS):DS:=List.replicate k none++fr.map λ j=>(τ[j]?).getD none
theorem abR(A:Abs K H σ τ M)(k:Nat)(fr:List Nat):Abs K H (lcS k fr σ) (aeq k fr τ) M:=by
 refine⟨by simp[lcS,aeq],λ i w e=>?_,A.mem⟩;unfold aeq at e
 by_cases hi:i<k
 ·rw[List.getElem?_append_left (by simpa using hi),List.getElem?_replicate] at e
  split at e<;>cases e
 ·rw[List.getElem?_append_right (by simpa using hi),List.getElem?_map,List.length_replicate] at e;cases q:fr[i-k]? with
  | none=>rw[q] at e;cases e
  | some j =>
   rw[q] at e;have e':(τ[j]?).getD none=some w:=Option.some.inj e;have e2:τ[j]? =some (some w):=by
    cases z:τ[j]? with
    | none=>rw[z] at e';cases e'
    | some o=>rw[z] at e';exact congrArg some e'
   obtain⟨v,q1,r⟩:=A.val j w e2;refine⟨v,?_,r⟩;unfold lcS;rw[List.getElem?_append_right (by simpa using hi),List.getElem?_map,List.length_replicate,q];simp[q1]
def dLC(di:TId)(g:TGd)(tt:TTd)(te:TD)(k:Nat)(fr:List Nat)(τ:DS)(M:MH)(Q:QD):Prop:=di τ M λ ws M1=>∃ P:Nat->List PyData->DS->MH->Prop,P 0 [] (aeq k fr τ) M1 /\
 (∀ i w acc τ M,ws[i]? =some w->P i acc τ M->acc.length<sizeLine/\g w τ M λ τ2 M2=>tt τ2 M2 λ b M3=>if b=true then te τ2 M3 λ y M4=>∃ d,y=.d d/\P (i+1) (acc++[d]) τ2 M4 else P (i+1) acc τ2 M3) /\
 ∀ acc τ M,P ws.length acc τ M->Q (.d (.list acc)) M
theorem afn(h:up K (dLC di g tt te k fr) σ H Q) :
  ain (tLC (upI K di) (upG K g) (upT K tt) (up K te) k fr) σ H Q:=by
 obtain⟨τ,M,Qd,A,h,kk⟩:=h;refine⟨τ,M,_,A,h,λ J H1 ws M1 kp m1 it hq52=>?_⟩;obtain⟨P,p0,pt,pe⟩:=hq52;refine⟨λ i n ys σ' H'=>n=ws.length-i/\i<=ws.length/\Kp H1 H'/\∃ acc τ M,bD K H' acc ys/\Abs K H' σ' τ M/\P i acc τ M,⟨ws.length,by simp,Nat.zero_le _,Kp.refl _,[],_,M1,by simp[bD],abR (A.go kp m1) k fr,p0⟩,?_⟩;rintro i n ys σ2 H2 ⟨rfl,hi,kp2,acc,τ2,M2,ra,A2,p2⟩;obtain⟨go,stop,yld⟩:=it H2 kp2 i
 by_cases hlt:i<ws.length
 ·have hlen:=ra.length;refine .inr ⟨go hlt,?_,λ x H3 y=>?_⟩
  ·obtain⟨w,hw⟩:∃ w,ws[i]? =some w:=⟨ws[i],by simp[hlt]⟩;have:=(pt i w acc τ2 M2 hw p2).1;omega
  obtain⟨kp3,mk,w,ew,rw⟩:=yld x H3 hlt y;refine⟨w,τ2,M2,_,rw,A2.go kp3 (mk _ A2.mem),(pt i w acc τ2 M2 ew p2).2,λ σ4 H4 τ4 M4 kp4 A4 q4=>⟨τ4,M4,_,A4,q4,λ b H5 M5 kp5 m5 q5=>?_⟩⟩;have kq:=(kp3.trans kp4).trans kp5;cases b with
  | false =>
   rw[if_neg Bool.false_ne_true] at q5;show(if false=true then _ else _);rw[if_neg Bool.false_ne_true];exact⟨ws.length-(i+1),by omega,rfl,hlt,kp2.trans kq,acc,τ4,M5,ra.keep kq,A4.go kp5 m5,q5⟩
  | true =>
   rw[if_pos rfl] at q5;show(if true=true then _ else _);rw[if_pos rfl];refine⟨τ4,M5,_,A4.go kp5 m5,q5,λ v H6 wv M6 kp6 r6 m6 hq53=>?_⟩;obtain⟨d,e6,q6⟩:=hq53;subst e6;refine⟨ws.length-(i+1),by omega,rfl,hlt,kp2.trans (kq.trans kp6),acc++[d],τ4,M6,bD.append (ra.keep (kq.trans kp6)) ?_,A4.go (kp5.trans kp6) m6,q6⟩;simp only[bD];exact⟨v,[],rfl,r6,rfl⟩
 ·have hl:i=ws.length:=by omega
  subst hl;exact .inl ⟨stop (Nat.le_refl _),λ p hp=>ik hp ra A2.mem (pe acc τ2 M2 p2) (kgo kk (kp.trans kp2))⟩
section
variable {sc:Scope}{own:List Str}{fr:List Nat}{elt iter:Expr}{ifs:List Expr}{pos:Pos}{di:TId}{g:TGd}{tt:TTd}{te:TD}
abbrev afa(X:Cx)(ifs:List Expr)(t:TTd):Prop:=PTs X ifs (upT X.K t)
def pz(_:DS)(M:MH)(Q:Bool->MH->Prop):Prop:=Q true M
theorem ahu(hc:X.calm=true)(L:vZ X sc own fr)(hi:PId X tg iter di)
  (hg:∀ cl C s H ex pl,PGd (blk X sc (lcN X own fr) cl C s H ex pl) tg g)(ht:∀ cl C s H ex pl,afa (blk X sc (lcN X own fr) cl C s H ex pl) ifs tt)(he:∀ cl C s H ex pl,PD (blk X sc (lcN X own fr) cl C s H ex pl) elt te)
  (hs:∀ x,foldedSetIterable iter X.env x=pure x:=by intro _;rfl):PD X (.ListComp elt [⟨tg,iter,ifs,0⟩] sc pos) (dLC di g tt te own.length fr):=
 fS (iD (ah1 hc L hi hg ht he hs)) λ σ H Q h=>afn h
end
end
section
variable {X:Cx}{K:FG}
def afU(ws:List W)(M:MH)(Q:QD):Prop:=∃ i:Int,ws=[.d (.int i)]/\Q (.d (.int (if i<0 then -i else i))) M
theorem afN:fz K (λ xs H Q=>∃ i,xs=[.int i]/\Q (.int (if i<0 then -i else i)) H) afU:=by intro vs H ws M Qd Q r m ⟨i,e,q⟩ k;subst e;obtain⟨v,e1,r1⟩:=da r;simp only[aH,aB] at r1;subst r1;exact⟨i,e1,k _ H (.d (.int _)) M (Kp.refl H) (by simp[aH,aB]) m q⟩
def acA(M:MH):W->Option Nat
 | .d (.list ds)=>some ds.length
 | .d (.tuple ds)=>some ds.length
 | .d (.str z)=>some z.length
 | .m a=>match M a with
  | some (.lst ws)=>some ws.length
  | _=>none
 | _=>none
def eO(ws:List W)(M:MH)(Q:QD):Prop:=∃ w n,ws=[w]/\acA M w=some n/\tK w=true/\Q (.d (.int (n:Nat))) M
theorem cJ:fz K (λ xs H Q=>∃ x n,xs=[x]/\aiF K x H n/\Q (.int n) H) eO:=by
 intro vs H ws M Qd Q r m ⟨w,n,e,hn,hf,q⟩ k;subst e;obtain⟨v,e1,r1⟩:=da r;refine⟨v,n,e1,?_,k _ H (.d (.int _)) M (Kp.refl H) (by simp[aH,aB]) m q⟩;cases w with
 | t _=>simp[acA] at hn
 | m a =>
  simp only[aH] at r1;subst r1;simp only[acA] at hn;cases hm:M a with
  | none=>rw[hm] at hn;cases hn
  | some mo =>
   rw[hm] at hn;cases mo with
   | lst l=>cases hn;obtain⟨us,e2,rw1⟩:=m a _ hm;exact .inl ⟨us,SqL.of e2,rw1.length⟩
   | dic _=>cases hn
   | dct _=>cases hn
   | fdic _=>cases hn
   | ins _ _=>cases hn
   | tup _=>cases hn
   | flst _=>cases hn
   | exc _ _=>cases hn
   | code _ _=>cases hn
 | d d =>
  cases d with
  | list ds=>simp only[acA] at hn;cases hn;simp only[aH,aB] at r1;obtain⟨a,us,e2,hs,ra⟩:=r1;subst e2;exact .inl ⟨us,hs.sq,ra.length.symm⟩
  | tuple ds=>simp only[acA] at hn;cases hn;simp only[aH,aB] at r1;obtain⟨a,us,e2,hs,ra⟩:=r1;subst e2;exact .inr ⟨us,hs,ra.length.symm⟩
  | str z=>simp only[acA] at hn;cases hn;simp only[aH,aB] at r1;subst r1;exact⟨of_decide_eq_true hf,rfl⟩
  | _=>simp[acA] at hn
def qi(ws:List W)(M:MH)(Q:QD):Prop:=∃ bs:List Bool,ws=[.d (.list (bs.map PyData.bool))]/\Q (.d (.bool (bs.all id))) M
theorem lz:fz K (λ xs H Q=>∃ (x:V) (bs:List Bool),xs=[x]/\aB K H (.list (bs.map PyData.bool)) x/\Q (.bl (bs.all id)) H) qi:=by intro vs H ws M Qd Q r m ⟨bs,e,q⟩ k;subst e;obtain⟨v,e1,r1⟩:=da r;exact⟨v,bs,e1,r1,k _ H (.d (.bool _)) M (Kp.refl H) (by simp[aH,aB]) m q⟩
theorem uI:∀ {ys:List Str} {vs:List V} {us:List Value},bD K H (ys.map PyData.str) vs->Vals vs us->StrsAre us ys
 | [],vs,us,h,r=>by simp only[List.map_nil,bD] at h;subst h;cases r;exact .nil
 | y::ys,vs,us,h,r=>by
  simp only[List.map_cons,bD] at h;obtain⟨v,vr,e,h1,h2⟩:=h;subst e;simp only[aB] at h1;subst h1;cases r with
  | cons r1 r2 =>
   obtain⟨t,e⟩:=(show ∃ t,_=Value.str y t from r1);subst e;exact .cons _ _ (uI h2 r2)
def MtD(K:FG)(r:V->List V->Hp->VK->Prop)(rd:W->List W->MH->QD->Prop):Prop:=∀ x vs H w ws M Qd Q,aH K H w x->bQ K H ws vs->dJ K H M->rd w ws M Qd->Kont K H Qd Q->r x vs H Q
def dMS(rd:W->List W->MH->QD->Prop)(to:TD)(t:TAd)(τ:DS)(M:MH)(Q:QD):Prop:=to τ M λ w M1=>(∃ z,w=.d (.str z))/\t τ M1 λ ws M2=>rd w ws M2 Q
theorem ahR{o e:Expr}{to:TD}{t:TAd}{name:Str}{apos cpos:Pos}{id:String}{r:V->List V->Hp->VK->Prop}{rd:W->List W->MH->QD->Prop}(slot:Slot "str" name id)(hty:typeOf (.builtin id)=pure (.type "method_descriptor"))(hm:MtR X id r)(hd:MtD X.K r rd)(ho:PD X o to)(ha:PAd X (e::es) t)
  (hbase:attributeBase o name X.env (eval o X.env)=eval o X.env:=by rfl)
  (hfew:((backTo cpos (starEach (e::es) X.env)).all (λ x=>!x.1)&&(backToKw cpos (keywordEach [] X.env)).all (λ x=>x.1.isSome)
   && decide ((e::es).length+([]:List Keyword).length+(if ([]:List Keyword).isEmpty then 0 else 1)<30))=true:=by rfl)
  (hline:(apos.endLine==cpos.line)=true:=by rfl)(hs:starEach (e::es) X.env=(false,eval e X.env)::starEach es X.env:=by rfl)(hplain:(backTo cpos (starEach es X.env)).any (·.1)=false:=by rfl) :
  PD X (.Call (.Attribute o name apos) (e::es) [] cpos) (dMS rd to t):=fS (sx PySem.F.plainAttrs_str slot hty hm ho ha hbase hfew hline hs hplain) λ σ H Q hq54=>by
 obtain⟨τ,M,Qd,A,h,k⟩:=hq54;refine⟨τ,M,_,A,h,λ x H1 w M1 kp1 r1 m1 hq55=>?_⟩;obtain⟨⟨z,ez⟩,q1⟩:=hq55;subst ez;have r1':=r1;simp only[aH,aB] at r1';subst r1';exact⟨rfl,τ,M1,_,A.go kp1 m1,q1,λ vs H2 ws M2 kp2 r2 m2 q2=>hd _ vs H2 _ ws M2 Qd Q (r1.keep kp2) r2 m2 q2 (kgo k (kp1.trans kp2))⟩
def rJoin(K:FG):V->List V->Hp->VK->Prop:=λ x vs H Q=>∃ (sep:Str) (v:V) (ys:List Str),x=.str sep/\vs=[v]/\aB K H (.list (ys.map PyData.str)) v/\(ys.map (·.length)).sum+ys.length * sep.length<=16777216/\Q (.str (Txt.join sep ys)) H
theorem acF:MtR X "str.join" (rJoin X.K):=by intro pins s σ H x vs v us Q I rx rv h;obtain⟨sep,y,ys,rfl,rfl,rd,hz,q⟩:=h;obtain⟨t,rfl⟩:=rx;obtain⟨u,rfl,ru⟩:=vals1 rv;simp only[aB] at rd;obtain⟨a,xs,e,hs,ra⟩:=rd;subst e;cases (show u=Value.ref a from ru);obtain⟨its,r,pl,hz'⟩:=I.list hs.sq;exact join_list pl.isList (by simpa using uI ra r) hz λ t' k=>⟨.str _,H,I.tok _,⟨_,rfl⟩,q⟩
def gg(w:W)(ws:List W)(M:MH)(Q:QD):Prop:=∃ (sep:Str) (ys:List Str),w=.d (.str sep)/\ws=[.d (.list (ys.map PyData.str))]/\(ys.map (·.length)).sum+ys.length * sep.length<=16777216/\Q (.d (.str (Txt.join sep ys))) M
theorem acE:MtD K (rJoin K) gg:=by intro x vs H w ws M Qd Q r1 r2 m ⟨sep,ys,e1,e2,hz,q⟩ k;subst e1;subst e2;obtain⟨v,e3,r3⟩:=da r2;simp only[aH,aB] at r1;exact⟨sep,v,ys,r1,e3,r3,hz,k _ H (.d (.str _)) M (Kp.refl H) (by simp[aH,aB]) m q⟩
theorem adP(ho:PD X o to)(ha:PD X e te)
  (hbase:attributeBase o "join" X.env (eval o X.env)=eval o X.env:=by rfl)(hs:starEach [e] X.env=[(false,eval e X.env)]:=by rfl)
  (hfew:((backTo cpos (starEach [e] X.env)).all (λ x=>!x.1)&&(backToKw cpos (keywordEach [] X.env)).all (λ x=>x.1.isSome)
   && decide (([e]:List Expr).length+([]:List Keyword).length+(if ([]:List Keyword).isEmpty then 0 else 1)<30))=true:=by rfl)
  (hline:(apos.endLine==cpos.line)=true:=by rfl) :
  PD X (.Call (.Attribute o "join" apos) [e] [] cpos) (dMS gg to (ae te av)):=ahR PySem.F.slot_str_join PySem.F.type_str_join acF acE ho (uq ha gv hs) hbase hfew hline hs
def abv(_:DS)(M:MH)(Q:QD):Prop:=Q (.d (.dict [])) M
def uS:List (TD×TD)->DS->MH->(List (W×W)->MH->Prop)->Prop
 | [],_,M,Q=>Q [] M
 | (tk,tv)::r,τ,M,Q=>tk τ M λ x M1=>tv τ M1 λ y M2=>uS r τ M2 λ ps M3=>Q ((x,y)::ps) M3
theorem l7:∀ {trs:List (TD×TD)} {σ:St} {H:Hp} {τ:DS} {M:MH} {Qd:List (W×W)->MH->Prop} {Q:List (V×V)->Hp->Prop},Abs K H σ τ M->uS trs τ M Qd ->
  (∀ ps H' ws M',Kp H H'->Paired (λ(p:W×W) (q:V×V)=>aH K H' p.1 q.1/\aH K H' p.2 q.2) ws ps->dJ K H' M'->Qd ws M'->Q ps H')->t7 (trs.map λ p=>(up K p.1,up K p.2)) σ H Q
 | [],σ,H,τ,M,Qd,Q,A,h,k=>k [] H [] M (Kp.refl H) .nil A.mem h
 | (tk,tv)::r,σ,H,τ,M,Qd,Q,A,h,k=>by show(up K tk) σ H _;refine⟨τ,M,_,A,h,λ x H1 w M1 kp1 r1 m1 q1=>⟨τ,M1,_,A.go kp1 m1,q1,λ y H2 w' M2 kp2 r2 m2 q2=>?_⟩⟩;refine l7 (A.go (kp1.trans kp2) m2) q2 λ ps H3 ws M3 kp3 r3 m3 q3=>?_;exact k _ H3 _ M3 ((kp1.trans kp2).trans kp3) (.cons ⟨r1.keep (kp2.trans kp3),r2.keep kp3⟩ r3) m3 q3
def xr(trs:List (TD×TD))(τ:DS)(M:MH)(Q:QD):Prop:=∀ p,M p=none->uS trs τ (dR M p (.dic [])) λ ps M2=>M2=dR M p (.dic [])/\∃ kvs:List (Key×PyData),ps=kvs.map (λ q=>(W.d (qU q.1),W.d q.2))/\kvs.length<=15/\(kvs.map (·.1)).Nodup /\
 Q (.d (.dict (kvs.map λ q=>(qU q.1,q.2)))) M
theorem gR:∀ {more kvs:List (Key×V)},((kvs++more).map (·.1)).Nodup->gb kvs more=kvs++more
 | [],kvs,_=>by simp[gb]
 | p::r,kvs,h=>by
  have hn:mS kvs p.1=none:=by
   cases e:mS kvs p.1 with
   | none=>rfl
   | some v =>
    have q:(kvs.any λ kv=>decide (kv.1=p.1))=true:=by rw[oW,e];rfl
    obtain⟨z,hz,ez⟩:=List.any_eq_true.mp q;rw[List.map_append,List.nodup_append] at h;exact absurd (of_decide_eq_true ez) (h.2.2 _ (List.mem_map_of_mem hz) _ (by simp))
  show gb (putK kvs p.1 p.2) r=_;rw[abc _ hn,gR (by simpa using h)];simp
theorem sD(r:aB K H (qU key) v):v=kV key:=by
 cases key<;>(simp only[qU,aB] at r;exact r)
theorem qY:∀ {kvs:List (Key×PyData)} {ps:List (V×V)},Paired (λ(p:W×W) (q:V×V)=>aH K H p.1 q.1/\aH K H p.2 q.2) (kvs.map λ q=>(W.d (qU q.1),W.d q.2)) ps ->
  ∃ l:List (Key×V),ps=l.map (λ kv=>(kV kv.1,kv.2))/\l.map (·.1)=kvs.map (·.1)/\oH K H (kvs.map λ q=>(qU q.1,q.2)) l
 | [],ps,h=>by cases h;exact⟨[],rfl,rfl,by simp[oH]⟩
 | (k,d)::kvs,ps,h=>by
  cases h with
  | cons r t =>
   rename_i q qs
   obtain⟨x,y⟩:=q;obtain⟨l,e1,e2,e3⟩:=qY t;refine⟨(k,y)::l,?_,by simp[e2],?_⟩
   ·rw[List.map_cons,<- e1,<- sD r.1]
   ·simp only[List.map_cons,oH];exact⟨k,y,l,rfl,rfl,r.2,e3⟩
theorem adI(h:PPs X pos keys values (trs.map λ p=>(up X.K p.1,up X.K p.2)))(hall:keys.all (·.isSome)=true:=by rfl)(hl:keys.length=values.length:=by rfl)(h0:keys≠[]:=by simp)
  (h15:keys.length<=15:=by decide):PD X (.Dict keys values pos) (xr trs):=fS (iD (wN h hall hl h0 h15)) λ σ H Q ⟨τ,M,Qd,A,q,k⟩=>λ p hp=>by
 have kp0:Kp H (upd H p (.dK [])):=Kp.new hp;have m0:dJ X.K (upd H p (.dK [])) (dR M p (.dic [])):=A.mem.put (mo:=.dic []) kp0 ⟨[],aP,.nil⟩;have hM:=A.mem.free hp;refine l7 (A.go kp0 m0) (q p hM) λ ps H2 ws M2 kp2 r2 m2 hq56=>?_;obtain⟨eM,kvs,ews,hlen,hnd,qq⟩:=hq56;subst eM;subst ews;obtain⟨l0,e0,pr0⟩:=m2 p _ aC;have el0:l0=[]:=by cases pr0;rfl
 subst el0;obtain⟨l,e1,e2,e3⟩:=qY r2;have elen:l.length=kvs.length:=by
  have:=congrArg List.length e2
  simpa using this
 refine⟨e0,l,e1,by omega,p,_,rfl,aP,trivial,λ o=>?_⟩;have em:gb [] l=l:=by rw[gR (by simpa [e2] using hnd)];rfl
 rw[tD,em];have kp3:Kp H2 (upd H2 p (.frz o (.dK l))):=Kp.set e0 (λ xs z=>nomatch z) λ _ _ z=>nomatch z;refine k _ _ (.d (.dict _)) M ((kp0.trans kp2).trans kp3) ?_ (λ a mo hm=>?_) qq
 ·simp only[aH,aB];exact⟨p,o,l,rfl,aP,e3.keep kp3⟩
 ·have hne:a≠p:=λ z=>by rw[z,hM] at hm;cases hm
  exact(m2 a mo (by rw[de hne];exact hm)).keep kp3 λ u z=>by rw[aO hne];exact z
end
structure Fn(K:FG)(mg:Str->Option Value)(x:Str)(st:Stmt)(ps:List Str)(f:Addr)(fd:FuncData):Prop where
 fn:Fun K x x st f fd
 mg:mg x=some (.ref f)
 bd:Binds K fd ps []
section
variable {K:FG}{mg:Str->Option Value}{h:Heap}
theorem agd{st:Stmt}{ps:List Str}{oc:Value}{od an:Option Addr}{osl:Array (Option Value)}{kV doc pm cdv ct:Value}(X:K.In h)(G:h.Ns mainGlobals mg)(a:W.nsIn K mainGlobals x=some (some (.ref f)))
  (l:K.lookup f=some ⟨oc,od,.func (W.fnOf x x (cI st) (bU st) (ao st) .none kV doc pm an cdv ct),osl⟩)(c:W.codeIn K cdv x=true)(k:W.keepIn K (.ref f)=true)
  (b:∀ (kV doc pm:Value) (an:Option Addr) (cdv ct:Value) (us:List Value),us.length=ps.length->bindArgs (W.fnOf x x (cI st) (bU st) (ao st) .none kV doc pm an cdv ct) ⟨us,[]⟩=pure (ps.zip us)) :
  Fn K mg x st ps f (W.fnOf x x (cI st) (bU st) (ao st) .none kV doc pm an cdv ct):=
 have F:=agp (st:=st) l c k
 ⟨F,W.mg_of X G a,F.binds b⟩
end
def ae0(sc scX:Scope)(N:List Str)(fr:List Nat):Bool:=
 (sc.kind==.function)&&sc.names.all (λ y=>!(y.2==.cell))&&sc.names.all (λ y=>!(y.2==.free) || scX.names.lookup y.1==some .cell || scX.names.lookup y.1==some .free) &&
  sc.names.all (λ y=>!(y.2==.local) || sc.names.lookup y.1==some .local)&&ahP N sc fr
theorem se(h:ae0 sc X.env.scope X.N fr=true):vZ X sc own fr:=by
 simp only[ae0,Bool.and_eq_true] at h;obtain⟨⟨⟨⟨h1,h2⟩,h3⟩,h4⟩,h5⟩:=h;refine⟨eq_of_beq h1,λ y hy e=>?_,λ y hy e=>?_,λ y hy e=>?_,h5⟩
 ·have:=List.all_eq_true.mp h2 y hy;simp[e] at this
 ·have:=List.all_eq_true.mp h3 y hy;simp only[e,beq_self_eq_true,Bool.not_true,Bool.false_or,Bool.or_eq_true] at this;rcases this with z | z
  ·exact .inl (eq_of_beq z)
  ·exact .inr (eq_of_beq z)
 ·have:=List.all_eq_true.mp h4 y hy;simp only[e,beq_self_eq_true,Bool.not_true,Bool.false_or] at this;exact eq_of_beq this
theorem nH:bootBuiltins "int" = some (.type "int"):=by decide +kernel
theorem jf:bootBuiltins "str" = some (.type "str"):=by decide +kernel
theorem xp:bootBuiltins "bool" = some (.type "bool"):=by decide +kernel
theorem fX:bootBuiltins "tuple" = some (.type "tuple"):=by decide +kernel
theorem cF:bootBuiltins "len" = some (.builtin "len"):=by decide +kernel
theorem aeZ:bootBuiltins "abs" = some (.builtin "abs"):=by decide +kernel
theorem o9:bootBuiltins "repr" = some (.builtin "repr"):=by decide +kernel
theorem lj:bootBuiltins "all" = some (.builtin "all"):=by decide +kernel
theorem aY:bootBuiltins "isinstance" = some (.builtin "isinstance"):=by decide +kernel
def fu:Expr->Bool
 | .Starred ..=>true
 | _=>false
theorem cq(e:Expr)(es:List Expr)(env:PySem.Env)(h:fu e=false):starEach (e::es) env=(false,eval e env)::starEach es env:=by
 cases e<;>first | rfl | (exact absurd h (by simp[fu]))
theorem d3(pos:Pos)(env:PySem.Env):∀ es:List Expr,(es.all λ e=>!fu e)=true->(backTo pos (starEach es env)).any (·.1)=false
 | [],_=>rfl
 | e::es,h=>by rw[List.all_cons,Bool.and_eq_true,Bool.not_eq_true'] at h;rw[cq e es env h.1];show(false || (backTo pos (starEach es env)).any (·.1))=false;rw[d3 pos env es h.2];rfl
section
variable {X:Cx}{pos p:Pos}{e:Expr}{es:List Expr}{te:TD}{t:TAd}{x:Str}{id T:String}{r:List V->Hp->VK->Prop}{rd:List W->MH->QD->Prop}{k:Nat}{f:Addr}{fd:FuncData}{ps:List Str}{sp:SpD}
theorem pac(ha:PD X e te)(hr:PAd X es t)(h:fu e=false:=by rfl):PAd X (e::es) (ae te t):=uq ha hr (cq e es X.env h)
theorem pcB(hc:eL X (.builtin id) r)(hd:fz X.K r rd)(hg:Gl X x)(hm:X.mg x=none)(hv:bootBuiltins x=some (.builtin id))(ha:PAd X (e::es) t)(hn:x ≠ "__name__":= by decide)(hdb:ND x:=by decide)
  (h1:fu e=false:=by rfl)(h2:(es.all λ e=>!fu e)=true:=by rfl):PD X (.Call (.Name x p) (e::es) [] pos) (dCB rd t):=aaG hc hd hg hm hv ha hn hdb (cq e es X.env h1) (d3 pos X.env es h2)
theorem pcF(F:cU X.prog X.w X.K X.mg X.base CX0 k f fd ps (eQ X.K sp))(hr:gm k X.A)(hg:Gl X x)(hm:X.mg x=some (.ref f))(hk:W.keepIn X.K (.ref f)=true)(hb:Binds X.K fd ps [])
  (ha:PAd X (e::es) t)(hdb:ND x:=by decide)(h1:fu e=false:=by rfl)(h2:(es.all λ e=>!fu e)=true:=by rfl) :
  PD X (.Call (.Name x p) (e::es) [] pos) (aW sp t):=aek F hr hg hm hk hb ha hdb (cq e es X.env h1) (d3 pos X.env es h2)
end
structure Jd(p:Prop):Prop where
 h:p
abbrev pm(K:FG)(p:TD×TD):TE×TE:=(up K p.1,up K p.2)
section
variable {X:Cx}{pos:Pos}{a b c e:Expr}{ta tb tc te:TD}{K:FG}
theorem dvQ(i:Nat)(hN:X.N[i]? =some x:=by rfl)(hv:Vis X.env.scope x:=by first | exact Or.inl rfl | exact Or.inr (Or.inl rfl) | exact Or.inr (Or.inr rfl))(hd:ND x:=by decide)(hcd:(x==("__classdict__" : Str))=false:=by decide):Jd (PD X (.Name x pos) (aj i)):=⟨aga (agV hN hv hd hcd)⟩
theorem ag{i j pos}:Jd (PD X (.Constant (.int i) j pos) (dC (.d (.int i)))):=⟨abM afT λ H=>by simp[aH,aB]⟩
theorem gj{b j pos}:Jd (PD X (.Constant (.bool b) j pos) (dC (.d (.bool b)))):=⟨abM aht λ H=>by simp[aH,aB]⟩
theorem bM{j pos}:Jd (PD X (.Constant .none j pos) (dC (.d .none))):=⟨abM agR λ H=>by simp[aH,aB]⟩
theorem ah{x j pos}:Jd (PD X (.Constant (.str x) j pos) (dC (.d (.str x)))):=⟨abM aeH λ H=>by simp[aH,aB]⟩
theorem lE(hg:Gl X x)(hm:X.mg x=some (.int i t))(hd:ND x:=by decide):Jd (PD X (.Name x pos) (dC (.d (.int i)))):=⟨abM (fM (v:=.int i) hg hm ⟨t,rfl⟩ hd) λ H=>by simp[aH,aB]⟩
theorem wC(hg:Gl X x)(hm:X.mg x=some (.str i t))(hd:ND x:=by decide):Jd (PD X (.Name x pos) (dC (.d (.str i)))):=⟨abM (fM (v:=.str i) hg hm ⟨t,rfl⟩ hd) λ H=>by simp[aH,aB]⟩
theorem cC(hg:Gl X x)(hm:X.mg x=none)(hv:bootBuiltins x=some (.type n))(hn:x ≠ "__name__":= by decide)(hd:ND x:=by decide):Jd (PD X (.Name x pos) (dC (.t n))):=⟨
 abM (xm (v:=.ty n) hg hm hv rfl hn hd) λ H=>by simp[aH]⟩
theorem aJ(ho:OpR X (binaryOp op) r)(hd:OpD X.K r rd)(ha:Jd (PD X a ta))(hb:Jd (PD X b tb)):Jd (PD X (.BinOp a op b pos) (dOp rd ta tb)):=⟨D.aif (ho:=ho) (hd:=hd) (ha:=ha.h) (hb:=hb.h)⟩
theorem fW(ho:OpR X (compareOp op) r)(hd:OpD X.K r rd)(ha:Jd (PD X a ta))(hb:Jd (PD X b tb))(hm:behindInMarks op b=false:=by first | exact jg _ (by decide) (by decide) | rfl):Jd (PD X (.Compare a [op] [b] pos) (dOp rd ta tb)):=⟨D.agy (ho:=ho) (hd:=hd) (ha:=ha.h) (hb:=hb.h) (hm:=hm)⟩
theorem aU(hr:IxR X r)(hd:OpD X.K r rd)(ha:Jd (PD X a ta))(hb:Jd (PD X b tb))(hs:sG b:=by intro _ _;rfl):Jd (PD X (.Subscript a b pos) (dOp rd ta tb)):=⟨D.ahK (hr:=hr) (hd:=hd) (ha:=ha.h) (hb:=hb.h) (hs:=hs)⟩
theorem au(ho:OpR X (compareOp op) r)(hd:OpD X.K r rd)(ha:Jd (PD X a ta))(hb:Jd (PD X b tb))(hm:behindInMarks op b=false:=by first | exact jg _ (by decide) (by decide) | rfl):Jd (PTd X (.Compare a [op] [b] pos) (aE (dOp rd ta tb))):=⟨D.adj (ho:=ho) (hd:=hd) (ha:=ha.h) (hb:=hb.h) (hm:=hm)⟩
theorem bB(h:Jd (PD X e te))(he:∀ whole,isTrue e X.env whole=(do let v <- whole;standAt e.pos;holding [v] (truthy v)):=by intro _;rfl):Jd (PTd X e (aE te)):=⟨D.aeg (h:=h.h) (he:=he)⟩
theorem gr(ho:OpR X (compareOp op) r)(hd:OpD X.K r rd)(ho':OpR X (compareOp op') r')(hd':OpD X.K r' rd')(ha:Jd (PD X a ta))(hb:Jd (PD X b tb))(hc:Jd (PD X c tc))(hm:lastMarks [op,op'] [b,c]=false:=by with_unfolding_all rfl):Jd (PD X (.Compare a [op,op'] [b,c] pos) (eE rd rd' ta tb tc)):=⟨D.aa9 (ho:=ho) (hd:=hd) (ho':=ho') (hd':=hd') (ha:=ha.h) (hb:=hb.h) (hc:=hc.h) (hm:=hm)⟩
theorem gS(ho:OpR X (compareOp op) r)(hd:OpD X.K r rd)(ho':OpR X (compareOp op') r')(hd':OpD X.K r' rd')(ha:Jd (PD X a ta))(hb:Jd (PD X b tb))(hc:Jd (PD X c tc))(hm:lastMarks [op,op'] [b,c]=false:=by with_unfolding_all rfl):Jd (PTd X (.Compare a [op,op'] [b,c] pos) (aE (eE rd rd' ta tb tc))):=⟨D.xR (ho:=ho) (hd:=hd) (ho':=ho') (hd':=hd') (ha:=ha.h) (hb:=hb.h) (hc:=hc.h) (hm:=hm)⟩
variable {tA tB:TTd}{rest:List Expr}
theorem cz(ha:Jd (PTd X a tA)):Jd (PWd X (.BoolOp .And [a] pos) tA):=⟨D.aa1 (ha:=ha.h)⟩
theorem cQ(ha:Jd (PTd X a tA)):Jd (PWd X (.BoolOp .Or [a] pos) tA):=⟨D.adC (ha:=ha.h)⟩
theorem cP(ha:Jd (PTd X a tA))(hb:Jd (PWd X (.BoolOp .And (b::rest) pos) tB)):Jd (PWd X (.BoolOp .And (a::b::rest) pos) (qb tA tB)):=⟨D.ad8 (ha:=ha.h) (hb:=hb.h)⟩
theorem cZ(ha:Jd (PTd X a tA))(hb:Jd (PWd X (.BoolOp .Or (b::rest) pos) tB)):Jd (PWd X (.BoolOp .Or (a::b::rest) pos) (dOr tA tB)):=⟨D.afm (ha:=ha.h) (hb:=hb.h)⟩
theorem cy(h:Jd (PWd X e tA)):Jd (PTd X e tA):=⟨D.ah5 (h:=h.h)⟩
theorem bA(ha:Jd (PTd X a tA)):Jd (PTd X (.UnaryOp .Not a pos) (kZ tA)):=⟨D.aec (ha:=ha.h)⟩
theorem jE{op}(h:Jd (PD X a ta)):Jd (PD X (.BoolOp op [a] pos) ta):=⟨D.afJ (h:=h.h)⟩
theorem lM(ha:Jd (PD X a ta))(hb:Jd (PD X (.BoolOp .And (b::rest) pos) tb)):Jd (PD X (.BoolOp .And (a::b::rest) pos) (tU ta tb)):=⟨D.ae2 (ha:=ha.h) (hb:=hb.h)⟩
theorem agK(ha:Jd (PD X a ta))(hb:Jd (PD X (.BoolOp .Or (b::rest) pos) tb)):Jd (PD X (.BoolOp .Or (a::b::rest) pos) (aih ta tb)):=⟨D.aiw (ha:=ha.h) (hb:=hb.h)⟩
theorem ad3(ha:Jd (PD X a ta)):Jd (PD X (.UnaryOp .Not a pos) (adv ta)):=⟨D.agq (ha:=ha.h)⟩
theorem je(hc:Jd (PTd X c tA))(ha:Jd (PD X a ta))(hb:Jd (PD X b tb)):Jd (PD X (.IfExp c a b pos) (abN tA ta tb)):=⟨D.zD (hc:=hc.h) (ha:=ha.h) (hb:=hb.h)⟩
variable {es:List Expr}{t:TAd}
theorem aa  : Jd (PAd X [] av):=⟨D.gv ⟩
theorem aZ(h:Jd (PAd X es t)):Jd (PD X (.List es pos) (dq t)):=⟨D.agE (h:=h.h)⟩
theorem ow(h:Jd (PAd X es t)):Jd (PD X (.List es pos) (xO t)):=⟨D.ab5 (h:=h.h)⟩
theorem ba{x1}(h:Jd (PAd X es t)):Jd (PD X (.Tuple es x1 pos) (eX t)):=⟨D.afu (h:=h.h)⟩
variable {x:Str}{p:Pos}{id T:String}{r:List V->Hp->VK->Prop}{rd:List W->MH->QD->Prop}
end
section
variable {X:Cx}{pos:Pos}{st:Stmt}{sts:List Stmt}{t u:TSd}{e:Expr}{te:TD}{K:FG}
theorem ar  : Jd (mP X [] bj):=⟨afR acx λ D σ H ⟨τ,M,Dd,A,h,k1,_⟩=>k1 σ H τ M (Kp.refl H) A h⟩
theorem af(h1:Jd (PSd X st t))(h2:Jd (mP X sts u)):Jd (mP X (st::sts) (bc t u)):=⟨D.yI (h1:=h1.h) (h2:=h2.h)⟩
theorem ai(h1:Jd (PSd X st t)):Jd (mP X [st] t):=⟨D.aa5 (h1:=h1.h)⟩
theorem cM(he:Jd (PD X e te))(hs:swapsWith e none pos.line X.env=pure false:=by rfl):Jd (PSd X (.Expr e pos) (jW te)):=⟨D.zA (he:=he.h) (hs:=hs)⟩
theorem ak(he:Jd (PD X e te)):Jd (PSd X (.Return (some e) pos) (bK te)):=⟨D.ac8 (he:=he.h)⟩
theorem az(hc:Jd (PTd X c tc))(ha:Jd (mP X a t))(hb:Jd (mP X b u)):Jd (PSd X (.If c a b pos) (dIf tc t u)):=⟨D.afD (hc:=hc.h) (ha:=ha.h) (hb:=hb.h)⟩
theorem aF(hN:X.N.Nodup)(hi:X.N[i]? =some x)(hx:Loc X.env.scope x)(hf:X.fn x=true\/X.env.scope.names.lookup x=some .local:=by first | exact .inl rfl | exact .inr rfl | assumption):Jd (PGd X (.Name x pos) (gN i)):=⟨
 aie (acJ hN hi hx hf) λ v σ H Q ⟨w,τ,M,Qd,r,A,h,k⟩=>k _ H _ M (Kp.refl H) (A.set i r) h⟩
theorem g9(he:Jd (PD X e te))(hg:Jd (PGd X tg g))(hs:swapsWithSole [tg] e pos.line X.env=pure false:=by rfl)(hw:swappedStores [tg] e X.env=pure none:=by rfl)(h1:(assignEach [tg] X.env).map (·.2)=[assign tg X.env]:=by rfl):Jd (PSd X (.Assign [tg] e pos) (cE te g)):=⟨D.acq (he:=he.h) (hg:=hg.h) (hs:=hs) (hw:=hw) (h1:=h1)⟩
theorem aw(hN:X.N.Nodup)(hi:X.N[i]? =some x)(hx:Loc X.env.scope x)(he:Jd (PD X e te))(hs:swapsWith e (some (.Name x pos')) pos.line X.env=pure false:=by rfl)(hf:X.fn x=true\/X.env.scope.names.lookup x=some .local:=by first | exact .inl rfl | exact .inr rfl | assumption):Jd (PSd X (.Assign [.Name x pos'] e pos) (cE te (gN i))):=⟨D.ab0 (hN:=hN) (hi:=hi) (hx:=hx) (he:=he.h) (hs:=hs) (hf:=hf)⟩
end
theorem iF(F:cU X.prog X.w X.K X.mg X.base CX0 k f fd ps (eQ X.K sp))(hr:gm k X.A)(hg:Gl X x)(hm:X.mg x=some (.ref f))(hk:W.keepIn X.K (.ref f)=true)(hb:Binds X.K fd ps [])(hdb:ND x:=by decide):Jd (PD X (.Call (.Name x p) [] [] pos) (aW sp av)):=⟨fS (zS (E:=E0) (dvs:=[]) F hr hg hm hk hb .nil agh hdb) λ σ H Q h=>by obtain⟨τ,M,Qd,A,h,k⟩:=h;exact⟨[],M,Qd,.nil,A.mem,h,k⟩⟩
theorem aM  : Jd (POd X none bt):=⟨aiD acI λ σ H Q ⟨τ,M,Qd,A,q,k⟩=>k none H M (Kp.refl H) A.mem q⟩
theorem aL(h:Jd (PD X e te)):Jd (POd X (some e) (cX te)):=⟨D.aar (h:=h.h)⟩
theorem aK{te:TD}{lo hi:Option Expr}{tl th:TOd}{pos p2:Pos}(he:Jd (PD X e te))(hl:Jd (POd X lo tl))(hu:Jd (POd X hi th)):Jd (PD X (.Subscript e (.Slice lo hi none p2) pos) (dSl te tl th)):=⟨D.abf (he:=he.h) (hl:=hl.h) (hu:=hu.h)⟩
theorem n9(ho:Jd (PD X o to))(hi:Jd (PD X i ti))(ha:∀ v,assign (.Subscript o i pos) X.env v=(do
   let ov <- holding [v] (eval o X.env)
   let iv <- holding [v,ov] (eval i X.env)
   standAt pos
   holding [v,ov,iv] (setItem ov iv v)
   release [v,ov,iv] []):=by intro _;rfl):Jd (PGd X (.Subscript o i pos) (aao to ti)):=⟨D.adS (ho:=ho.h) (hi:=hi.h) (ha:=ha)⟩
theorem yg(ho:Jd (PD X o to))(hi:Jd (PD X i ti))(he:Jd (PD X e te))(hp:PIp X op (ipI f))(ha:∀ ov iv new,augStore i ov iv new=(do holding [new,ov,iv] (setItem ov iv new);release [new,ov,iv] [];pure .next):=by intros;rfl):Jd (PSd X (.AugAssign (.Subscript o i tpos) op e pos) (zN to ti te f)):=⟨D.aaA (ho:=ho.h) (hi:=hi.h) (he:=he.h) (hp:=hp) (ha:=ha)⟩
theorem cp(h:Jd (PD X l te)):Jd (PId X tg l (fY te)):=⟨D.w9 (h:=h.h)⟩
theorem eG(hg:Gl X "range")(hm:X.mg "range" = none)(ha:Jd (PAd X [a] ta))(hs:starEach [a] X.env=[(false,eval a X.env)]:=by rfl):Jd (PId X tg (.Call (.Name "range" p) [a] [] pos) (sL ta)):=⟨D.vQ (hg:=hg) (hm:=hm) (ha:=ha.h) (hs:=hs)⟩
theorem gU(hp:PassesOwn (model X.prog X.w) X.A X.env X.xe)(hc:X.calm=true)(hi:Jd (PId X tg iter di))(hg:Jd (PGd X tg g))(hb:Jd (mP X body tb))(hs:∀ x,foldedSetIterable iter X.env x=pure x:=by intro _;rfl):Jd (PSd X (.For tg iter body [] pos) (abY di g tb)):=⟨D.ace (hp:=hp) (hc:=hc) (hi:=hi.h) (hg:=hg.h) (hb:=hb.h) (hs:=hs)⟩
theorem bJ  : Jd (afa X [] pz):=⟨λ pins s σ H Q I ⟨τ,M,Qd,A,q,k⟩=>acm pins s σ H Q I (k true H M (Kp.refl H) A.mem q)⟩
theorem fb(hc:X.calm=true)(L:vZ X sc own fr)(hi:Jd (PId X tg iter di))(hg:∀ cl C s H ex pl,Jd (PGd (blk X sc (lcN X own fr) cl C s H ex pl) tg g))(ht:∀ cl C s H ex pl,Jd (afa (blk X sc (lcN X own fr) cl C s H ex pl) ifs tt))(he:∀ cl C s H ex pl,Jd (PD (blk X sc (lcN X own fr) cl C s H ex pl) elt te))(hs:∀ x,foldedSetIterable iter X.env x=pure x:=by intro _;rfl):Jd (PD X (.ListComp elt [⟨tg,iter,ifs,0⟩] sc pos) (dLC di g tt te own.length fr)):=⟨D.ahu (hc:=hc) (L:=L) (hi:=hi.h) (hg:=λ cl C s H ex pl=>(hg cl C s H ex pl).h) (ht:=λ cl C s H ex pl=>(ht cl C s H ex pl).h) (he:=λ cl C s H ex pl=>(he cl C s H ex pl).h) (hs:=hs)⟩
theorem ff(ho:Jd (PD X o to))(ha:Jd (PD X e te))(hbase:attributeBase o "join" X.env (eval o X.env)=eval o X.env:=by rfl)(hs:starEach [e] X.env=[(false,eval e X.env)]:=by rfl)(hfew:((backTo cpos (starEach [e] X.env)).all (λ x=>!x.1)&&(backToKw cpos (keywordEach [] X.env)).all (λ x=>x.1.isSome)
   && decide (([e]:List Expr).length+([]:List Keyword).length+(if ([]:List Keyword).isEmpty then 0 else 1)<30))=true:=by rfl)(hline:(apos.endLine==cpos.line)=true:=by rfl):Jd (PD X (.Call (.Attribute o "join" apos) [e] [] cpos) (dMS gg to (ae te av))):=⟨D.adP (ho:=ho.h) (ha:=ha.h) (hbase:=hbase) (hs:=hs) (hfew:=hfew) (hline:=hline)⟩
theorem wO:Jd (PD X (.Dict [] [] pos) abv):=⟨fS (iD aa2) λ σ H Q ⟨τ,M,Qd,A,q,k⟩=>λ p hp=>by refine⟨p,_,rfl,aP,trivial,λ o=>?_⟩;rw[tD];refine k _ _ (.d (.dict [])) M (Kp.new hp) ?_ (A.mem.new hp) q;simp only[aH,aB,oH];exact⟨p,o,[],rfl,aP,rfl⟩⟩
theorem og(h:Jd (PPs X pos keys values (trs.map (pm X.K))))(hall:keys.all (·.isSome)=true:=by rfl)(hl:keys.length=values.length:=by rfl)(h0:keys≠[]:=by simp)(h15:keys.length<=15:=by decide):Jd (PD X (.Dict keys values pos) (xr trs)):=⟨D.adI (h:=h.h) (hall:=hall) (hl:=hl) (h0:=h0) (h15:=h15)⟩
section
variable {X:Cx}{pos p:Pos}{e:Expr}{es:List Expr}{te:TD}{t:TAd}{x:Str}{id T:String}{r:List V->Hp->VK->Prop}{rd:List W->MH->QD->Prop}{k:Nat}{f:Addr}{fd:FuncData}{ps:List Str}{sp:SpD}
theorem aq(ha:Jd (PD X e te))(hr:Jd (PAd X es t))(h:fu e=false:=by rfl):Jd (PAd X (e::es) (ae te t)):=⟨D.pac (ha:=ha.h) (hr:=hr.h) (h:=h)⟩
theorem dO(hc:eL X (.builtin id) r)(hd:fz X.K r rd)(hg:Gl X x)(hm:X.mg x=none)(hv:bootBuiltins x=some (.builtin id))(ha:Jd (PAd X (e::es) t))(hn:x ≠ "__name__":= by decide)(hdb:ND x:=by decide)(h1:fu e=false:=by rfl)(h2:(es.all λ e=>!fu e)=true:=by rfl):Jd (PD X (.Call (.Name x p) (e::es) [] pos) (dCB rd t)):=⟨D.pcB (hc:=hc) (hd:=hd) (hg:=hg) (hm:=hm) (hv:=hv) (ha:=ha.h) (hn:=hn) (hdb:=hdb) (h1:=h1) (h2:=h2)⟩
theorem dm(F:cU X.prog X.w X.K X.mg X.base CX0 k f fd ps (eQ X.K sp))(hr:gm k X.A)(hg:Gl X x)(hm:X.mg x=some (.ref f))(hk:W.keepIn X.K (.ref f)=true)(hb:Binds X.K fd ps [])(ha:Jd (PAd X (e::es) t))(hdb:ND x:=by decide)(h1:fu e=false:=by rfl)(h2:(es.all λ e=>!fu e)=true:=by rfl):Jd (PD X (.Call (.Name x p) (e::es) [] pos) (aW sp t)):=⟨D.pcF (F:=F) (hr:=hr) (hg:=hg) (hm:=hm) (hk:=hk) (hb:=hb) (ha:=ha.h) (hdb:=hdb) (h1:=h1) (h2:=h2)⟩
end
theorem fJ:Jd (PPs X pos [] [] (([]:List (TD×TD)).map (pm X.K))):=⟨L2.ads⟩
theorem aI(hk:Jd (PD X k tk))(hv:Jd (PD X v tv))(hr:Jd (PPs X pos ks vs (trs.map (pm X.K)))):Jd (PPs X pos (some k::ks) (v::vs) (((tk,tv)::trs).map (pm X.K))):=⟨L2.zB hk.h hv.h hr.h⟩
section
variable {κ α:Type}[DecidableEq κ]
def mj(t:List (κ×α))(k:κ):Option α:=(t.find? λ p=>decide (p.1=k)).map (·.2)
def OR(R:β->γ->Prop):Option β->Option γ->Prop
 | some a,some b=>R a b
 | none,none=>True
 | _,_=>False
theorem OR.some_of(h:OR R (some a) o):∃ b,o=some b/\R a b:=by
 cases o with
 | none=>exact h.elim
 | some b=>exact⟨b,rfl,h⟩
theorem OR.none_of(h:OR R none o):o=none:=by
 cases o with
 | none=>rfl
 | some b=>exact h.elim
theorem nh(k:κ):∀ {t:List (κ×α)} {l:List (κ×V)},Paired (λ p q=>p.1=q.1/\R p.2 q.2) t l->OR R (mj t k) (mS l k)
 | _,_,.nil=>True.intro
 | _,_,.cons (a:=p) (b:=q) (l₁:=t1) h t=>by
  obtain⟨h1,h2⟩:=h
  by_cases e:p.1=k
  ·rw[iz (h1.symm.trans e),show mj (p::t1) k=some p.2 by simp[mj,List.find?_cons,e]];exact h2
  ·rw[jj (λ z=>e (h1.trans z)),show mj (p::t1) k=mj t1 k by simp[mj,List.find?_cons,e]];exact nh k t
theorem abp:∀ {t:List (κ×α)} {l:List (κ×V)},Paired P t l->t.length=l.length
 | _,_,.nil=>rfl
 | _,_,.cons _ t=>by simp[abp t]
end
def kW(k:Key):W:=.d (qU k)
theorem pS{K:FG}{H:Hp}{k:Key}{v:V}(r:aH K H (kW k) v):v=kV k:=sD r
def tkW(ks:List Key):W:=.d (.tuple (ks.map qU))
theorem ae8{K:FG}{H:Hp}:∀ {ks:List Key} {vs:List V},bD K H (ks.map qU) vs->vs=ks.map kV
 | [],vs,h=>by simpa [bD] using h
 | k::ks,vs,h=>by simp only[List.map_cons,bD] at h;obtain⟨v,r,e,h1,h2⟩:=h;rw[e,sD h1,ae8 h2];rfl
def Rd2(H:Hp)(a:Addr)(u:HO):Prop:=Rd H a u\/∃ o,H a=some (.frz o (.frz o u))
theorem xA(ok:HOk P w H h)(e:Rd2 H a (.dK kvs)):kvs.length<=sizeLine/\(a==sysModules)=false/\∃ vs,KV kvs vs/\h.DictOf (a9 P w) a vs:=by
 rcases e with e | ⟨o,e⟩
 ·exact vH ok e
 ·exact(ok a _ e).2.2
def yy(K:FG)(H:Hp)(a:Addr)(y:V)(r:Option V):Prop:=
 (∃ kvs k,Rd2 H a (.dK kvs)/\y=kV k/\r=mS kvs k)\/∃ kvs k b,Rd H a (.dT kvs)/\y=.ref b/\SqT K H b (k.map kV)/\r=mS kvs k
theorem abT(I:Inv X pins σ H s)(h:SqT X.K H b (ks.map kV)):(tupleKind (a9 X.prog X.w)).is s.heap ks b:=by obtain⟨its,r,⟨o,h1,h2,n,h3⟩,_⟩:=I.tuple h;exact⟨o,its.toArray,n,h1,h2,h3,by simpa using k6 r⟩
theorem adA(hu:A.units+1<cLine)(I:Inv X pins σ H s)(g:yy X.K H a y o)(ry:RelV y u)(h:∀ w' s',Inv X pins σ H s'->RelV (o.getD .non) w'->Q w' s') :
  wpAny (model X.prog X.w) A (call (.builtin "dict.get") [.ref a,u]) Q E s:=by
 rcases g with ⟨kvs,k,e,ey,l⟩ | ⟨kvs,k,b,e,ey,eb,l⟩
 ·subst ey;obtain⟨z,hd,vs,rel,dd⟩:=xA I.hok e;refine call_meetsIn PySem.F.slot_dict_get dd.typeIs PySem.F.entry_dict_get (PySem.F.args_dict_get_2 _ _) (meets_dict_get (a9 X.prog X.w) a (oI ry) hd) ⟨_,dd.mapOf,h _ _ (I.tok _) ?_⟩;rw[l];exact(rel.val k).getD rfl
 ·subst ey;cases (show u=Value.ref b from ry);obtain⟨z,hd,xs,rel,dd⟩:=aem I.hok e;refine call_meetsIn PySem.F.slot_dict_get dd.typeIs PySem.F.entry_dict_get (PySem.F.args_dict_get_2 _ _) (meetsH_dict_get (tupleKind (a9 X.prog X.w)) a b hd) ⟨tupleKind_room_in1 hu,k,xs,abT I eb,dd,h _ _ (I.tok _) ?_⟩;rw[l];exact(rel.val k).getD rfl
theorem acG(hu:A.units+1<cLine)(I:Inv X pins σ H s)(g:yy X.K H a y o)(ry:RelV y u)(rd:RelV d r)(h:∀ w' s',Inv X pins σ H s'->RelV (o.getD d) w'->Q w' s') :
  wpAny (model X.prog X.w) A (call (.builtin "dict.get") [.ref a,u,r]) Q E s:=by
 rcases g with ⟨kvs,k,e,ey,l⟩ | ⟨kvs,k,b,e,ey,eb,l⟩
 ·subst ey;obtain⟨z,hd,vs,rel,dd⟩:=xA I.hok e;refine call_meetsIn PySem.F.slot_dict_get dd.typeIs PySem.F.entry_dict_get (PySem.F.args_dict_get_3 _ _ _) (meets_dict_get_default (a9 X.prog X.w) a (oI ry) hd r) ⟨_,dd.mapOf,h _ _ (I.tok _) ?_⟩;rw[l];exact(rel.val k).getD rd
 ·subst ey;cases (show u=Value.ref b from ry);obtain⟨z,hd,xs,rel,dd⟩:=aem I.hok e;refine call_meetsIn PySem.F.slot_dict_get dd.typeIs PySem.F.entry_dict_get (PySem.F.args_dict_get_3 _ _ _) (meetsH_dict_get_default (tupleKind (a9 X.prog X.w)) a b hd r) ⟨tupleKind_room_in1 hu,k,xs,abT I eb,dd,h _ _ (I.tok _) ?_⟩;rw[l];exact(rel.val k).getD rd
theorem vc(hu:A.units+1<cLine)(I:Inv X pins σ H s)(e:Rd2 H a (.dK kvs))(l:mS kvs k=some v)(ry:RelV (kV k) u)(h:∀ w' s',Inv X pins σ H s'->RelV v w'->Q w' s') :
  s.TypeIs (.ref a) "dict" /\ wpAny (model X.prog X.w) A (getItem (.ref a) u) Q E s:=by
 obtain⟨z,hd,vs,rel,dd⟩:=xA I.hok e;obtain⟨w',hw,rw'⟩:=vw.some_of (v:=v) (o:=valueAt vs k) (by rw[<- l];exact rel.val k);exact⟨dd.typeIs,wpAny_getItem_of (oI ry) dd.mapOf hw (h w' _ (I.tok _) rw')⟩
inductive qL(M:MH):W->W->Option W->Prop
 | k {a:Addr} {kvs:List (Key×W)} {k:Key} (h:M a=some (.dic kvs)):qL M (.m a) (kW k) (mj kvs k)
 | t {a:Addr} {kvs:List (List Key×W)} {ks:List Key} (h:M a=some (.dct kvs)):qL M (.m a) (tkW ks) (mj kvs ks)
 | f {a:Addr} {kvs:List (Key×W)} {k:Key} (h:M a=some (.fdic kvs)):qL M (.m a) (kW k) (mj kvs k)
 | d {kvs:List (Key×PyData)} {k:Key}:qL M (.d (.dict (kvs.map λ p=>(qU p.1,p.2)))) (kW k) ((mj kvs k).map W.d)
inductive DIs(M:MH):W->Prop
 | k {a:Addr} {kvs:List (Key×W)} (h:M a=some (.dic kvs)):DIs M (.m a)
 | t {a:Addr} {kvs:List (List Key×W)} (h:M a=some (.dct kvs)):DIs M (.m a)
 | d {kvs:List (PyData×PyData)}:DIs M (.d (.dict kvs))
theorem zZ(h:qU a=qU b):a=b:=by
 cases a<;>cases b<;>simp[qU] at h<;>rw[h]
theorem ig{K:FG}{H:Hp}:∀ {kvs:List (Key×PyData)} {l:List (Key×V)},oH K H (kvs.map λ p=>(qU p.1,p.2)) l->Paired (λ(p:Key×PyData) (q:Key×V)=>p.1=q.1/\aB K H p.2 q.2) kvs l
 | [],l,h=>by simp only[List.map_nil,oH] at h;subst h;exact .nil
 | p::kvs,l,h=>by simp only[List.map_cons,oH] at h;obtain⟨key,v,r,e,ek,h1,h2⟩:=h;subst e;exact .cons ⟨zZ ek,h1⟩ (ig h2)
theorem DIs.sound{K:FG}{H:Hp}{M:MH}{w:W}{x:V}(g:DIs M w)(r:aH K H w x)(m:dJ K H M):∃ a,x=.ref a/\IsD H a:=by
 cases g with
 | k h =>
  obtain⟨l,e,_⟩:=m _ _ h;exact⟨_,r,.inl ⟨l,.inl e⟩⟩
 | t h =>
  obtain⟨l,e,_⟩:=m _ _ h;exact⟨_,r,.inr ⟨l,.inl e⟩⟩
 | d =>
  simp only[aH,aB] at r;obtain⟨a,o,l,e,h,_⟩:=r;exact⟨a,e,.inl ⟨l,.inr ⟨o,h⟩⟩⟩
theorem qL.sound{K:FG}{H:Hp}{M:MH}{w y:W}{o:Option W}{x v:V}(g:qL M w y o)(r:aH K H w x)(ry:aH K H y v)(m:dJ K H M) :
  ∃ a p,x=.ref a/\yy K H a v p/\OR (aH K H) o p:=by
 cases g with
 | @k a kvs k h =>
  obtain⟨l,e,pr⟩:=m _ _ h;exact⟨_,_,r,.inl ⟨l,k,.inl (.inl e),pS ry,rfl⟩,nh k pr⟩
 | @f a kvs k h =>
  obtain⟨ob,l,e,pr⟩:=m _ _ h;exact⟨_,_,r,.inl ⟨l,k,.inr ⟨ob,e⟩,pS ry,rfl⟩,nh k pr⟩
 | @t a kvs ks h =>
  obtain⟨l,e,pr⟩:=m _ _ h;simp only[tkW,aH,aB] at ry;obtain⟨b,vs,eb,hs,ra⟩:=ry;rw[ae8 ra] at hs;exact⟨_,_,r,.inr ⟨l,ks,b,.inl e,eb,hs,rfl⟩,nh ks pr⟩
 | @d kvs k =>
  simp only[aH,aB] at r;obtain⟨a,ob,l,e,h,rk⟩:=r;refine⟨a,_,e,.inl ⟨l,k,.inl (.inr ⟨ob,h⟩),pS ry,rfl⟩,?_⟩;have g:=nh (R:=λ d q=>aB K H d q) k (ig rk);cases q:mj kvs k with
  | none=>rw[q] at g;rw[OR.none_of g];exact True.intro
  | some z =>
   rw[q] at g;obtain⟨b,eb,rb⟩:=OR.some_of g;rw[eb];exact rb
def ada(K:FG)(td ty:TE):TE:=λ σ H Q=>td σ H λ x H1=>∃ a,x=.ref a/\IsD H1 a/\ty σ H1 λ y H2=>∃ o,yy K H2 a y o/\Q (o.getD .non) H2
def aea(K:FG)(td ty tx:TE):TE:=λ σ H Q=>td σ H λ x H1=>∃ a,x=.ref a/\IsD H1 a/\ty σ H1 λ y H2=>tx σ H2 λ z H3=>∃ o,yy K H3 a y o/\Q (o.getD z) H3
theorem xo(hu:X.A.units+1<cLine)(ho:PE X o td)(he:PE X e ty)(m:M1 X o "get" apos e cpos):PE X (.Call (.Attribute o "get" apos) [e] [] cpos) (ada X.K td ty):=by intro pins s σ H Q I h;refine wpAny_Call_method m.base m.few m.line PySem.F.plainAttrs_dict PySem.F.slot_dict_get PySem.F.type_dict_get (thn (ho pins s σ H _ I h) λ u s1 hq57=>?_);obtain⟨x,H1,I1,rx,a,ex,d,q1⟩:=hq57;subst ex;obtain rfl:u=Value.ref a:=rx;obtain⟨t1,t2,_⟩:=abh I1 d;refine⟨t1,t2,?_⟩;rw[m.trees];refine Calls.callWith_builtin rfl (Calls.evalArgs_plain (Calls.spliced_cons (thn (he pins s1 σ H1 _ I1 q1) λ iv s2 ⟨y,H2,I2,ry,ov,g,q2⟩=>Calls.spliced_nil ?_)));exact adA hu I2 g ry λ w' s3 I3 rw'=>⟨_,H2,I3,rw',q2⟩
theorem yS(hu:X.A.units+1<cLine)(ho:PE X o td)(he:PE X e ty)(hf:PE X f tx)(m:M2 X o "get" apos e f cpos):PE X (.Call (.Attribute o "get" apos) [e,f] [] cpos) (aea X.K td ty tx):=by
 intro pins s σ H Q I h;refine wpAny_Call_method m.base m.few m.line PySem.F.plainAttrs_dict PySem.F.slot_dict_get PySem.F.type_dict_get (thn (ho pins s σ H _ I h) λ u s1 hq58=>?_);obtain⟨x,H1,I1,rx,a,ex,d,q1⟩:=hq58;subst ex;obtain rfl:u=Value.ref a:=rx;obtain⟨t1,t2,_⟩:=abh I1 d;refine⟨t1,t2,?_⟩;rw[m.trees];refine Calls.callWith_builtin rfl (Calls.evalArgs_plain (Calls.spliced_cons (thn (he pins s1 σ H1 _ I1 q1) λ iv s2 ⟨y,H2,I2,ry,q2⟩ =>
  Calls.spliced_cons (thn (hf pins s2 σ H2 _ I2 q2) λ fv s3 ⟨z,H3,I3,rz,ov,g,q3⟩=>Calls.spliced_nil ?_))))
 exact acG hu I3 g ry rz λ w' s4 I4 rw'=>⟨_,H3,I4,rw',q3⟩
def agA(td ty:TE):TE:=λ σ H Q=>td σ H λ x H1=>ty σ H1 λ y H2=>∃ a kvs k v,x=.ref a/\Rd2 H2 a (.dK kvs)/\y=kV k/\mS kvs k=some v/\Q v H2
theorem zJ(hu:X.A.units+1<cLine)(ho:PE X o td)(hi:PE X i ty)(hs:acj i):PE X (.Subscript o i pos) (agA td ty):=by intro pins s σ H Q I h;refine zq PySem.F.slot_dict_getitem.lookup hs (thn (ho pins s σ H _ I h) λ u s1 ⟨x,H1,I1,rx,q1⟩=>thn (hi pins s1 σ H1 _ I1 q1) λ iv s2 hq59=>?_);obtain⟨y,H2,I2,ry,a,kvs,k,v,ex,g,ey,l,q2⟩:=hq59;subst ex ey;obtain rfl:u=Value.ref a:=rx;exact vc hu I2 g l ry λ w' s3 I3 rw'=>⟨v,H2,I3,rw',q2⟩
section
variable {X:Cx}{o i e f value:Expr}{es:List Expr}{pos pos' apos cpos:Pos}{td ti tx tv:TD}{t:TAd}
inductive agz(M2:MH) (w y:W) (Q:QD):Prop
 | mk (a:Addr) (kvs:List (Key×W)) (k:Key) (v:W) (z0:w=.m a) (z1:M2 a=some (.dic kvs)\/M2 a=some (.fdic kvs)) (z2:y=kW k) (z3:mj kvs k=some v) (q:Q v M2):agz M2 w y Q
def adx(td ti:TD)(τ:DS)(M:MH)(Q:QD):Prop:=td τ M λ w M1=>ti τ M1 λ y M2=>agz M2 w y Q
theorem acf(hu:X.A.units+1<cLine)(ho:PD X o td)(hi:PD X i ti)(hs:acj i:=by exact λ _ _=>rfl):PD X (.Subscript o i pos) (adx td ti):=fS (zJ hu ho hi hs) λ σ H Q h=>by
 obtain⟨τ,M,Qd,A,h,k⟩:=h;refine⟨τ,M,_,A,h,λ x H1 w M1 kp1 r1 m1 q1=>⟨τ,M1,_,A.go kp1 m1,q1,λ y H2 wy M2 kp2 r2 m2 hq60=>?_⟩⟩;obtain⟨a,kvs,key,v,ew,hm,ey,hv,q2⟩:=hq60;subst ew ey;obtain⟨l,e,pr⟩:∃ l,Rd2 H2 a (.dK l)/\Paired (λ(p:Key×W) (q:Key×V)=>p.1=q.1/\aH X.K H2 p.2 q.2) kvs l:=by
  rcases hm with hm | hm
  ·obtain⟨l,e,pr⟩:=m2 _ _ hm;exact⟨l,.inl (.inl e),pr⟩
  ·obtain⟨ob,l,e,pr⟩:=m2 _ _ hm;exact⟨l,.inr ⟨ob,e⟩,pr⟩
 have g:=nh key pr;rw[hv] at g;obtain⟨b,eb,rb⟩:=OR.some_of g;refine⟨a,l,key,b,r1,e,pS r2,eb,?_⟩;exact k _ H2 v M2 (kp1.trans kp2) rb m2 q2
def adp(td ti:TD)(τ:DS)(M:MH)(Q:QD):Prop:=td τ M λ w M1=>DIs M1 w/\ti τ M1 λ y M2=>∃ o,qL M2 w y o/\Q (o.getD (.d .none)) M2
def xq(td ti tx:TD)(τ:DS)(M:MH)(Q:QD):Prop:=td τ M λ w M1=>DIs M1 w/\ti τ M1 λ y M2=>tx τ M2 λ z M3=>∃ o,qL M3 w y o/\Q (o.getD z) M3
theorem OR.getD{K:FG}{H:Hp}{o:Option W}{p:Option V}{z:W}{v:V}(h:OR (aH K H) o p)(r:aH K H z v):aH K H (o.getD z) (p.getD v):=by
 cases o with
 | none=>rw[OR.none_of h];exact r
 | some a=>obtain⟨b,e,q⟩:=OR.some_of h;rw[e];exact q
theorem ac5(hu:X.A.units+1<cLine)(ho:PD X o td)(he:PD X e ti)(m:M1 X o "get" apos e cpos:=by exact⟨rfl,rfl,rfl,rfl⟩):PD X (.Call (.Attribute o "get" apos) [e] [] cpos) (adp td ti):=fS (xo hu ho he m) λ σ H Q h=>by obtain⟨τ,M,Qd,A,h,k⟩:=h;refine⟨τ,M,_,A,h,λ x H1 w M1 kp1 r1 m1 hq61=>?_⟩;obtain⟨di,q1⟩:=hq61;obtain⟨a,ea,isd⟩:=di.sound r1 m1;refine⟨a,ea,isd,τ,M1,_,A.go kp1 m1,q1,λ y H2 wy M2 kp2 r2 m2 hq62=>?_⟩;obtain⟨o,g,q2⟩:=hq62;obtain⟨a',p,e',g',ro⟩:=g.sound (r1.keep kp2) r2 m2;rw[ea] at e';cases e';exact⟨p,g',k _ H2 _ M2 (kp1.trans kp2) (ro.getD (v:=.non) (by simp[aH,aB])) m2 q2⟩
theorem adn(hu:X.A.units+1<cLine)(ho:PD X o td)(he:PD X e ti)(hf:PD X f tx)(m:M2 X o "get" apos e f cpos:=by exact⟨rfl,rfl,rfl,rfl⟩):PD X (.Call (.Attribute o "get" apos) [e,f] [] cpos) (xq td ti tx):=fS (yS hu ho he hf m) λ σ H Q h=>by obtain⟨τ,M,Qd,A,h,k⟩:=h;refine⟨τ,M,_,A,h,λ x H1 w M1 kp1 r1 m1 hq63=>?_⟩;obtain⟨di,q1⟩:=hq63;obtain⟨a,ea,isd⟩:=di.sound r1 m1;refine⟨a,ea,isd,τ,M1,_,A.go kp1 m1,q1,λ y H2 wy M2 kp2 r2 m2 q2=>⟨τ,M2,_,A.go (kp1.trans kp2) m2,q2,λ z H3 wz M3 kp3 r3 m3 hq64=>?_⟩⟩;obtain⟨o,g,q3⟩:=hq64;obtain⟨a',p,e',g',ro⟩:=g.sound (r1.keep (kp2.trans kp3)) (r2.keep kp3) m3;rw[ea] at e';cases e';exact⟨p,g',k _ H3 _ M3 ((kp1.trans kp2).trans kp3) (ro.getD r3) m3 q3⟩
end
abbrev ajl(K:FG)(H:Hp):List (Str×W)->List (Str×V)->Prop:=Paired (λ(p:Str×W) (q:Str×V)=>p.1=q.1/\aH K H p.2 q.2)
theorem qp{K:FG}{H:Hp}(f:Str):∀ {fs:List (Str×W)} {l:List (Str×V)},ajl K H fs l->OR (aH K H) (fs.lookup f) (l.lookup f)
 | _,_,.nil=>True.intro
 | _,_,.cons (a:=p) (b:=q) (l₁:=t1) (l₂:=t2) h t=>by
  obtain⟨pk,pv⟩:=p;obtain⟨qk,qv⟩:=q;obtain⟨h1,h2⟩:=h;have h1':pk=qk:=h1;subst h1';rw[List.lookup_cons,List.lookup_cons];cases e:(f==pk) with
  | true=>exact h2
  | false=>exact qp f t
section
variable {X:Cx}{C f:Addr}{o e value:Expr}{es:List Expr}{fn m x:Str}{pos pos' apos p:Pos}{td tv te:TD}{t:TAd}{k:Nat}{fd:FuncData}{ps:List Str}{sp:SpD}
end
def zv(M:MH)(a:Addr):MH:=λ b=>if b=a then none else M b
theorem acg(h:b≠a):zv M a b=M b:=if_neg h
theorem dJ.del{K:FG}{H:Hp}{M:MH}{a:Addr}{o:HO}(m:dJ K H M)(kp:Kp H (upd H a o)):dJ K (upd H a o) (zv M a):=λ b mo hm=>by
 by_cases e:b=a
 ·subst e;simp[zv] at hm
 ·rw[acg e] at hm;exact(m b mo hm).keep kp λ u z=>by rw[aO e];exact z
def aes(R:W->MH->Prop)(ws:List W)(M:MH):Prop:=match ws with
 | [y]=>R y M
 | _=>False
theorem md(h:aes R ws M):∃ y,ws=[y]/\R y M:=by
 match ws,h with
 | [y],h=>exact⟨y,rfl,h⟩
def adQ(td:TD)(τ:DS)(M:MH)(Q:QD):Prop:=td τ M λ w M1=>∃ a ds,w=.m a/\M1 a=some (.lst (ds.map W.d))/\Q (.d (.list ds)) (zv M1 a)
theorem acC(h:PD X e td):PD X e (adQ td):=fS (iD h) λ σ H Q h=>by obtain⟨τ,M,Qd,A,h,k⟩:=h;refine⟨τ,M,_,A,h,λ x H1 w M1 kp1 r1 m1 hq65=>?_⟩;obtain⟨a,ds,ew,hm,q⟩:=hq65;subst ew;obtain⟨vs,e,ra⟩:=m1 _ _ hm;refine⟨a,_,r1,e,trivial,λ ob=>?_⟩;have kp2:Kp H1 (upd H1 a (.frz ob (.lst vs))):=Kp.set e (λ _ z=>nomatch z) (λ _ _ z=>nomatch z);refine k _ _ (.d (.list ds)) (zv M1 a) (kp1.trans kp2) ?_ (m1.del kp2) q;simp only[aH,aB];exact⟨a,vs,r1,.inl ⟨ob,aP⟩,ra.data.keep kp2⟩
def fI(td te:TD)(τ:DS)(M:MH)(Q:QD):Prop:=td τ M λ w M1=>∃ a ws,w=.m a/\M1 a=some (.lst ws)/\te τ M1 λ y M2=>∃ ws',M2 a=some (.lst ws')/\ws'.length<sizeLine/\Q (.d .none) (dR M2 a (.lst (ws'++[y])))
theorem wu(ho:PD X o td)(he:PD X e te)
  (hbase:attributeBase o "append" X.env (eval o X.env)=eval o X.env:=by rfl)
  (hfew:((backTo cpos (starEach [e] X.env)).all (λ x=>!x.1)&&(backToKw cpos (keywordEach [] X.env)).all (λ x=>x.1.isSome)
   && decide (([e]:List Expr).length+([]:List Keyword).length+(if ([]:List Keyword).isEmpty then 0 else 1)<30))=true:=by rfl)
  (hline:(apos.endLine==cpos.line)=true:=by rfl)(hs:fu e=false:=by rfl):PD X (.Call (.Attribute o "append" apos) [e] [] cpos) (fI td te):=
 fS (sx PySem.F.plainAttrs_list PySem.F.slot_list_append PySem.F.type_list_append wR ho (pac he gv hs) hbase hfew hline (cq e [] X.env hs) rfl) λ σ H Q h=>by obtain⟨τ,M,Qd,A,h,k⟩:=h;refine⟨τ,M,_,A,h,λ x H1 w M1 kp1 r1 m1 hq66=>?_⟩;obtain⟨a,ws,ew,hm,q1⟩:=hq66;subst ew;obtain⟨vs,ea,ra⟩:=m1 _ _ hm;have r1':x=.ref a:=r1;subst r1';refine⟨.inl ⟨rfl,vs,.inl (.inl ea)⟩,τ,M1,aes (λ y M2=>∃ ws',M2 a=some (.lst ws')/\ws'.length<sizeLine/\Qd (.d .none) (dR M2 a (.lst (ws'++[y])))),A.go kp1 m1,q1,λ ys H2 wys M2 kp2 r2 m2 q2=>?_⟩;obtain⟨y,ey,ws',hm2,hl,q4⟩:=md q2;subst ey;obtain⟨v,ev,rv⟩:=da r2;subst ev;obtain⟨vs2,ea2,ra2⟩:=m2 _ _ hm2;have kp4:Kp H2 (upd H2 a (.lst (vs2++[v]))):=Kp.set ea2 (λ _ z=>nomatch z) (λ _ _ z=>nomatch z);refine⟨a,vs2,v,rfl,rfl,ea2,by rw[<- ra2.length];exact hl,?_⟩;exact k _ _ (.d .none) _ ((kp1.trans kp2).trans kp4) (by simp[aH,aB]) (m2.put (mo:=.lst (ws'++[y])) kp4 ⟨_,aP,(bQ.append ra2 (.cons rv .nil)).keep kp4⟩) q4
def j7(K:FG)(H:Hp)(d:PyData)(x:V):Prop:=aB K H d x\/∃ a vs ds,d=.list ds/\x=.ref a/\H a=some (.lst vs)/\bD K H ds vs
inductive wa(M:MH):W->PyData->Prop
 | d {x:PyData}:wa M (.d x) x
 | l {a:Addr} {ds:List PyData} (h:M a=some (.lst (ds.map W.d))):wa M (.m a) (.list ds)
theorem wa.sound{K:FG}{H:Hp}{M:MH}{w:W}{d:PyData}{x:V}(g:wa M w d)(r:aH K H w x)(m:dJ K H M):j7 K H d x:=by
 cases g with
 | d=>exact .inl r
 | l h =>
  obtain⟨vs,e,ra⟩:=m _ _ h;exact .inr ⟨_,vs,_,rfl,r,e,ra.data⟩
theorem ai1(I:Inv X pins σ H s)(h:j7 X.K H d x):∃ H',Inv X pins σ H' s/\aB X.K H' d x:=by
 rcases h with h | ⟨a,vs,ds,rfl,rfl,e,ra⟩
 ·exact⟨H,I,h⟩
 ·obtain⟨o,I2⟩:=I.freeze e trivial;have kp:Kp H (upd H a (.frz o (.lst vs))):=Kp.set e (λ _ z=>nomatch z) (λ _ _ z=>nomatch z);refine⟨_,I2,?_⟩;simp only[aB];exact⟨a,vs,rfl,.inl ⟨o,aP⟩,ra.keep kp⟩
theorem dh(I:Inv X pins σ H s)(d:PyData)(h:j7 X.K H d x)(r:RelV x u)(hd:d.hasDict=false):∃ as,Reads s.heap u d as:=by obtain⟨H',I',h'⟩:=ai1 I h;exact dM I' d h' r hd
theorem tW(I:Inv X pins σ H s)(h:j7 X.K H d x)(r:RelV x u)(ok:gC d=true):∃ as,Reads s.heap u d as/\(d.hasDict=true->sysModules ∉ as):=by obtain⟨H',I',h'⟩:=ai1 I h;exact vG I' h' r ok
theorem gQ(hr:l4 k X.A):eL X (.builtin "repr") (λ xs H Q=>∃ x d,xs=[x]/\j7 X.K H d x/\gC d=true/\Q (.str d.shown) H):=by
 intro pins s σ H xs us Q I r h;obtain⟨x,d,rfl,rd,ok,q⟩:=h;obtain⟨u,rfl,rx⟩:=vals1 r;obtain⟨as,rr,hsm⟩:=tW I rd rx ok;have ok':=ok;simp only[gC,Bool.and_eq_true,decide_eq_true_eq] at ok';obtain⟨⟨⟨hs,hz⟩,hd⟩,_⟩:=ok';have hu:=hr.units;cases rr with
 | none=>exact PySem.P.repr_of_none ⟨.str _,H,I.tok _,⟨_,rfl⟩,by simpa [PyData.shown] using q⟩
 | bool b=>exact PySem.P.repr_of_bool ⟨.str _,H,I.tok _,⟨_,rfl⟩,by simpa [PyData.shown] using q⟩
 | int i t =>
  refine PySem.P.repr_of_int (by simpa [PyData.showable] using hs) ⟨.str _,H,I.tok _,⟨_,rfl⟩,?_⟩;rw[PyData.shown] at q;exact q
 | str i t =>
  refine PySem.P.repr_of_str ⟨.str _,H,I.tok _,⟨_,rfl⟩,?_⟩ (by simpa [PyData.shown] using hz);rw[PyData.shown] at q;exact q
 | list e1 e2 e3 e4=>exact repr_of_reads' (.list e1 e2 e3 e4) hs hsm hr.gd (by omega) (λ _ _ z=>z) (λ h' u tk hk=>⟨.str _,H,I.kept hk,⟨_,rfl⟩,q⟩) hz
 | tuple e1 e2 e3 e4=>exact repr_of_reads' (.tuple e1 e2 e3 e4) hs hsm hr.gd (by omega) (λ _ _ z=>z) (λ h' u tk hk=>⟨.str _,H,I.kept hk,⟨_,rfl⟩,q⟩) hz
 | dict e1 e2 e3 e4 e5=>exact repr_of_reads' (.dict e1 e2 e3 e4 e5) hs hsm hr.gd (by omega) (λ _ _ z=>z) (λ h' u tk hk=>⟨.str _,H,I.kept hk,⟨_,rfl⟩,q⟩) hz
theorem bL(hr:l4 k X.A):OpR X (compareOp .Eq) (λ x y H Q=>∃ d d',j7 X.K H d x/\j7 X.K H d' y/\eR d d'=true/\Q (.bl (PyData.eqv d d')) H):=by
 intro pins s σ H x y v u Q I rx ry h;obtain⟨d,d',h1,h2,o,q⟩:=h;rcases fP o with ⟨a,b,e1,e2⟩ | ⟨o1,o2⟩
 ·subst e1;subst e2;rcases h1 with h1 | ⟨_,_,_,z,_⟩
  ·rcases h2 with h2 | ⟨_,_,_,z,_⟩
   ·exact abU hr pins s σ H x y v u Q I rx ry ⟨_,_,h1,h2,o,q⟩
   ·cases z
  ·cases z
 simp only[sh,Bool.and_eq_true,Bool.not_eq_true'] at o1 o2;obtain⟨as,r1⟩:=dh I d h1 rx o1.2;obtain⟨bs,r2⟩:=dh I d' h2 ry o2.2;exact eq_dataH r1 r2 o1.1 o2.1 hr.units ⟨.bl _,H,I,rfl,q⟩
theorem ia(hr:l4 k X.A):OpR X (compareOp .NotEq) (λ x y H Q=>∃ d d',j7 X.K H d x/\j7 X.K H d' y/\eR d d'=true/\Q (.bl (!PyData.eqv d d')) H):=by
 intro pins s σ H x y v u Q I rx ry h;obtain⟨d,d',h1,h2,o,q⟩:=h;rcases fP o with ⟨a,b,e1,e2⟩ | ⟨o1,o2⟩
 ·subst e1;subst e2;rcases h1 with h1 | ⟨_,_,_,z,_⟩
  ·rcases h2 with h2 | ⟨_,_,_,z,_⟩
   ·exact aeT hr pins s σ H x y v u Q I rx ry ⟨_,_,h1,h2,o,q⟩
   ·cases z
  ·cases z
 simp only[sh,Bool.and_eq_true,Bool.not_eq_true'] at o1 o2;obtain⟨as,r1⟩:=dh I d h1 rx o1.2;obtain⟨bs,r2⟩:=dh I d' h2 ry o2.2;exact ne_dataH r1 r2 o1.1 o2.1 hr.units ⟨.bl _,H,I,rfl,q⟩
section
variable {X:Cx}{K:FG}
def cG(w w':W)(M:MH)(Q:QD):Prop:=∃ d d',wa M w d/\wa M w' d'/\eR d d'=true/\Q (.d (.bool (PyData.eqv d d'))) M
def lU(w w':W)(M:MH)(Q:QD):Prop:=∃ d d',wa M w d/\wa M w' d'/\eR d d'=true/\Q (.d (.bool (!PyData.eqv d d'))) M
theorem bp:OpD K (λ x y H Q=>∃ d d',j7 K H d x/\j7 K H d' y/\eR d d'=true/\Q (.bl (PyData.eqv d d')) H) cG:=by intro x y H w w' M Qd Q r1 r2 m ⟨d,d',g1,g2,o1,q⟩ k;exact⟨d,d',g1.sound r1 m,g2.sound r2 m,o1,k _ H (.d (.bool _)) M (Kp.refl H) (by simp[aH,aB]) m q⟩
theorem fo:OpD K (λ x y H Q=>∃ d d',j7 K H d x/\j7 K H d' y/\eR d d'=true/\Q (.bl (!PyData.eqv d d')) H) lU:=by intro x y H w w' M Qd Q r1 r2 m ⟨d,d',g1,g2,o1,q⟩ k;exact⟨d,d',g1.sound r1 m,g2.sound r2 m,o1,k _ H (.d (.bool _)) M (Kp.refl H) (by simp[aH,aB]) m q⟩
def l5(ws:List W)(M:MH)(Q:QD):Prop:=∃ w d,ws=[w]/\wa M w d/\gC d=true/\Q (.d (.str d.shown)) M
theorem kB:fz K (λ xs H Q=>∃ x d,xs=[x]/\j7 K H d x/\gC d=true/\Q (.str d.shown) H) l5:=by intro vs H ws M Qd Q r m ⟨w,d,e,g,ok,q⟩ k;subst e;obtain⟨v,e1,r1⟩:=da r;exact⟨v,d,e1,g.sound r1 m,ok,k _ H (.d (.str _)) M (Kp.refl H) (by simp[aH,aB]) m q⟩
inductive adb(M:MH):W->List W->Prop
 | l {ds:List PyData}:adb M (.d (.list ds)) (ds.map W.d)
 | t {ds:List PyData}:adb M (.d (.tuple ds)) (ds.map W.d)
 | m {a:Addr} {ws:List W} (h:M a=some (.lst ws)):adb M (.m a) ws
theorem adb.sound(g:adb M w ws)(r:aH K H w x)(m:dJ K H M):∃ p ys,x=.ref p/\(SqL K H p ys\/SqT K H p ys)/\bQ K H ws ys:=by
 cases g with
 | l =>
  simp only[aH,aB] at r;obtain⟨a,vs,e,hs,ra⟩:=r;exact⟨a,vs,e,.inl hs.sq,ra.ws⟩
 | t =>
  simp only[aH,aB] at r;obtain⟨a,vs,e,hs,ra⟩:=r;exact⟨a,vs,e,.inr hs,ra.ws⟩
 | m h =>
  obtain⟨vs,e,ra⟩:=m _ _ h;exact⟨_,vs,r,.inl (.inl (.inl e)),ra⟩
def gp(ws:List W)(M:MH)(Q:QD):Prop:=∃ w ds,ws=[w]/\adb M w (ds.map W.d)/\Q (.d (.tuple ds)) M
theorem gP:fz K (λ xs H Q=>∃ p ys,xs=[.ref p]/\((SqL K H p ys/\∀ l,H l=none->Q (.ref l) (upd H l (.tup ys)))\/(SqT K H p ys/\Q (.ref p) H))) gp:=by
 intro vs H ws M Qd Q r m ⟨w,ds,e,g,q⟩ k;subst e;obtain⟨v,e1,r1⟩:=da r;obtain⟨p,ys,ev,hs,rs⟩:=g.sound r1 m;subst ev;rcases hs with hs | hs
 ·refine⟨p,ys,e1,.inl ⟨hs,λ l hl=>?_⟩⟩;have kp:Kp H (upd H l (.tup ys)):=Kp.new hl;refine k _ _ (.d (.tuple ds)) M kp ?_ (m.new hl) q;simp only[aH,aB];exact⟨l,ys,rfl,.inl (.inl aP),rs.data.keep kp⟩
 ·refine⟨p,ys,e1,.inr ⟨hs,?_⟩⟩;refine k _ _ (.d (.tuple ds)) M (Kp.refl H) ?_ m q;simp only[aH,aB];exact⟨p,ys,rfl,hs,rs.data⟩
def qJ(zs:List Str):List W:=zs.map λ z=>.d (.str z)
theorem ua:∀ {zs:List Str} {vs:List V},bQ K H (qJ zs) vs->vs=zs.map V.str
 | [],_,h=>by cases h;rfl
 | z::zs,_,h=>by
  cases h with
  | cons r t =>
   simp only[aH,aB] at r;rw[r,ua t];rfl
theorem wJ(z:Str):∀ zs:List Str,inV (.str z) (zs.map V.str)=decide (z∈zs)
 | []=>rfl
 | y::zs=>by
  have h:inV (.str z) ((y::zs).map V.str)=((y==z) || inV (.str z) (zs.map V.str)):=rfl;rw[h,wJ z zs]
  by_cases e:z=y
  ·subst e;simp
  ·have e':(y==z)=false:=by
    cases q:(y==z) with
    | false=>rfl
    | true=>exact absurd (eq_of_beq q).symm e
   rw[e'];simp[e]
theorem wU:∀ zs:List Str,(zs.map V.str).all mE=true
 | []=>rfl
 | _::zs=>by simp[mE]
def acV(neg:Bool)(w w':W)(M:MH)(Q:QD):Prop:=∃ z zs,w=.d (.str z)/\adb M w' (qJ zs)/\Q (.d (.bool (if neg then !decide (z∈zs) else decide (z∈zs)))) M
theorem u5(neg:Bool):OpD K (rIn K neg) (acV neg):=by intro x y H w w' M Qd Q r1 r2 m ⟨z,zs,ew,g,q⟩ k;subst ew;simp only[aH,aB] at r1;subst r1;obtain⟨p,ys,ey,hs,rs⟩:=g.sound r2 m;have e:=ua rs;subst e;refine⟨p,_,ey,hs,rfl,wU zs,?_⟩;rw[wJ];exact k _ H (.d (.bool _)) M (Kp.refl H) (by simp[aH,aB]) m q
inductive y9(M:MH):W->Bool->Prop
 | n:y9 M (.d .none) false
 | b {k:Bool}:y9 M (.d (.bool k)) k
 | i {k:Int}:y9 M (.d (.int k)) (k != 0)
 | s {z:Str} (h:z.length<=sizeLine):y9 M (.d (.str z)) ((z.length:Int) != 0)
 | l {ds:List PyData}:y9 M (.d (.list ds)) (!ds.isEmpty)
 | t {ds:List PyData}:y9 M (.d (.tuple ds)) (!ds.isEmpty)
 | m {a:Addr} {ws:List W} (h:M a=some (.lst ws)):y9 M (.m a) (!ws.isEmpty)
 | dk {a:Addr} {kvs:List (Key×W)} (h:M a=some (.dic kvs)):y9 M (.m a) (!kvs.isEmpty)
theorem iJ{α β:Type}{xs:List α}{ys:List β}(h:xs.length=ys.length):xs.isEmpty=ys.isEmpty:=by
 cases xs<;>cases ys<;>simp at h ⊢
theorem y9.sound{b:Bool}(g:y9 M w b)(r:aH K H w x)(m:dJ K H M):ahD K x H b:=by
 cases g with
 | n=>simp only[aH,aB] at r;subst r;rfl
 | b=>simp only[aH,aB] at r;subst r;rfl
 | i=>simp only[aH,aB] at r;subst r;rfl
 | s h=>simp only[aH,aB] at r;subst r;exact⟨h,rfl⟩
 | l =>
  simp only[aH,aB] at r;obtain⟨a,vs,e,hs,ra⟩:=r;subst e;exact .inl ⟨vs,hs.sq,by rw[iJ ra.length]⟩
 | t =>
  simp only[aH,aB] at r;obtain⟨a,vs,e,hs,ra⟩:=r;subst e;exact .inr (.inl ⟨vs,hs,by rw[iJ ra.length]⟩)
 | m h =>
  obtain⟨vs,e,ra⟩:=m _ _ h;have r':x=.ref _:=r;subst r';exact .inl ⟨vs,.inl (.inl e),by rw[iJ ra.length]⟩
 | dk h =>
  obtain⟨l,e,pr⟩:=m _ _ h;have r':x=.ref _:=r;subst r';exact .inr (.inr ⟨l,e,by rw[iJ (abp pr)]⟩)
def aeB(ta:TD)(τ:DS)(M:MH)(Q:Bool->MH->Prop):Prop:=ta τ M λ w M1=>∃ b,y9 M1 w b/\Q b M1
theorem xX(ha:PD X a ta)(he:∀ whole:Sem Value,PySem.isTrue a X.env whole=(do let v <- whole;standAt a.pos;holding [v] (truthy v)):=by intro _;rfl):PTd X a (aeB ta):=
 aer (zQ ha he) λ σ H Q h=>by obtain⟨τ,M,Qd,A,h,k⟩:=h;exact⟨τ,M,_,A,h,λ v H' w M' kp r m ⟨b,g,q⟩=>⟨b,g.sound r m,k b H' M' kp m q⟩⟩
def afY(ws:List W)(M:MH)(Q:QD):Prop:=(∃ i,ws=[.d (.int i)]/\Q (.d (.int i)) M)\/∃ b,ws=[.d (.bool b)]/\Q (.d (.int (if b then 1 else 0))) M
theorem afx:fz K (λ xs H Q=>(∃ i,xs=[.int i]/\Q (.int i) H)\/∃ k,xs=[.bl k]/\Q (.int (if k then 1 else 0)) H) afY:=by
 intro vs H ws M Qd Q r m h k;rcases h with ⟨i,e,q⟩ | ⟨b,e,q⟩
 ·subst e;obtain⟨v,e1,r1⟩:=da r;simp only[aH,aB] at r1;subst r1;exact .inl ⟨i,e1,k _ H (.d (.int i)) M (Kp.refl H) (by simp[aH,aB]) m q⟩
 ·subst e;obtain⟨v,e1,r1⟩:=da r;simp only[aH,aB] at r1;subst r1;exact .inr ⟨b,e1,k _ H (.d (.int _)) M (Kp.refl H) (by simp[aH,aB]) m q⟩
def ql(ws:List W)(M:MH)(Q:QD):Prop:=∃ i j,ws=[.d (.int i),.d (.int j)]/\Q (.d (.int (if j > i then j else i))) M
theorem tQ:fz K (λ xs H Q=>∃ i j,xs=[V.int i,V.int j]/\Q (V.int (if j > i then j else i)) H) ql:=by intro vs H ws M Qd Q r m ⟨i,j,e,q⟩ k;subst e;obtain⟨v,v',e1,r1,r2⟩:=l3 r;simp only[aH,aB] at r1 r2;subst r1 r2;exact⟨i,j,e1,k _ H (.d (.int _)) M (Kp.refl H) (by simp[aH,aB]) m q⟩
end
section
variable {X:Cx}{K:FG}
def aik(K:FG):R2:=λ x y H Q=>∃ l b xs zs,x=.ref l/\y=.ref b/\SqL K H l xs/\SqL K H b zs/\xs.length+zs.length<=sizeLine/\∀ p,H p=none->Q (.ref p) (upd H p (.lst (xs++zs)))
theorem ab1:OpR X (binaryOp .Add) (aik X.K):=by
 intro pins s σ H x y v u Q I rx ry h;obtain⟨l,b,xs,zs,rfl,rfl,h1,h2,hz,q⟩:=h;cases rx;cases ry;obtain⟨its,r1,p1,_⟩:=I.list h1;obtain⟨its2,r2,p2,_⟩:=I.list h2;have t1:=p1.isList.typeIs (s:=s);have t2:=p2.isList.typeIs (s:=s);obtain⟨⟨oc,od,odt,osl⟩,n,e1,c1,d1,g1⟩:=p1;obtain⟨⟨oc2,od2,odt2,osl2⟩,n2,e2,c2,d2,g2⟩:=p2;dsimp only at c1 d1 g1 c2 d2 g2;subst c1 d1 g1 c2 d2 g2;have hl1:=r1.length;have hl2:=r2.length;refine wpAny_binaryOp_concat (T:= "list") t1 t2 noFill_list_add seq_list_add ?_;refine call_meets PySem.F.slot_list_add t1 PySem.F.entry_list_add (PySem.F.args_list_add_2 _ _) (list_addW l b its.toArray its2.toArray n n2 none none osl osl2 (by simp only[List.size_toArray];omega)) ⟨e1,e2,?_⟩;have ea:its.toArray++its2.toArray=(its++its2).toArray:=by simp
 rw[ea];exact⟨.ref _,_,I.ajE (t':=s.toks) (r1.append r2) (by rw[List.length_append];omega),rfl,q _ I.fresh⟩
inductive aeD(M:MH):W->List PyData->Prop
 | d {ds:List PyData}:aeD M (.d (.list ds)) ds
 | m {a:Addr} {ds:List PyData} (h:M a=some (.lst (ds.map W.d))):aeD M (.m a) ds
theorem aeD.sound(g:aeD M w ds)(r:aH K H w x)(m:dJ K H M):∃ p ys,x=.ref p/\SqL K H p ys/\bD K H ds ys:=by
 cases g with
 | d =>
  simp only[aH,aB] at r;obtain⟨a,vs,e,hs,ra⟩:=r;exact⟨a,vs,e,hs.sq,ra⟩
 | m h =>
  obtain⟨vs,e,ra⟩:=m _ _ h;exact⟨_,vs,r,.inl (.inl e),ra.data⟩
def vB(ta tb:TD)(τ:DS)(M:MH)(Q:QD):Prop:=ta τ M λ w M1=>tb τ M1 λ w' M2=>∃ xs ys,aeD M2 w xs/\aeD M2 w' ys/\xs.length+ys.length<=sizeLine/\Q (.d (.list (xs++ys))) M2
theorem afG(ha:PD X a ta)(hb:PD X b tb):PD X (.BinOp a .Add b pos) (vB ta tb):=fS (iD (aeP ab1 ha hb)) λ σ H Q h=>by obtain⟨τ,M,Qd,A,h,k⟩:=h;refine⟨τ,M,_,A,h,λ x H1 w M1 kp1 r1 m1 q1=>⟨τ,M1,_,A.go kp1 m1,q1,λ y H2 w' M2 kp2 r2 m2 hq67=>?_⟩⟩;obtain⟨xs,ys,g1,g2,hz,q⟩:=hq67;obtain⟨p,vs,e1,s1,ra1⟩:=g1.sound (r1.keep kp2) m2;obtain⟨p',vs',e2,s2,ra2⟩:=g2.sound r2 m2;refine⟨p,p',vs,vs',e1,e2,s1,s2,by rw[ra1.length,ra2.length];exact hz,λ c hc=>?_⟩;exact ik hc (ra1.append ra2) m2 q (kgo (kgo k kp1) kp2)
end
abbrev ahh:=List W->DS->MH->(DS->MH->Prop)->Prop
def ajF(K:FG)(g:ahh):TGs:=λ vs σ H Q=>∃ ws τ M Qd,bQ K H ws vs/\Abs K H σ τ M/\g ws τ M Qd/\∀ σ' H' τ' M',Kp H H'->Abs K H' σ' τ' M'->Qd τ' M'->Q σ' H'
abbrev aed(X:Cx)(es:List Expr)(g:ahh):Prop:=PGs X es (ajF X.K g)
theorem agx(h:PGs X es g)(k:∀ v σ H Q,g' v σ H Q->g v σ H Q):PGs X es g':=λ pins s σ H v u Q I r q=>h pins s σ H v u Q I r (k v σ H Q q)
def mK(ws:List W)(τ:DS)(M:MH)(Q:DS->MH->Prop):Prop:=ws=[]/\Q τ M
def cV(g:TGd)(gs:ahh)(ws:List W)(τ:DS)(M:MH)(Q:DS->MH->Prop):Prop:=∃ w r,ws=w::r/\g w τ M λ τ' M'=>gs r τ' M' Q
theorem xJ(h1:PGd X e g)(h2:aed X es gs)(hs:(assignEach (e::es) X.env).map (·.2)=assign e X.env::(assignEach es X.env).map (·.2):=by rfl):aed X (e::es) (cV g gs):=
 agx (aaU h1 h2 hs) λ vs σ H Q hq69=>by
  obtain⟨ws,τ,M,Qd,r,A,⟨w,wr,ew,q⟩,k⟩:=hq69;subst ew;cases r with
  | cons r1 r2 =>
   refine⟨_,_,rfl,w,τ,M,_,r1,A,q,λ σ1 H1 τ1 M1 kp1 A1 q1=>?_⟩;exact⟨wr,τ1,M1,Qd,bQ.keep kp1 r2,A1,q1,λ σ2 H2 τ2 M2 kp2 A2 q2=>k σ2 H2 τ2 M2 (kp1.trans kp2) A2 q2⟩
def gT(n:Nat)(gs:ahh)(w:W)(τ:DS)(M:MH)(Q:DS->MH->Prop):Prop:=∃ ds,w=.d (.tuple ds)/\ds.length=n/\gs (ds.map W.d) τ M Q
theorem acY(hc:X.calm=true)(h:aed X es gs)(hn:(assignEach es X.env).length=n:=by rfl)(hst:(assignEach es X.env).findIdx? (·.1)=none:=by rfl):PGd X (.Tuple es k pos) (gT n gs):=
 aie (ae9 hc h hn hst) λ v σ H Q hq70=>by obtain⟨w,τ,M,Qd,r,A,⟨ds,ew,hl,q⟩,kk⟩:=hq70;subst ew;simp only[aH,aB] at r;obtain⟨a,vs,ev,hs,ra⟩:=r;exact⟨a,vs,ev,hs,by rw[ra.length];exact hl,ds.map W.d,τ,M,Qd,ra.ws,A,q,kk⟩
def ahy(i j:Nat)(t:TAd)(D:Ed)(τ:DS)(M:MH):Prop:=t τ M λ ws M1=>∃ v w,ws=[v,w]/\D.nx ((τ.set i (some v)).set j (some w)) M1
theorem abZ{kt k2 pt2}(hc:X.calm=true)(hN:X.N.Nodup)(hi:X.N[i]? =some x)(hj:X.N[j]? =some y)(hij:i≠j)
  (hx:X.env.scope.names.lookup x=some .local)(hy:X.env.scope.names.lookup y=some .local)(ha:PAd X [a,b] t)
  (hw:swappedStores [.Tuple [.Name x px,.Name y py] kt pt] (.Tuple [a,b] k2 pt2) X.env=pure (some [x,y]):=by rfl)
  (hs:swapsWithSole [.Tuple [.Name x px,.Name y py] kt pt] (.Tuple [a,b] k2 pt2) pos.line X.env=pure false:=by rfl) :
  PSd X (.Assign [.Tuple [.Name x px,.Name y py] kt pt] (.Tuple [a,b] k2 pt2) pos) (ahy i j t):=abx (afW hc hN hi hj hij hx hy ha hw hs) λ D σ H h=>by
 obtain⟨τ,M,Dd,A,h,k1,_⟩:=h;refine⟨τ,M,_,A,h,λ vs H1 ws M1 kp1 r1 m1 hq71=>?_⟩;obtain⟨v,w,ew,q⟩:=hq71;subst ew;obtain⟨u1,u2,e1,r2,r3⟩:=l3 r1;exact⟨u1,u2,e1,k1 _ H1 _ M1 kp1 (((A.go kp1 m1).set i r2).set j r3) q⟩
def lB(trs:List (TD×TD))(τ:DS)(M:MH)(Q:QD):Prop:=∀ p,M p=none->uS trs τ (dR M p (.dic [])) λ ps M2=>M2 p=some (.dic [])/\∃ kvs:List (Key×W),ps=kvs.map (λ q=>(kW q.1,q.2))/\kvs.length<=15/\(kvs.map (·.1)).Nodup /\
 Q (.m p) (dR M2 p (.dic kvs))
theorem ni{K:FG}{H:Hp}:∀ {kvs:List (Key×W)} {ps:List (V×V)},Paired (λ(p:W×W) (q:V×V)=>aH K H p.1 q.1/\aH K H p.2 q.2) (kvs.map λ q=>(kW q.1,q.2)) ps ->
  ∃ l:List (Key×V),ps=l.map (λ kv=>(kV kv.1,kv.2))/\l.map (·.1)=kvs.map (·.1)/\Paired (λ(p:Key×W) (q:Key×V)=>p.1=q.1/\aH K H p.2 q.2) kvs l
 | [],ps,h=>by cases h;exact⟨[],rfl,rfl,.nil⟩
 | (k,d)::kvs,ps,h=>by
  cases h with
  | cons r t =>
   rename_i q qs
   obtain⟨x,y⟩:=q;obtain⟨l,e1,e2,e3⟩:=ni t;refine⟨(k,y)::l,?_,by simp[e2],.cons ⟨rfl,r.2⟩ e3⟩;rw[List.map_cons,<- e1,<- pS r.1]
theorem zC(h:PPs X pos keys values (trs.map λ p=>(up X.K p.1,up X.K p.2)))(hall:keys.all (·.isSome)=true:=by rfl)(hl:keys.length=values.length:=by rfl)(h0:keys≠[]:=by simp)
  (h15:keys.length<=15:=by decide):PD X (.Dict keys values pos) (lB trs):=fS (wN h hall hl h0 h15) λ σ H Q ⟨τ,M,Qd,A,q,k⟩=>λ p hp=>by
 have kp0:Kp H (upd H p (.dK [])):=Kp.new hp;have m0:dJ X.K (upd H p (.dK [])) (dR M p (.dic [])):=A.mem.put (mo:=.dic []) kp0 ⟨[],aP,.nil⟩;have hM:=A.mem.free hp;refine l7 (A.go kp0 m0) (q p hM) λ ps H2 ws M2 kp2 r2 m2 hq72=>?_;obtain⟨eM,kvs,ews,hlen,hnd,qq⟩:=hq72;subst ews;obtain⟨l0,e0,pr0⟩:=m2 p _ eM;have el0:l0=[]:=by cases pr0;rfl
 subst el0;obtain⟨l,e1,e2,e3⟩:=ni r2;have elen:l.length=kvs.length:=by
  have:=congrArg List.length e2
  simpa using this
 refine⟨e0,l,e1,by omega,?_⟩;have em:gb [] l=l:=by rw[gR (by simpa [e2] using hnd)];rfl
 rw[em];have kp3:Kp H2 (upd H2 p (.dK l)):=Kp.set e0 (λ xs z=>nomatch z) λ _ _ z=>nomatch z;exact k _ _ (.m p) _ ((kp0.trans kp2).trans kp3) rfl (m2.put (mo:=.dic kvs) kp3 ⟨l,aP,Paired.xQ e3 λ p q z=>⟨z.1,z.2.keep kp3⟩⟩) qq
section
variable {K:FG}{C:Addr}
end
theorem pcT(hc:eL X (.type T) r)(hd:fz X.K r rd)(hg:Gl X x)(hm:X.mg x=none)(hv:bootBuiltins x=some (.type T))(ha:PAd X (e::es) t)(hn:x ≠ "__name__":= by decide)(hdb:ND x:=by decide)
  (h1:fu e=false:=by rfl)(h2:(es.all λ e=>!fu e)=true:=by rfl):PD X (.Call (.Name x p) (e::es) [] pos) (dCB rd t):=xH hc hd hg hm hv ha hn hdb (cq e es X.env h1) (d3 pos X.env es h2)
theorem wH:bootBuiltins "max" = some (.builtin "max"):=by decide +kernel
theorem aah(hu:X.A.units+1<cLine)(ho:Jd (PD X o td))(hi:Jd (PD X i ti))(hs:acj i:=by exact λ _ _=>rfl):Jd (PD X (.Subscript o i pos) (adx td ti)):=⟨D.acf (hu:=hu) (ho:=ho.h) (hi:=hi.h) (hs:=hs)⟩
theorem zV(hu:X.A.units+1<cLine)(ho:Jd (PD X o td))(he:Jd (PD X e ti))(m:M1 X o "get" apos e cpos:=by exact⟨rfl,rfl,rfl,rfl⟩):Jd (PD X (.Call (.Attribute o "get" apos) [e] [] cpos) (adp td ti)):=⟨D.ac5 (hu:=hu) (ho:=ho.h) (he:=he.h) (m:=m)⟩
theorem ub(hu:X.A.units+1<cLine)(ho:Jd (PD X o td))(he:Jd (PD X e ti))(hf:Jd (PD X f tx))(m:M2 X o "get" apos e f cpos:=by exact⟨rfl,rfl,rfl,rfl⟩):Jd (PD X (.Call (.Attribute o "get" apos) [e,f] [] cpos) (xq td ti tx)):=⟨D.adn (hu:=hu) (ho:=ho.h) (he:=he.h) (hf:=hf.h) (m:=m)⟩
theorem aad(h:Jd (PD X e td)):Jd (PD X e (adQ td)):=⟨D.acC (h:=h.h)⟩
theorem dB(ho:Jd (PD X o td))(he:Jd (PD X e te))(hbase:attributeBase o "append" X.env (eval o X.env)=eval o X.env:=by rfl)(hfew:((backTo cpos (starEach [e] X.env)).all (λ x=>!x.1)&&(backToKw cpos (keywordEach [] X.env)).all (λ x=>x.1.isSome)
   && decide (([e]:List Expr).length+([]:List Keyword).length+(if ([]:List Keyword).isEmpty then 0 else 1)<30))=true:=by rfl)(hline:(apos.endLine==cpos.line)=true:=by rfl)(hs:fu e=false:=by rfl):Jd (PD X (.Call (.Attribute o "append" apos) [e] [] cpos) (fI td te)):=⟨D.wu (ho:=ho.h) (he:=he.h) (hbase:=hbase) (hfew:=hfew) (hline:=hline) (hs:=hs)⟩
theorem jz(ha:Jd (PD X a ta))(he:∀ whole:Sem Value,PySem.isTrue a X.env whole=(do let v <- whole;standAt a.pos;holding [v] (truthy v)):=by intro _;rfl):Jd (PTd X a (aeB ta)):=⟨D.xX (ha:=ha.h) (he:=he)⟩
theorem fF(ha:Jd (PD X a ta))(hb:Jd (PD X b tb)):Jd (PD X (.BinOp a .Add b pos) (vB ta tb)):=⟨D.afG (ha:=ha.h) (hb:=hb.h)⟩
theorem cY  : Jd (aed X [] mK):=⟨agx ad6 λ vs σ H Q hq68=>by obtain⟨ws,τ,M,Qd,r,A,⟨e,q⟩,k⟩:=hq68;subst e;cases r;exact⟨rfl,k σ H τ M (Kp.refl H) A q⟩⟩
theorem a6(h1:Jd (PGd X e g))(h2:Jd (aed X es gs))(hs:(assignEach (e::es) X.env).map (·.2)=assign e X.env::(assignEach es X.env).map (·.2):=by rfl):Jd (aed X (e::es) (cV g gs)):=⟨D.xJ (h1:=h1.h) (h2:=h2.h) (hs:=hs)⟩
theorem d5(hc:X.calm=true)(h:Jd (aed X es gs))(hn:(assignEach es X.env).length=n:=by rfl)(hst:(assignEach es X.env).findIdx? (·.1)=none:=by rfl):Jd (PGd X (.Tuple es k pos) (gT n gs)):=⟨D.acY (hc:=hc) (h:=h.h) (hn:=hn) (hst:=hst)⟩
theorem aa4{kt k2 pt2}(hc:X.calm=true)(hN:X.N.Nodup)(hi:X.N[i]? =some x)(hj:X.N[j]? =some y)(hij:i≠j)(hx:X.env.scope.names.lookup x=some .local)(hy:X.env.scope.names.lookup y=some .local)(ha:Jd (PAd X [a,b] t))(hw:swappedStores [.Tuple [.Name x px,.Name y py] kt pt] (.Tuple [a,b] k2 pt2) X.env=pure (some [x,y]):=by rfl)(hs:swapsWithSole [.Tuple [.Name x px,.Name y py] kt pt] (.Tuple [a,b] k2 pt2) pos.line X.env=pure false:=by rfl):Jd (PSd X (.Assign [.Tuple [.Name x px,.Name y py] kt pt] (.Tuple [a,b] k2 pt2) pos) (ahy i j t)):=⟨D.abZ (hc:=hc) (hN:=hN) (hi:=hi) (hj:=hj) (hij:=hij) (hx:=hx) (hy:=hy) (ha:=ha.h) (hw:=hw) (hs:=hs)⟩
theorem i9(h:Jd (PPs X pos keys values (trs.map (pm X.K))))(hall:keys.all (·.isSome)=true:=by rfl)(hl:keys.length=values.length:=by rfl)(h0:keys≠[]:=by simp)(h15:keys.length<=15:=by decide):Jd (PD X (.Dict keys values pos) (lB trs)):=⟨D.zC (h:=h.h) (hall:=hall) (hl:=hl) (h0:=h0) (h15:=h15)⟩
theorem zf(hc:eL X (.type T) r)(hd:fz X.K r rd)(hg:Gl X x)(hm:X.mg x=none)(hv:bootBuiltins x=some (.type T))(ha:Jd (PAd X (e::es) t))(hn:x ≠ "__name__":= by decide)(hdb:ND x:=by decide)(h1:fu e=false:=by rfl)(h2:(es.all λ e=>!fu e)=true:=by rfl):Jd (PD X (.Call (.Name x p) (e::es) [] pos) (dCB rd t)):=⟨D.pcT (hc:=hc) (hd:=hd) (hg:=hg) (hm:=hm) (hv:=hv) (ha:=ha.h) (hn:=hn) (hdb:=hdb) (h1:=h1) (h2:=h2)⟩
@[simp] theorem agU (i j:Int):eR (.int i) (.int j)=true:=rfl
@[simp] theorem af6 (x y:Str):eR (.str x) (.str y)=true:=rfl
@[simp] theorem aet (x y:Bool):eR (.bool x) (.bool y)=true:=rfl
@[simp] theorem ahJ (i j:Int):PyData.eqv (.int i) (.int j)=(i==j):=by rw[PyData.eqv]
@[simp] theorem ah3 (i j:Str):PyData.eqv (.str i) (.str j)=(i==j):=by rw[PyData.eqv]
@[simp] theorem aiJ (a:Addr):tK (.m a)=true:=rfl
@[simp] theorem afS (ds:List PyData):tK (.d (.list ds))=true:=rfl
@[simp] theorem aeC (ds:List PyData):tK (.d (.tuple ds))=true:=rfl
@[simp] theorem ahf (n:Nat):ixN (n+1) 0=some 0:=by unfold ixN;simp
theorem abm{α:Type}{xs:List α}{i:Int}(h0:0<=i)(h1:i<xs.length):atI xs i=some (xs[i.toNat]'(by omega)):=by
 unfold atI ixN;rw[if_pos h0,if_pos h1];simp
inductive Bag(M:MH) (p:Addr):Prop
 | mk (a b c:Int) (ns:List Int) (e:M p=some (.lst [.d (.int a),.d (.int b),.d (.int c),.d (.list (ns.map PyData.int))])) (z:0<=a/\0<=b/\b<2147483647/\0<=c/\(∀ n∈ns,0<=n)):Bag M p
def eU:SpD:=λ ws M Q=>∃ ns:List Int,ws=[.d (.list (ns.map PyData.int))]/\ns.length<=1000/\∀ p M',M p=none->(∀ q,q≠p->M' q=M q)->Bag M' p->Q (.m p) M'
inductive qf(ws:List W) (M:MH) (Q:QD):Prop
 | mk (p:Addr) (n:Int) (z0:ws=[.m p,.d (.int n)]) (z1:Bag M p) (z2:0<n) (z3:n<1073741824) (z4:∀ (r:Int) M',0<=r->r<n->Bag M' p->(∀ q,q≠p->M' q=M q)->Q (.d (.int r)) M'):qf ws M Q
def aA:SpD:=qf
theorem zo:∀ ws M Q,eU ws M Q->ws.length=1:=by rintro ws M Q ⟨ns,rfl,_⟩;rfl
theorem vk:∀ ws M Q,aA ws M Q->ws.length=2:=by rintro ws M Q ⟨p,n,rfl,_⟩;rfl
theorem wZ{n:Nat}{i:Int}(h0:0<=i)(h1:i<n):ixN n i=some i.toNat:=by unfold ixN;rw[if_pos h0,if_pos h1]
theorem adw(hm:M p=some (.lst ws))(h:atI ws i=some x):ixW M (.m p) i=some x:=by simp only[ixW,hm];exact h
theorem eI{c:Bool}{A B:Prop}(h1:c=true->A)(h2:c=false->B):if c=true then A else B:=by
 cases c with
 | true=>rw[if_pos rfl];exact h1 rfl
 | false=>rw[if_neg Bool.false_ne_true];exact h2 rfl
abbrev yb:List Str:=["_law_script"]
def xY:TSd:=
  bK (xO (ae (dC (.d (.int 0))) (ae (dC (.d (.int 1234567891))) (ae (dC (.d (.int 0))) (ae (dLC (fY (dSl (aj 0) (bt) (cX (dC (.d (.int 63)))))) (gN 0) (pz) (dCB afU (ae (aj 0) (av))) 1 []) (av))))))
abbrev ur:List Str:=["_law_bag_here", "_law_many", "_law_cell", "_law_value", "_law_first", "_law_second"]
def uv:TSd:=
  bc (dIf (aE (dOp aiP (dOp cH (aj 0) (dC (.d (.int 0)))) (dC (.d (.int 0)))))
   (bc (cE (dC (.d (.int 0))) (gN 2)) <|
   bc (dIf (aE (dOp ahp (dOp cH (aj 0) (dC (.d (.int 2)))) (dCB eO (ae (dOp cH (aj 0) (dC (.d (.int 3)))) (av)))))
    (cE (dOp cH (dOp cH (aj 0) (dC (.d (.int 3)))) (dOp cH (aj 0) (dC (.d (.int 2))))) (gN 2))
    (bj)) <|
   bc (zN (aj 0) (dC (.d (.int 2))) (dC (.d (.int 1))) (λ i j=>i+j)) <|
   bc (dIf (aE (dOp aix (aj 2) (dC (.d (.int 1000000000000000000)))))
    (cE (aj 2) (aao (aj 0) (dC (.d (.int 0)))))
    (bj)) <|
   cE (dOp fG (dOp cu (dOp cu (dOp ix (dOp cH (aj 0) (dC (.d (.int 1)))) (dC (.d (.int 48271)))) (dOp fG (aj 2) (dC (.d (.int 2147483647))))) (dOp ix (dC (.d (.int 7919))) (dOp cH (aj 0) (dC (.d (.int 2)))))) (dC (.d (.int 2147483647)))) (aao (aj 0) (dC (.d (.int 1)))))
   (bj)) <|
  bc (dIf (aE (dOp uL (dOp cH (aj 0) (dC (.d (.int 0)))) (dC (.d (.int 0)))))
   (bc (cE (dOp fG (dOp cH (aj 0) (dC (.d (.int 0)))) (aj 1)) (gN 3)) <|
   bc (cE (dOp xI (dOp cH (aj 0) (dC (.d (.int 0)))) (aj 1)) (aao (aj 0) (dC (.d (.int 0))))) <|
   bK (aj 3))
   (bj)) <|
  bc (cE (dOp fG (dOp ix (dOp cu (dOp cH (aj 0) (dC (.d (.int 1)))) (dC (.d (.int 1)))) (dC (.d (.int 39373)))) (dC (.d (.int 1000000007)))) (gN 4)) <|
  bc (cE (dOp fG (dOp ix (dOp fG (dOp ix (aj 4) (aj 4)) (dC (.d (.int 998244353)))) (dC (.d (.int 30011)))) (dC (.d (.int 998244353)))) (gN 5)) <|
  bc (dIf (aE (dOp uL (aj 1) (dC (.d (.int 1000000)))))
   (bK (dOp fG (dOp cu (dOp ix (aj 5) (dC (.d (.int 1000000007)))) (aj 4)) (aj 1)))
   (bj)) <|
  bK (dOp fG (dOp xI (aj 5) (dC (.d (.int 7)))) (aj 1))
abbrev zK(a b c:Int)(ns:List Int):List W:=[.d (.int a),.d (.int b),.d (.int c),.d (.list (ns.map PyData.int))]
theorem jI(hm:M p=some (.lst (zK a b c ns)))(ha:0<=a)(hb:0<=b)(hb2:b<2147483647)(hc:0<=c)(hns:∀ n∈ns,0<=n)(hn:0<n)(hn2:n<1073741824)
  (k:∀ (r:Int) M',0<=r->r<n->Bag M' p->(∀ q,q≠p->M' q=M q)->Q (.d (.int r)) M')(hD:D.rt=Q) :
  (bc (dIf (aE (dOp uL (dOp cH (aj 0) (dC (.d (.int 0)))) (dC (.d (.int 0)))))
   (bc (cE (dOp fG (dOp cH (aj 0) (dC (.d (.int 0)))) (aj 1)) (gN 3)) <|
   bc (cE (dOp xI (dOp cH (aj 0) (dC (.d (.int 0)))) (aj 1)) (aao (aj 0) (dC (.d (.int 0))))) <|
   bK (aj 3))
   (bj)) <|
  bc (cE (dOp fG (dOp ix (dOp cu (dOp cH (aj 0) (dC (.d (.int 1)))) (dC (.d (.int 1)))) (dC (.d (.int 39373)))) (dC (.d (.int 1000000007)))) (gN 4)) <|
  bc (cE (dOp fG (dOp ix (dOp fG (dOp ix (aj 4) (aj 4)) (dC (.d (.int 998244353)))) (dC (.d (.int 30011)))) (dC (.d (.int 998244353)))) (gN 5)) <|
  bc (dIf (aE (dOp uL (aj 1) (dC (.d (.int 1000000)))))
   (bK (dOp fG (dOp cu (dOp ix (aj 5) (dC (.d (.int 1000000007)))) (aj 4)) (aj 1)))
   (bj)) <|
  bK (dOp fG (dOp xI (aj 5) (dC (.d (.int 7)))) (aj 1))) D [some (.m p),some (.d (.int n)),x,none,none,none] M:=by
 subst hD;have i0:ixW M (.m p) 0=some (.d (.int a)):=adw hm rfl;have i1:ixW M (.m p) 1=some (.d (.int b)):=adw hm rfl;have same:Bag M p:=⟨a,b,c,ns,hm,ha,hb,hb2,hc,hns⟩;refine⟨_,rfl,_,_,rfl,i0,rfl,_,_,rfl,rfl,_,rfl,?_⟩;refine eI (λ h=>?_) (λ h=>?_)
 ·have h0:0<a:=of_decide_eq_true h;refine⟨_,rfl,_,_,rfl,i0,rfl,_,rfl,_,_,rfl,rfl,hn,?_⟩;refine⟨_,rfl,_,_,rfl,i0,rfl,_,rfl,_,_,rfl,rfl,⟨hn,hn2⟩,?_⟩;refine⟨_,rfl,_,_,_,_,rfl,rfl,hm,rfl,?_⟩;refine⟨_,rfl,?_⟩;refine k _ _ (Int.emod_nonneg _ (by omega)) (Int.emod_lt_of_pos _ hn) ⟨a / n,b,c,ns,aC,Int.ediv_nonneg ha (by omega),hb,hb2,hc,hns⟩ λ q hq=>de hq
 ·refine⟨_,rfl,_,_,rfl,i1,rfl,.inl ?_⟩;refine⟨_,_,rfl,rfl,_,_,rfl,rfl,.inl ⟨by omega,by omega⟩,_,_,rfl,rfl,(by decide:(0:Int)<1000000007),?_⟩;have f0:0<=(b+1) * 39373 % 1000000007:=Int.emod_nonneg _ (by decide);have f1:(b+1) * 39373 % 1000000007<1000000007:=Int.emod_lt_of_pos _ (by decide);refine⟨_,rfl,_,rfl,_,_,rfl,rfl,.inl ⟨by omega,by omega⟩,_,_,rfl,rfl,(by decide:(0:Int)<998244353),?_⟩;have g0:0<=(b+1) * 39373 % 1000000007 * ((b+1) * 39373 % 1000000007) % 998244353:=Int.emod_nonneg _ (by decide);have g1:(b+1) * 39373 % 1000000007 * ((b+1) * 39373 % 1000000007) % 998244353<998244353:=Int.emod_lt_of_pos _ (by decide);refine⟨_,_,rfl,rfl,.inl ⟨by omega,by omega⟩,_,_,rfl,rfl,(by decide:(0:Int)<998244353),?_⟩;have e0:0<=(b+1) * 39373 % 1000000007 * ((b+1) * 39373 % 1000000007) % 998244353 * 30011 % 998244353:=Int.emod_nonneg _ (by decide);have e1:(b+1) * 39373 % 1000000007 * ((b+1) * 39373 % 1000000007) % 998244353 * 30011 % 998244353<998244353:=Int.emod_lt_of_pos _ (by decide);refine⟨_,rfl,_,_,rfl,rfl,_,rfl,?_⟩;refine eI (λ h=>?_) (λ h=>?_)
  ·refine⟨_,rfl,_,_,rfl,rfl,.inl ⟨by omega,by omega⟩,_,rfl,.inl ⟨_,_,rfl,rfl,_,rfl,_,_,rfl,rfl,hn,?_⟩⟩;exact k _ _ (Int.emod_nonneg _ (by omega)) (Int.emod_lt_of_pos _ hn) same λ q _=>rfl
  ·refine⟨_,rfl,_,_,rfl,rfl,⟨by decide,by decide⟩,_,rfl,_,_,rfl,rfl,hn,?_⟩;exact k _ _ (Int.emod_nonneg _ (by omega)) (Int.emod_lt_of_pos _ hn) same λ q _=>rfl
theorem mT(hm:M p=some (.lst (zK a b c ns)))(ha:0<=a)(hb:0<=b)(hb2:b<2147483647)(hc:0<=c)(hcell:0<=cell)
  (k:∀ a' b' c' M',0<=a'->0<=b'->b'<2147483647->0<=c'->M' p=some (.lst (zK a' b' c' ns))->(∀ q,q≠p->M' q=M q)->D.nx [some (.m p),some (.d (.int n)),some (.d (.int cell)),none,none,none] M') :
  (bc (zN (aj 0) (dC (.d (.int 2))) (dC (.d (.int 1))) (λ i j=>i+j)) <|
   bc (dIf (aE (dOp aix (aj 2) (dC (.d (.int 1000000000000000000)))))
    (cE (aj 2) (aao (aj 0) (dC (.d (.int 0)))))
    (bj)) <|
   cE (dOp fG (dOp cu (dOp cu (dOp ix (dOp cH (aj 0) (dC (.d (.int 1)))) (dC (.d (.int 48271)))) (dOp fG (aj 2) (dC (.d (.int 2147483647))))) (dOp ix (dC (.d (.int 7919))) (dOp cH (aj 0) (dC (.d (.int 2)))))) (dC (.d (.int 2147483647)))) (aao (aj 0) (dC (.d (.int 1)))))
   D [some (.m p),some (.d (.int n)),some (.d (.int cell)),none,none,none] M:=by
 refine⟨_,rfl,_,_,_,_,_,rfl,rfl,hm,rfl,rfl,_,rfl,rfl,?_⟩;have m1:dR M p (.lst (zK a b (c+1) ns)) p=some (.lst (zK a b (c+1) ns)):=aC;have f1:∀ q,q≠p->dR M p (.lst (zK a b (c+1) ns)) q=M q:=λ q hq=>de hq;show(bc _ _) D _ (dR M p (.lst (zK a b (c+1) ns)));generalize dR M p (.lst (zK a b (c+1) ns))=M1 at m1 f1;have fin:∀ (a':Int) (M2:MH),0<=a'->M2 p=some (.lst (zK a' b (c+1) ns))->(∀ q,q≠p->M2 q=M q) ->
   cE (dOp fG (dOp cu (dOp cu (dOp ix (dOp cH (aj 0) (dC (.d (.int 1)))) (dC (.d (.int 48271)))) (dOp fG (aj 2) (dC (.d (.int 2147483647))))) (dOp ix (dC (.d (.int 7919))) (dOp cH (aj 0) (dC (.d (.int 2)))))) (dC (.d (.int 2147483647)))) (aao (aj 0) (dC (.d (.int 1)))) D [some (.m p),some (.d (.int n)),some (.d (.int cell)),none,none,none] M2:=by
  intro a' M2 ha' m2 f2;have i1:ixW M2 (.m p) 1=some (.d (.int b)):=adw m2 rfl;have i2:ixW M2 (.m p) 2=some (.d (.int (c+1))):=adw m2 rfl;refine⟨_,rfl,_,_,rfl,i1,rfl,_,_,rfl,rfl,.inl ⟨by omega,by omega⟩,_,rfl,_,_,rfl,rfl,(by decide:(0:Int)<2147483647),.inl ?_⟩;refine⟨_,_,rfl,rfl,_,rfl,_,_,rfl,i2,rfl,_,_,rfl,rfl,.inl ⟨by decide,by decide⟩,.inl ?_⟩;refine⟨_,_,rfl,rfl,_,_,rfl,rfl,(by decide:(0:Int)<2147483647),_,rfl,_,_,_,_,rfl,rfl,m2,rfl,?_⟩;exact k a' _ (c+1) _ ha' (Int.emod_nonneg _ (by decide)) (Int.emod_lt_of_pos _ (by decide)) (by omega) aC λ q hq=>(de hq).trans (f2 q hq)
 refine⟨_,rfl,_,_,rfl,rfl,_,rfl,?_⟩;refine eI (λ h=>?_) (λ h=>?_)
 ·refine⟨_,rfl,_,rfl,_,_,_,_,rfl,rfl,m1,rfl,?_⟩;exact fin cell _ hcell aC λ q hq=>(de hq).trans (f1 q hq)
 ·exact fin a M1 ha m1 f1
theorem tm:∀ ws M Q,aA ws M Q->uv {nx:=λ _ M'=>Q (.d .none) M',rt:=Q} (dQ ur ws) M:=by
 rintro ws M Q ⟨p,n,rfl,⟨a,b,c,ns,hm,ha,hb,hb2,hc,hns⟩,hn,hn2,k⟩;have i0:ixW M (.m p) 0=some (.d (.int a)):=adw hm rfl;have i2:ixW M (.m p) 2=some (.d (.int c)):=adw hm rfl;have i3:ixW M (.m p) 3=some (.d (.list (ns.map PyData.int))):=adw hm rfl;refine⟨_,rfl,_,_,rfl,i0,rfl,_,_,rfl,rfl,rfl,_,rfl,?_⟩;refine eI (λ h=>?_) (λ h=>?_)
 ·refine⟨_,rfl,_,_,rfl,i2,rfl,_,rfl,_,_,rfl,i3,rfl,_,_,rfl,rfl,rfl,_,_,rfl,rfl,_,rfl,?_⟩;refine eI (λ h=>?_) (λ h=>?_)
  ·have hlt:c<((ns.map PyData.int).length:Nat):=of_decide_eq_true h;have hlt':c.toNat<ns.length:=by rw[List.length_map] at hlt;omega
   have ic:ixW M (.d (.list (ns.map PyData.int))) c=some (.d (.int (ns[c.toNat]'hlt'))):=by simp only[ixW];rw[abm hc hlt];simp
   refine⟨_,rfl,_,_,rfl,i3,rfl,_,rfl,_,_,rfl,i2,rfl,_,_,rfl,ic,rfl,?_⟩;refine mT (cell:=ns[c.toNat]'hlt') hm ha hb hb2 hc (hns _ (List.getElem_mem _)) λ a' b' c' M' h1 h2 h3 h4 h5 h6=>?_;exact jI (x:=some (.d (.int (ns[c.toNat]'hlt')))) h5 h1 h2 h3 h4 hns hn hn2 (λ r M'' r0 r1 bg fr=>k r M'' r0 r1 bg λ q hq=>(fr q hq).trans (h6 q hq)) rfl
  ·refine mT (cell:=0) hm ha hb hb2 hc (Int.le_refl 0) λ a' b' c' M' h1 h2 h3 h4 h5 h6=>?_;exact jI (x:=some (.d (.int 0))) h5 h1 h2 h3 h4 hns hn hn2 (λ r M'' r0 r1 bg fr=>k r M'' r0 r1 bg λ q hq=>(fr q hq).trans (h6 q hq)) rfl
 ·exact jI (x:=none) hm ha hb hb2 hc hns hn hn2 k rfl
theorem yp{ws:List W}{i:Nat}(h:ws[i]? =some w):(ws.take (i+1)).filterMap f=(ws.take i).filterMap f++(f w).toList:=by rw[List.take_add_one,h,List.filterMap_append];cases e:f w<;>simp[e]
theorem acH{tt:TTd}{te:TD}{fr:List Nat}{τ:DS}{M:MH}{Q:List PyData->MH->Prop}{ws:List W}(f:W->Option PyData)(hl:ws.length<=sizeLine)
  (step:∀ w∈ws,∀ P':Option PyData->Prop,P' (f w)->tt (some w::fr.map λ j=>(τ[j]?).getD none) M λ b M3=>if b=true then te (some w::fr.map λ j=>(τ[j]?).getD none) M3 λ y M4=>∃ d,y=.d d/\M4=M/\P' (some d) else M3=M/\P' none)
  (q:Q (ws.filterMap f) M):∃ P:Nat->List PyData->DS->MH->Prop,P 0 [] (aeq 1 fr τ) M /\
   (∀ i w acc τ M,ws[i]? =some w->P i acc τ M->acc.length<sizeLine/\gN 0 w τ M λ τ2 M2=>tt τ2 M2 λ b M3=>if b=true then te τ2 M3 λ y M4=>∃ d,y=.d d/\P (i+1) (acc++[d]) τ2 M4 else P (i+1) acc τ2 M3) /\
   ∀ acc τ M,P ws.length acc τ M->Q acc M:=by
 let Pk:Nat->List PyData->DS->Prop:=λ i acc τ'=>i<=ws.length/\acc=(ws.take i).filterMap f/\∃ x,τ'=x::fr.map λ j=>(τ[j]?).getD none
 refine⟨λ i acc τ' M'=>M'=M/\Pk i acc τ',⟨rfl,Nat.zero_le _,rfl,none,rfl⟩,λ i w acc τ' M' hw hp=>?_,λ acc τ' M' hp=>?_⟩
 ·obtain⟨rfl,hi,rfl,x,rfl⟩:=hp;have hlt:i<ws.length:=(List.getElem?_eq_some_iff.mp hw).1;refine⟨?_,step w (List.mem_of_getElem? hw) (λ o=>match o with
   | some d=>Pk (i+1) ((ws.take i).filterMap f++[d]) (some w::fr.map λ j=>(τ[j]?).getD none)
   | none=>Pk (i+1) ((ws.take i).filterMap f) (some w::fr.map λ j=>(τ[j]?).getD none)) ?_⟩
  ·have h1:=List.length_filterMap_le f (ws.take i);rw[List.length_take] at h1;omega
  ·cases e:f w with
   | some d=>exact⟨hlt,by rw[yp hw,e];rfl,_,rfl⟩
   | none=>exact⟨hlt,by rw[yp hw,e];simp,_,rfl⟩
 ·obtain⟨rfl,hi,rfl,x,rfl⟩:=hp;rw[List.take_of_length_le (Nat.le_refl _)];exact q
theorem agI{α:Type}(g:α->W)(f:W->Option PyData)(h:α->PyData)(e:∀ a,f (g a)=some (h a))(l:List α):(l.map g).filterMap f=l.map h:=by
 induction l with
 | nil=>rfl
 | cons a l ih=>rw[List.map_cons,List.filterMap_cons,e,ih];rfl
theorem vO:∀ ws M Q,eU ws M Q->xY {nx:=λ _ M'=>Q (.d .none) M',rt:=Q} (dQ yb ws) M:=by
 rintro ws M Q ⟨ns,rfl,hl,k⟩;refine⟨_,rfl,_,rfl,_,rfl,rfl,_,rfl,?_⟩;have ec:cutD (ns.map PyData.int) none (some 63)=(cutD ns none (some 63)).map PyData.int:=by simp only[cutD,List.length_map,List.map_take,List.map_drop]
 have hlen:(cutD ns none (some 63)).length<=ns.length:=by simp only[cutD,List.length_take,List.length_drop];omega
 have h1000:(1000:Nat)<=sizeLine:=by rw[sizeLine_eq];decide
 dsimp only;refine acH (λ w=>match w with
  | .d (.int n)=>some (.int (if n<0 then -n else n))
  | _=>none) ?hl (λ w hw P' hp=>?_) ?_
 case hl=>rw[List.length_map,ec,List.length_map];omega
 ·rw[ec,List.map_map] at hw;obtain⟨n,_,rfl⟩:=List.mem_map.mp hw;exact⟨_,rfl,_,rfl,_,rfl,rfl,hp⟩
 ·have e2:(List.map W.d (cutD (ns.map PyData.int) none (some 63))).filterMap (λ w=>match w with
    | .d (.int n)=>some (PyData.int (if n<0 then -n else n))
    | _=>none)=((cutD ns none (some 63)).map λ n=>if n<0 then -n else n).map PyData.int:=by
   rw[ec,List.map_map,agI (W.d ∘ PyData.int) _ (λ n=>PyData.int (if n<0 then -n else n)) (λ n=>rfl),List.map_map];rfl
  rw[e2];refine⟨by simp[sizeLine_eq],λ p hp=>k p _ hp (λ q hq=>de hq) ⟨0,1234567891,0,_,aC,Int.le_refl 0,by decide,by decide,Int.le_refl 0,λ n hn=>?_⟩⟩;obtain⟨m,_,rfl⟩:=List.mem_map.mp hn
  split<;>omega
theorem wM{K:FG}{H:Hp}{a:Addr}{ns:List Int}{sp:SpD}(hl:ns.length<=63)(hO:L2.ag9 H)(hS:L2.SqL K H a (ns.map V.int))(h:∀ ns:List Int,ns.length<=63->sp [.d (.list (ns.map PyData.int))] (λ _=>none) (λ w _=>w=.d (.bool true))) :
  eQ K sp [.ref a] H (λ v _=>v=.bl true) λ _ _ _=>False:=by
 refine⟨[.d (.list (ns.map PyData.int))],λ _=>none,_,.cons ?_ .nil,λ a o z=>(nomatch z),h ns hl,λ v H' w M' kp r m q=>?_⟩
 ·simp only[aH,aB];refine⟨a,_,rfl,?_,bD.ints ns⟩;rcases hS with (h | h) | h
  ·rcases hO a with z | ⟨ob,xs,z⟩
   ·rw[h] at z;cases z
   ·rw[h] at z;cases z
  ·exact .inl h
  ·exact .inr h
 ·subst q;simp only[aH,aB] at r;exact r
def dU(z:Str):Bool:=z.cps.all (·<128)
mutual
def big:PyData->Nat
 | .none=>4
 | .bool _=>5
 | .int _=>2000
 | .str z=>10 * z.length+2
 | .list ds=>yu ds+2
 | .tuple ds=>yu ds+3
 | .dict kvs=>agH kvs+2
def yu:List PyData->Nat
 | []=>0
 | d::ds=>big d+2+yu ds
def agH:List (PyData×PyData)->Nat
 | []=>0
 | (k,d)::ds=>big k+2+big d+2+agH ds
end
mutual
def gk:PyData->Bool
 | .none=>true
 | .bool _=>true
 | .int i=>decide (i.natAbs.log2<1920)
 | .str z=>dU z
 | .list ds=>mx ds
 | .tuple ds=>mx ds
 | .dict kvs=>vM kvs
def mx:List PyData->Bool
 | []=>true
 | d::ds=>gk d&&mx ds
def vM:List (PyData×PyData)->Bool
 | []=>true
 | (k,d)::ds=>gk k&&gk d&&vM ds
end
theorem tJ:∀ ts:List Str,(listText ts).length<=piled ts+2
 | []=>by decide +kernel
 | t::r=>by
  have h:=textFrom_length_pos r 1 (("[" : Str)++(if (0:Nat) > 0 then ", " else "" : String)++t) (Nat.succ_pos 0);have e:((("[" : Str)++(if (0:Nat) > 0 then ", " else "" : String)++t)).length=1+t.length:=by rw[strLen_append,strLen_append];rfl
  have hX:(listText (t::r)).length=(textFrom 0 "[" (t::r)).length+1:=by show(textFrom 0 "[" (t::r) ++ "]").length=_;rw[strLen_append];rfl
  have h2:(textFrom 0 "[" (t::r)).length=(1+t.length)+piled r:=by rw[<- e];exact h
  have h3:piled (t::r)=t.length+2+piled r:=by simp[piled]
  omega
theorem join_le(ts:List Str):(Str.join ", " ts).length<=piled ts:=by
 cases ts with
 | nil=>decide +kernel
 | cons t r=>have:=join_length_add (t::r) (by simp);omega
theorem rB(ts:List Str):(tupleText ts).length<=piled ts+3:=by
 unfold tupleText;rw[strLen_append,strLen_append];have e1:((("(" : String):Str)).length=1:=rfl;have e3:(((if ts.length==1 then ",)" else ")" : String):Str)).length<=2:=by split<;>decide
 have:=join_le ts;omega
theorem sA(ts:List Str):(dictText ts).length<=piled ts+2:=by
 unfold dictText;rw[strLen_append,strLen_append];have e1:((("{" : String):Str)).length=1:=rfl;have e2:((("}" : String):Str)).length=1:=rfl;have:=join_le ts;omega
theorem aen{i:Int}(h:i.natAbs.log2<1920):(Str.ofString (toString i)).length<=2000:=by have e:=int_text_length_le (k:=1920) (by decide) h;rw[PySem.ofString_length];omega
theorem repr_len(h:dU z=true):(reprText z).length<=10 * z.length+2:=StrLaws.reprText_len z λ c hc=>by
 have:=Array.all_eq_true_iff_forall_mem.mp h c (by simpa using hc);have h2:c<128:=by simpa using this
 omega
mutual
theorem shown_le:∀ d:PyData,gk d=true->d.shown.length<=big d
 | .none,_=>by rw[PyData.shown];decide +kernel
 | .bool b,_=>by rw[PyData.shown];cases b<;>decide +kernel
 | .int i,h=>by rw[PyData.shown];exact aen (by simpa [gk] using h)
 | .str z,h=>by rw[PyData.shown,big];exact repr_len (by simpa [gk] using h)
 | .list ds,h=>by have h1:=lP ds (by simpa [gk] using h);have h2:=tJ (PyData.shownAll ds);rw[PyData.shown,big];omega
 | .tuple ds,h=>by have h1:=lP ds (by simpa [gk] using h);have h2:=rB (PyData.shownAll ds);rw[PyData.shown,big];omega
 | .dict ds,h=>by have h1:=qW ds (by simpa [gk] using h);have h2:=sA (PyData.shownKv ds);rw[PyData.shown,big];omega
theorem lP:∀ ds:List PyData,mx ds=true->piled (PyData.shownAll ds)<=yu ds
 | [],_=>by simp[PyData.shownAll,piled,yu]
 | d::ds,h=>by simp only[mx,Bool.and_eq_true] at h;have h1:=shown_le d h.1;have h2:=lP ds h.2;simp only[PyData.shownAll,piled_cons,yu];omega
theorem qW:∀ ds:List (PyData×PyData),vM ds=true->piled (PyData.shownKv ds)<=agH ds
 | [],_=>by simp[PyData.shownKv,piled,agH]
 | (k,d)::ds,h=>by simp only[vM,Bool.and_eq_true] at h;have h1:=shown_le k h.1.1;have h3:=shown_le d h.1.2;have h2:=qW ds h.2;have e:((((": " : String):Str))).length=2:=rfl;simp only[PyData.shownKv,piled_cons,agH,strLen_append,e];omega
end
mutual
theorem iN:∀ d:PyData,gk d=true->d.showable=true
 | .none,_=>by simp[PyData.showable]
 | .bool b,_=>by simp[PyData.showable]
 | .int i,h=>by simpa [PyData.showable,gk] using h
 | .str z,h=>by simp[PyData.showable]
 | .list ds,h=>by simpa [PyData.showable] using jo ds (by simpa [gk] using h)
 | .tuple ds,h=>by simpa [PyData.showable] using jo ds (by simpa [gk] using h)
 | .dict ds,h=>by simpa [PyData.showable] using nc ds (by simpa [gk] using h)
theorem jo:∀ ds:List PyData,mx ds=true->PyData.showableAll ds=true
 | [],_=>by simp[PyData.showableAll]
 | d::ds,h=>by simp only[mx,Bool.and_eq_true] at h;simp[PyData.showableAll,iN d h.1,jo ds h.2]
theorem nc:∀ ds:List (PyData×PyData),vM ds=true->PyData.showableKv ds=true
 | [],_=>by simp[PyData.showableKv]
 | (k,d)::ds,h=>by simp only[vM,Bool.and_eq_true] at h;simp[PyData.showableKv,iN k h.1.1,iN d h.1.2,nc ds h.2]
end
theorem s16:(1000000:Nat)<=sizeLine:=by rw[sizeLine_eq];decide
theorem ac9(h:gk d=true)(hb:big d<=1000000)(hd:d.depth<=60)(hk:d.hasDict=false):gC d=true:=by have h1:=iN d h;have h2:=shown_le d h;have h3:=s16;simp only[gC,h1,Bool.true_and,Bool.and_eq_true,decide_eq_true_eq,Bool.or_eq_true,Bool.not_eq_true'];exact⟨⟨by omega,hd⟩,.inl hk⟩
end D
namespace D
open L2
def Asc(z:Str):Prop:=∀ c∈z.cps.toList,c<128
theorem str_len(z:Str):z.cps.toList.length=z.length:=by simp[Str.length]
theorem oD(hx:Asc x)(hy:Asc y):Asc (x++y):=by
 intro c hc;have e:(x++y).cps.toList=x.cps.toList++y.cps.toList:=by show(x.cps++y.cps).toList=_;simp
 rw[e] at hc;rcases List.mem_append.mp hc with h | h
 ·exact hx c h
 ·exact hy c h
theorem zi(h:Asc z)(lo hi:Option Int):Asc (Txt.slice z lo hi):=by
 unfold Txt.slice
 split
 ·exact h
 ·intro c hc;have hc':c∈(Builtin.Str.strSliceIndices lo hi 1 z.length).filterMap (z.cps[·]?):=by simpa using hc
  obtain⟨i,_,e⟩:=List.mem_filterMap.mp hc';exact h c (by simpa using Array.mem_of_getElem? e)
theorem qt(g:Array Nat)(hg:∀ c∈g.toList,c<128):∀ (l:List Str) (acc:Array Nat),(∀ c∈acc.toList,c<128)->(∀ p∈l,Asc p) ->
  (∀ c∈(l.foldl (λ acc p=>acc++g++p.cps) acc).toList,c<128)/\(l.foldl (λ acc p=>acc++g++p.cps) acc).size=acc.size+(l.map λ p=>g.size+p.length).sum
 | [],acc,ha,_=>⟨ha,by simp⟩
 | p::l,acc,ha,hl=>by
  have h:=qt g hg l (acc++g++p.cps) (λ c hc=>by
   simp only[Array.toList_append,List.mem_append] at hc;rcases hc with (h | h) | h
   ·exact ha c h
   ·exact hg c h
   ·exact hl p List.mem_cons_self c h) λ q hq=>hl q (List.mem_cons_of_mem _ hq)
  refine⟨h.1,?_⟩;rw[List.foldl_cons,h.2];simp only[Array.size_append,List.map_cons,List.sum_cons,Str.length];omega
theorem oQ(hs:Asc sep)(hy:∀ y∈ys,Asc y):Asc (Txt.join sep ys)/\(Txt.join sep ys).length<=(ys.map λ p=>sep.length+p.length).sum:=by
 cases ys with
 | nil=>exact⟨λ c hc=>by simp[Txt.join,Builtin.Str.glued,Str.empty] at hc,by simp[Txt.join,Builtin.Str.glued,Str.empty,Str.length]⟩
 | cons y ys =>
  have h:=qt sep.cps hs ys y.cps (hy y List.mem_cons_self) λ p hp=>hy p (List.mem_cons_of_mem _ hp);refine⟨h.1,?_⟩;show(ys.foldl (λ acc p=>acc++sep.cps++p.cps) y.cps).size<=_;rw[h.2];simp only[List.map_cons,List.sum_cons,Str.length];omega
theorem aiN{l:List Str}{n:Nat}(h:∀ y∈l,y.length<=n)(k:Nat):(l.map λ p=>k+p.length).sum<=l.length * (k+n):=by
 induction l with
 | nil=>simp
 | cons y l ih =>
  have h1:=h y List.mem_cons_self;have h2:=ih λ z hz=>h z (List.mem_cons_of_mem _ hz);simp only[List.map_cons,List.sum_cons,List.length_cons,Nat.add_mul,Nat.one_mul];omega
theorem kE(h:z.cps.all (·<128)=true):Asc z:=by
 intro c hc;have:=Array.all_eq_true_iff_forall_mem.mp h c (by simpa using hc)
 simpa using this
theorem rq(h0:0<=r)(h1:r<z.length):∃ c,ixW M (.d (.str z)) r=some (.d (.str ⟨#[c]⟩))/\c∈z.cps.toList:=by
 have hl:r<(z.cps.toList.length:Nat):=by rw[str_len];exact h1
 refine⟨z.cps.toList[r.toNat]'(by omega),?_,List.getElem_mem _⟩;simp only[ixW];rw[abm h0 hl];rfl
abbrev uF:Str:= "abcdefghijklmnopqrstuvwxyz"
theorem afC:uF.length=26:=by decide +kernel
theorem lC(h:Asc z):dU z=true:=by
 unfold dU;rw[Array.all_eq_true_iff_forall_mem];intro c hc;exact decide_eq_true (h c (by simpa using hc))
theorem log2_small(h:n<2 ^ 100):n.log2<1920:=by
 by_cases h0:n=0
 ·subst h0;decide
 ·exact Nat.lt_of_lt_of_le ((Nat.log2_lt h0).mpr h) (by decide)
theorem few(h:n<=1000):n<=sizeLine:=by have:=s16;omega
section
variable {K:FG}{H:Hp}{a:Addr}{o:Obj}{l:List (Key×V)}
end
theorem Inv.aby{D:Addr}{ys:List V}{us:List Value}{n:Nat}(I:Inv X pins σ H s)(e:s.heap.get? D=some {cls:=.type "tuple",data:=.seq us.toArray n})(hn:H D=none)(hv:Vals ys us)(hz:ys.length<=sizeLine)
  (h0:D∈X.ex\/X.s₀.heap.objs.size<=D)(hL:D≠X.env.locals)(hc:∀ x c,X.env.cells.lookup x=some c->c≠D)(hp:∀ p∈X.pn++pins,p.1≠D):Inv X pins σ (upd H D (.tup ys)) s:=by
 have ne:∀ b u,H b=some u->b≠D:=λ b u q=>bo q hn;refine I.step (h':=s.heap) (g':=s.gens) (d':=s.drawn) (t':=s.toks) (ch:=[D]) (λ b hb=>?_) (λ b o _ _ _ q _=>q) (λ b o _ _ _ q _=>⟨o.slots,q⟩) (λ b o hb q n=>?_) (λ b o _ q=>⟨o,q⟩)
  (λ b xs q=>by rw[aO (ne b _ q)];exact q) (λ b o u q=>by rw[aO (ne b _ q)];exact q) (λ b ps q=>⟨#[],by rw[aO (ne b _ q),q];simp⟩) (λ m hm=>hm) (λ b u q=>?_) I.bare
 ·have e:b=D:=by simpa using hb
  subst e;exact⟨h0,hL,hc,hp⟩
 ·rw[aO (λ z=>hb (by simp[z]))];exact n
 ·by_cases hb:b=D
  ·subst hb;rw[aP] at q;cases q;exact⟨hz,us,hv,⟨_,e,rfl,rfl,n,rfl⟩⟩
  ·rw[aO hb] at q;exact(I.hok b u q).vA (λ _ _ _ q=>q) (λ c r=>by rw[aO (ne c _ r)];exact r) λ c xs r=>by rw[aO (ne c _ r)];exact r
section
variable {X:Cx}{K:FG}{tg o:Expr}{apos cpos:Pos}{td:TD}
def cD(kds:List (Key×PyData)):List (Key×W):=kds.map λ p=>(p.1,.d p.2)
end
theorem qe:∀ {zs:List Str} {its:List Value},StrsAre its zs->Vals (zs.map V.str) its
 | _,_,.nil=>.nil
 | _,_,.cons y t h=>.cons ⟨t,rfl⟩ (qe h)
theorem x9:bootBuiltins "sorted" = some (.builtin "sorted"):=by decide +kernel
section
variable {X:Cx}{K:FG}
theorem qD{H:Hp}:∀ (zs:List Str),bQ K H (qJ zs) (zs.map V.str)
 | []=>.nil
 | z::zs=>.cons (by simp[aH,aB]) (qD zs)
end
section
variable {X:Cx}{K:FG}
theorem bX:eL X (.builtin "isinstance") (λ xs H Q=>∃ x d T,xs=[x,.ty T]/\j7 X.K H d x/\Ty6 T/\Q (.bl (jR d T)) H):=by
 intro pins s σ H xs us Q I r h;obtain⟨x,d,T,rfl,rd,h6,q⟩:=h;rcases rd with rd | ⟨a,vs,ds,rfl,rfl,ha,ra⟩
 ·exact wW pins s σ H _ us Q I r ⟨x,d,T,rfl,rd,h6,q⟩
 obtain⟨u,w',rfl,rx,ry⟩:=vals2 r;cases (show w'=Value.type T from ry);have e:=xE (K:=X.K) (.list ds) h6;have fin:∀ tk,EP X pins σ Q (.bool (jR (.list ds) T)) {s with toks:=tk}:=λ tk=>⟨.bl _,H,I.tok _,rfl,q⟩;generalize jR (.list ds) T=b at e fin;cases (show u=Value.ref a from rx);obtain⟨its,rv,⟨o,n,e1,e2,e3,e4⟩,hz⟩:=I.list (.inl (.inl ha));exact W.kia_one W.kitx_list I.kIn ⟨_,e1,e2⟩ e (λ z=>nomatch z) fin
def fh(ws:List W)(M:MH)(Q:QD):Prop:=∃ w d T,ws=[w,.t T]/\wa M w d/\Ty6 T/\Q (.d (.bool (jR d T))) M
theorem dE:fz K (λ xs H Q=>∃ x d T,xs=[x,.ty T]/\j7 K H d x/\Ty6 T/\Q (.bl (jR d T)) H) fh:=by intro vs H ws M Qd Q r m ⟨w,d,T,e,g,h6,q⟩ k;subst e;obtain⟨v,v',e1,r1,r2⟩:=l3 r;simp only[aH] at r2;subst r2;exact⟨v,d,T,e1,g.sound r1 m,h6,k _ H (.d (.bool _)) M (Kp.refl H) (by simp[aH,aB]) m q⟩
end
end D
namespace S
open PySem PySem.W PyProof.Rows
end S
namespace D
open L2 S
section
variable {K:FG}
end
section
variable {X:Cx}{K:FG}
end
theorem aeO(x:cR P w H h a o):∃ ob,h.get? a=some ob:=by
 induction o with
 | lst xs=>obtain⟨_,_,_,_,e⟩:=x;exact⟨_,e⟩
 | tup xs=>obtain⟨_,_,_,ob,e,_⟩:=x;exact⟨_,e⟩
 | dK kvs=>obtain⟨_,_,_,_,o,_,_,e,_⟩:=x;exact⟨_,e⟩
 | dT kvs=>obtain⟨_,_,_,_,o,_,_,e,_⟩:=x;exact⟨_,e⟩
 | set S n=>obtain⟨o,_,_,_,e,_⟩:=x;exact⟨_,e⟩
 | ins C dx fs=>obtain⟨_,_,_,e,_⟩:=x;exact⟨_,e⟩
 | own y=>obtain⟨_,e⟩:=x;exact⟨_,e⟩
 | xd fs=>obtain⟨_,⟨_,_,_,e,_⟩,_⟩:=x;exact⟨_,e⟩
 | rng lo hi=>obtain⟨_,_,_,e⟩:=x;exact⟨_,e⟩
 | frz ob u ih=>obtain⟨e,_⟩:=x;exact⟨_,e⟩
 | tbl ps=>exact⟨_,show h.get? a=some _ from x⟩
 | met f y=>exact⟨_,show h.get? a=some _ from x⟩
 | ext φ=>obtain⟨_,⟨_,e⟩,_⟩:=x;exact⟨_,e⟩
theorem sH(x:HOk P w H h)(e:h.get? a=none):H a=none:=by
 cases q:H a with
 | none=>rfl
 | some u =>
  obtain⟨ob,z⟩:=aeO (x a u q);rw[e] at z;cases z
theorem Inv.agf(I:Inv X pins σ H s)(k:∀ b u,s.heap.get? b=some u->h'.get? b=some u)(hp:s.heap.get? a=none)(new:cR X.prog X.w (upd H a o) h' a o) :
  Inv X pins σ (upd H a o) {s with heap:=h',toks:=t'}:=by
 have hn:=sH I.hok hp;have ne:∀ b u,s.heap.get? b=some u->b≠a:=λ b u e z=>by rw[z,hp] at e;cases e
 refine I.un ⟨λ b ob e _ _ _=>k b ob e,λ b ob e _ _ _=>⟨ob.slots,k b ob e⟩,λ b ob e n _=>by rw[aO (ne b ob e)];exact n,λ b ob e _=>⟨ob,k b ob e⟩,λ b xs e=>by rw[aO (bo e hn)];exact e,λ b ob u e=>by rw[aO (bo e hn)];exact e,λ b ps e=>⟨#[],by rw[aO (bo e hn),e];simp⟩⟩ λ b u e=>?_
 by_cases hb:b=a
 ·subst hb;rw[aP] at e;cases e;exact new
 ·rw[aO hb] at e;exact(I.hok b u e).vA (λ c v _ q=>k c v q) (λ c q=>by rw[aO (bo q hn)];exact q) λ c xs q=>by rw[aO (bo q hn)];exact q
section
variable {X:Cx}{K:FG}
theorem pB:∀ {zs:List Str} {vs:List (Key×Value)} {us:List Value},vs.map (·.1)=zs.map Sum.inr->us.length=vs.length->(∀ (j:Nat) v,us[j]? =some v->∃ k x,vs[j]? =some (k,x)/\(a9 P w).is k v=true)->StrsAre us zs
 | [],vs,us,h,hl,hp=>by
  have e:vs=[]:=by simpa using h
  subst e;have e:us=[]:=by simpa using hl
  subst e;exact .nil
 | z::zs,vs,us,h,hl,hp=>by
  match vs,us,h,hl,hp with
  | (k,x)::vs,u::us,h,hl,hp =>
   simp only[List.map_cons,List.cons.injEq] at h;obtain⟨k',x',e,hk⟩:=hp 0 u rfl;simp at e;obtain⟨e1,e2⟩:=e;subst e1 e2;rw[h.1,vN] at hk;obtain⟨t,e⟩:∃ t,u=.str z t:=by
    rcases bI hk with ⟨i,t,e,_⟩ | ⟨y,t,e,e'⟩
    ·cases e
    ·cases e;exact⟨t,e'⟩
   subst e;exact .cons z t (pB h.2 (by simpa using hl) λ j v hj=>by simpa using hp (j+1) v (by simpa using hj))
  | [],_,h,_,_=>simp at h
  | _::_,[],_,hl,_=>simp at hl
theorem qN(hc:X.calm=true):eL X (.builtin "sorted") (λ xs H Q=>∃ a kvs zs,xs=[.ref a]/\Rd H a (.dK kvs)/\kvs.map (·.1)=zs.map Sum.inr/\zs.length<64/\∀ zs',zs'.Perm zs->sortedS zs'=true->∀ l,H l=none->Q (.ref l) (upd H l (.lst (zs'.map V.str)))):=by
 intro pins s σ H xs us Q I r h;obtain⟨a,kvs,zs,rfl,hq,hk,hz,q⟩:=h;obtain⟨u,rfl,rx⟩:=vals1 r;cases rx;obtain⟨hsz,hsys,vs,rel,o,es,ep,hd⟩:=hq.ok I.hok;have hvs:vs.map (·.1)=zs.map Sum.inr:=by
  rw[<- hk];clear hk hd hq hsz
  induction rel with
  | nil=>rfl
  | cons r t ih=>simp only[List.map_cons,ih,r.1]
 have hln:vs.length=zs.length:=by simpa using congrArg List.length hvs
 refine Calls.call_function_entry kind_sorted plain_sorted entry_sorted (args_sorted1 _) ?_;unfold Builtin.«sorted»;have at1:∀ (h':Heap) (l:List Value),(h'.push (seqObj "list" l.toArray 0)).get? h'.objs.size=some (seqObj "list" l.toArray 0):=λ h' l=>Heap.get?_push_size _ rfl;refine wpAny_bind (m:=checkCount "sorted" 1 1 _) (wpAny_pure (wpAny_bind (W.kdu_collect (A:=X.A.in1) (W.kdl_dict (knd:=a9 X.prog X.w) (kvs:=vs) (ep:=ep) hsys) (I.ok.hd hc) ⟨o,es,hd⟩ (by rw[sizeLine_eq];omega) λ h' tk acc old hacc=>?_)));have hla:acc.toList.length=vs.length:=by rw[Array.length_toList];exact hacc.1
 have hS:StrsAre acc.toList zs:=pB hvs hla λ j v hj=>hacc.2 j v (by rw[<- Array.getElem?_toList];exact hj);refine wpAny_bind (wpAny_newList ?_ (by rw[hla,sizeLine_eq];omega));refine wpAny_bind (wpAny_holding (wpAny_call_entry slot_list_sort ⟨_,at1 h' acc.toList,rfl⟩ entry_list_sort (list_sort_treeK strKind_oneLt (s:={s with heap:=h'.push (seqObj "list" acc.toList.toArray 0),toks:=tk}) (at1 h' acc.toList) hS.keysOf (λ v₁ v₂ rest e=>keyKind_strs (by rw[<- e];exact hS)) (by omega) λ st' hp hs=>⟨_,rfl,wpAny_pure ⟨_,rfl,?_⟩⟩) (args_list_sort _)));obtain⟨zs',h1,h2,h3⟩:=sorted_out_str hS hp hs;obtain⟨n,e⟩:=sortedHeap_at (h:=h'.push (seqObj "list" acc.toList.toArray 0)) (vs:=acc.toList) (out:=(arrOf st').map (·.2)) (at1 h' acc.toList);have hge:s.heap.get? h'.objs.size=none:=by
  cases q1:s.heap.get? h'.objs.size with
  | none=>rfl
  | some ob =>
   have:=Heap.lt_size (old _ _ q1);exact absurd this (Nat.lt_irrefl _)
 have keep:∀ b ob,s.heap.get? b=some ob->(sortedHeap (h'.push (seqObj "list" acc.toList.toArray 0)) h'.objs.size acc.toList ((arrOf st').map (·.2))).get? b=some ob:=λ b ob eb=>by have l1:b<h'.objs.size:=Heap.lt_size (old b ob eb);rw[sortedHeap_old (Nat.ne_of_lt l1) (by rw[size_push'];exact Nat.lt_succ_of_lt l1),Heap.get?_push_of_some _ (old b ob eb)]
 have I':Inv X pins σ (upd H h'.objs.size (.lst (zs'.map V.str))) {s with heap:=sortedHeap (h'.push (seqObj "list" acc.toList.toArray 0)) h'.objs.size acc.toList ((arrOf st').map (·.2)),toks:=tk}:=by refine Inv.agf I keep hge ⟨?_,((arrOf st').map (·.2)).toList,n,qe h1,by rw[Array.toArray_toList];exact e⟩;rw[List.length_map,h2.length_eq];have:=s16;omega
 exact⟨.ref _,_,I',rfl,q zs' h2 h3 _ (sH I.hok hge)⟩
def wG(ws:List W)(M:MH)(Q:QD):Prop:=∃ a kvs,∃ zs:List Str,ws=[.m a]/\M a=some (.dic kvs)/\kvs.map (·.1)=zs.map Sum.inr/\zs.length<64/\∀ zs',zs'.Perm zs->sortedS zs'=true->∀ p,M p=none->Q (.m p) (dR M p (.lst (qJ zs')))
theorem aay:fz K (λ xs H Q=>∃ a kvs zs,xs=[.ref a]/\Rd H a (.dK kvs)/\kvs.map (·.1)=zs.map Sum.inr/\zs.length<64/\∀ zs',zs'.Perm zs->sortedS zs'=true->∀ l,H l=none->Q (.ref l) (upd H l (.lst (zs'.map V.str)))) wG:=by
 intro vs H ws M Qd Q r m ⟨a,kvs,zs,e,g,hk,hz,q⟩ k;subst e;obtain⟨v,e1,r1⟩:=da r;have ev:v=.ref a:=r1;subst ev;have go:∀ l:List (Key×V),Rd H a (.dK l)->Paired (λ(p:Key×W) (q:Key×V)=>p.1=q.1/\aH K H p.2 q.2) kvs l->∃ a' kvs' zs',[V.ref a]=[.ref a']/\Rd H a' (.dK kvs')/\kvs'.map (·.1)=zs'.map Sum.inr/\zs'.length<64/\∀ zs'',zs''.Perm zs'->sortedS zs''=true->∀ l,H l=none->Q (.ref l) (upd H l (.lst (zs''.map V.str))):=by
  intro l hr pr;refine⟨a,l,zs,rfl,hr,?_,hz,λ zs' h1 h2 p hp=>?_⟩
  ·rw[<- hk];clear hk hr g q
   induction pr with
   | nil=>rfl
   | cons r t ih=>simp only[List.map_cons,ih,r.1]
  ·have kp:Kp H (upd H p (.lst (zs'.map V.str))):=Kp.new hp;exact k _ _ (.m p) _ kp rfl (m.put (mo:=.lst (qJ zs')) kp ⟨_,aP,qD zs'⟩) (q zs' h1 h2 p (m.free hp))
 subst e1;obtain⟨l,hl,pr⟩:=m _ _ g;exact go l (.inl hl) pr
def qX(w:W)(w':W)(M:MH)(Q:QD):Prop:=∃ xs ys,w=.d (.tuple xs)/\w'=.d (.tuple ys)/\xs≠[]/\xs.length+ys.length<=sizeLine/\Q (.d (.tuple (xs++ys))) M
theorem kj:OpD K (afP K) qX:=by
 intro x y H w w' M Qd Q r1 r2 m ⟨xs,ys,e1,e2,hne,hz,q⟩ k;subst e1 e2;simp only[aH,aB] at r1 r2;obtain⟨a,vs,ea,ha,ra⟩:=r1;obtain⟨b,us,eb,hb,rb⟩:=r2;have l1:=ra.length;have l2:=rb.length;refine⟨a,b,vs,us,ea,eb,ha,hb,λ z=>hne (by rw[z] at l1;simpa using l1.symm),by omega,λ z=>?_,λ z p hp=>?_⟩
 ·have e:ys=[]:=by rw[z] at l2;simpa using l2.symm
  subst e;rw[List.append_nil] at q;refine k _ _ (.d (.tuple xs)) M (Kp.refl _) ?_ m q;simp only[aH,aB];exact⟨a,vs,rfl,ha,ra⟩
 ·refine k _ _ (.d (.tuple (xs++ys))) M (Kp.new hp) ?_ (m.new hp) q;simp only[aH,aB];exact⟨p,_,rfl,.inl (.inl aP),(ra.append rb).keep (Kp.new hp)⟩
def isNone:W->Bool
 | .d .none=>true
 | _=>false
theorem nJ(r:aH K H w v):decide (v=.non)=isNone w:=by
 cases w with
 | m a=>cases (show v=.ref a from r);rfl
 | t n=>cases (show v=.ty n from r);rfl
 | d x =>
  cases x<;>simp only[aH,aB] at r
  ·subst r;rfl
  ·subst r;rfl
  ·subst r;rfl
  ·subst r;rfl
  all_goals first
   | (obtain⟨a,vs,e,_⟩:=r;subst e;rfl)
   | (obtain⟨a,o,l,e,_⟩:=r;subst e;rfl)
def mn(neg:Bool)(w:W)(w':W)(M:MH)(Q:QD):Prop:=w'=.d .none/\Q (.d (.bool (xor neg (isNone w)))) M
theorem jv:OpD K (λ x y H Q=>y=.non/\Q (.bl (decide (x=.non))) H) (mn false):=by intro x y H w w' M Qd Q r1 r2 m ⟨e,q⟩ k;subst e;simp only[aH,aB] at r2;refine⟨r2,k _ _ (.d (.bool (isNone w))) M (Kp.refl _) ?_ m (by simpa using q)⟩;rw[nJ r1];simp[aH,aB]
theorem aaY:OpD K (λ x y H Q=>y=.non/\Q (.bl (!decide (x=.non))) H) (mn true):=by intro x y H w w' M Qd Q r1 r2 m ⟨e,q⟩ k;subst e;simp only[aH,aB] at r2;refine⟨r2,k _ _ (.d (.bool (!isNone w))) M (Kp.refl _) ?_ m (by simpa using q)⟩;rw[nJ r1];simp[aH,aB]
end
theorem ae4:bootBuiltins "min" = some (.builtin "min"):=by decide +kernel
section
variable {X:Cx}{K:FG}
def abA(ws:List W)(M:MH)(Q:QD):Prop:=∃ i j,ws=[.d (.int i),.d (.int j)]/\Q (.d (.int (if j<i then j else i))) M
theorem ab9:fz K (λ xs H Q=>∃ i j,xs=[V.int i,V.int j]/\Q (V.int (if j<i then j else i)) H) abA:=by intro vs H ws M Qd Q r m ⟨i,j,e,q⟩ k;subst e;obtain⟨v,v',e1,r1,r2⟩:=l3 r;simp only[aH,aB] at r1 r2;subst r1 r2;exact⟨i,j,e1,k _ H (.d (.int _)) M (Kp.refl H) (by simp[aH,aB]) m q⟩
end
end D
namespace Rc
open L2 D
section
variable {α:Type}(nm:α->Str)
variable {nm}
end
mutual
def okD:Nat->PyData->Bool
 | _,.none=>true
 | _,.bool _=>true
 | _,.int i=>decide (i.natAbs<2 ^ 100)
 | _,.str z=>dU z
 | k+1,.list ds=>okA k ds
 | k+1,.tuple ds=>okA k ds
 | _,_=>false
def okA:Nat->List PyData->Bool
 | _,[]=>true
 | k,d::ds=>okD k d&&okA k ds
end
theorem ue:∀ {ds:List PyData},(∀ d∈ds,okD k d=true)->okA k ds=true
 | [],_=>by simp[okA]
 | d::ds,h=>by simp only[okA,Bool.and_eq_true];exact⟨h d (by simp),ue λ x hx=>h x (by simp[hx])⟩
theorem cn(h:dU z=true):Asc z:=kE h
theorem wY(h:Asc z):PyData.strOk z=true:=by
 unfold PyData.strOk;rw[Array.all_eq_true_iff_forall_mem];intro c hc;exact decide_eq_true (by have:=h c (by simpa using hc);omega)
theorem adF(h:dU z=true):PyData.strOk z=true:=wY (cn h)
mutual
theorem yW:∀ (k:Nat) (d:PyData),okD k d=true->gk d=true
 | _,.none,_=>rfl
 | _,.bool _,_=>rfl
 | _,.int i,h=>by
  cases ‹Nat› <;> simp only[okD,decide_eq_true_eq] at h<;>exact decide_eq_true (log2_small h)
 | _,.str z,h=>by
  cases ‹Nat› <;> simp only[okD] at h<;>exact h
 | k+1,.list ds,h=>by simp only[okD] at h;simp only[gk];exact nK k ds h
 | k+1,.tuple ds,h=>by simp only[okD] at h;simp only[gk];exact nK k ds h
 | 0,.list ds,h=>by simp[okD] at h
 | 0,.tuple ds,h=>by simp[okD] at h
 | k,.dict kvs,h=>by cases k<;>simp[okD] at h
theorem nK:∀ (k:Nat) (ds:List PyData),okA k ds=true->mx ds=true
 | _,[],_=>by simp[mx]
 | k,d::ds,h=>by simp only[okA,Bool.and_eq_true] at h;simp only[mx,yW k d h.1,nK k ds h.2,Bool.and_self]
end
mutual
theorem xf:∀ (k:Nat) (d:PyData),okD k d=true->PyData.canLay0 d=true
 | _,.none,_=>by simp[PyData.canLay0]
 | _,.bool _,_=>by simp[PyData.canLay0]
 | _,.int i,h=>by simp[PyData.canLay0]
 | _,.str z,h=>by
  cases ‹Nat› <;> simp only[okD] at h<;>simp[PyData.canLay0,adF h]
 | k+1,.list ds,h=>by simp only[okD] at h;simp only[PyData.canLay0];exact tw k ds h
 | k+1,.tuple ds,h=>by simp only[okD] at h;simp only[PyData.canLay0];exact tw k ds h
 | 0,.list ds,h=>by simp[okD] at h
 | 0,.tuple ds,h=>by simp[okD] at h
 | k,.dict kvs,h=>by cases k<;>simp[okD] at h
theorem tw:∀ (k:Nat) (ds:List PyData),okA k ds=true->PyData.canLayAll0 ds=true
 | _,[],_=>by simp[PyData.canLayAll0]
 | k,d::ds,h=>by simp only[okA,Bool.and_eq_true] at h;simp only[PyData.canLayAll0,xf k d h.1,tw k ds h.2,Bool.and_self]
end
mutual
theorem oK:∀ (k:Nat) (d:PyData),okD k d=true->PyData.depth d<=k+1
 | _,.none,_=>by simp[PyData.depth]
 | _,.bool _,_=>by simp[PyData.depth]
 | _,.int i,h=>by simp[PyData.depth]
 | _,.str z,h=>by simp[PyData.depth]
 | k+1,.list ds,h=>by simp only[okD] at h;have:=lX k ds h;simp only[PyData.depth];omega
 | k+1,.tuple ds,h=>by simp only[okD] at h;have:=lX k ds h;simp only[PyData.depth];omega
 | 0,.list ds,h=>by simp[okD] at h
 | 0,.tuple ds,h=>by simp[okD] at h
 | k,.dict kvs,h=>by cases k<;>simp[okD] at h
theorem lX:∀ (k:Nat) (ds:List PyData),okA k ds=true->PyData.depthAll ds<=k+1
 | _,[],_=>by simp[PyData.depthAll]
 | k,d::ds,h=>by simp only[okA,Bool.and_eq_true] at h;have h1:=oK k d h.1;have h2:=lX k ds h.2;simp only[PyData.depthAll];omega
end
mutual
theorem wB:∀ (k:Nat) (d:PyData),okD k d=true->PyData.hasDict d=false
 | _,.none,_=>by simp[PyData.hasDict]
 | _,.bool _,_=>by simp[PyData.hasDict]
 | _,.int i,h=>by simp[PyData.hasDict]
 | _,.str z,h=>by simp[PyData.hasDict]
 | k+1,.list ds,h=>by simp only[okD] at h;simp only[PyData.hasDict];exact sV k ds h
 | k+1,.tuple ds,h=>by simp only[okD] at h;simp only[PyData.hasDict];exact sV k ds h
 | 0,.list ds,h=>by simp[okD] at h
 | 0,.tuple ds,h=>by simp[okD] at h
 | k,.dict kvs,h=>by cases k<;>simp[okD] at h
theorem sV:∀ (k:Nat) (ds:List PyData),okA k ds=true->PyData.hasDictAll ds=false
 | _,[],_=>by simp[PyData.hasDictAll]
 | k,d::ds,h=>by simp only[okA,Bool.and_eq_true] at h;simp only[PyData.hasDictAll,wB k d h.1,sV k ds h.2,Bool.or_self]
end
theorem nO(hk:k<=50)(h:okD k d=true):sh d=true:=by have h1:=xf k d h;have h2:=oK k d h;have h3:=wB k d h;simp only[sh,SeqAt.shaped,h1,h3,Bool.true_and,Bool.not_false,Bool.and_true];exact decide_eq_true (by omega)
theorem ug(hk:k<=50)(h:okD k d=true)(h':okD k d'=true):eR d d'=true:=by have h1:=nO hk h;have h2:=nO hk h';cases d<;>cases d'<;>simp[eR,h1,h2]
theorem acT(h:okD k d=true):PyData.eqv d d=true:=SeqAt.eqv_refl _ (xf k d h)
theorem pO(hk:k<=50)(h:okD k d=true)(hb:big d<=1000000):gC d=true:=
 ac9 (yW k d h) hb (by have:=oK k d h;omega) (wB k d h)
theorem su:∀ {ds:List PyData},(∀ d∈ds,big d<=c)->yu ds<=ds.length * (c+2)
 | [],_=>by simp[yu]
 | d::ds,h=>by have h1:=h d (by simp);have h2:=su (ds:=ds) λ x hx=>h x (by simp[hx]);simp only[yu,List.length_cons];rw[Nat.add_mul];omega
theorem aR(x y:Str):PyData.eqv (.str x) (.str y)=decide (x=y):=by
 rw[<- tH]
 by_cases e:x=y
 ·subst e;simp
 ·simp[e]
theorem fV(x y:Int):PyData.eqv (.int x) (.int y)=decide (x=y):=by
 rw[PyData.eqv]
 by_cases e:x=y
 ·subst e;simp
 ·simp[e]
theorem pT{M:MH}{a b:Addr}{o:MO}(ha:M a=some o)(hb:M b=none):a≠b:=λ e=>by rw[e,hb] at ha;cases ha
theorem yt{M:MH}{a b:Addr}{o u:MO}(h:M a=some o)(hb:M b=none):dR M b u a=some o:=by rw[de (pT h hb)];exact h
end Rc
namespace Stc
open L2 D Rc
theorem acp(h0:0<=r)(h1:r<ds.length):∃ d,ixW M (.d (.list ds)) r=some (.d d)/\d∈ds:=by
 have hn:r.toNat<ds.length:=by omega
 refine⟨ds[r.toNat],?_,List.getElem_mem hn⟩;simp only[ixW,atI,wZ h0 h1,Option.bind_some,List.getElem?_eq_getElem hn,Option.map_some]
theorem gB{zs:List Str}{r:Int}(h0:0<=r)(h1:r<zs.length):∃ z,ixW M (.d (.list (zs.map PyData.str))) r=some (.d (.str z))/\z∈zs:=by obtain⟨d,e,hd⟩:=acp (M:=M) (ds:=zs.map PyData.str) h0 (by simpa using h1);obtain⟨i,hi,rfl⟩:=List.mem_map.mp hd;exact⟨i,e,hi⟩
theorem abS(h:Bag M p):∃ o,M p=some o:=by obtain⟨a,b,c,ns,e,_⟩:=h;exact⟨_,e⟩
theorem uZ(h:Bag M p)(e:M' p=M p):Bag M' p:=by obtain⟨a,b,c,ns,h1,h2⟩:=h;exact⟨a,b,c,ns,e.trans h1,h2⟩
end Stc
namespace D
open L2
section
variable {K:FG}
variable {X:Cx}{sc:Scope}{own:List Str}{fr:List Nat}{di:TId}{g:TGd}{tt:TTd}{te:TD}{tg iter elt:Expr}{ifs:List Expr}{pos:Pos}
end
section
variable {X:Cx}{K:FG}
end
section
variable {P:Program}{w:World}{K:FG}{mg:Str->Option Value}{base h:Heap}
end
theorem Inv.nX{t':Nat}{ch:List Addr}(I:Inv X pins σ H s)(k:∀ b o,b ∉ ch->s.heap.get? b=some o->h'.get? b=some o)(f:∀ b∈ch,sy X pins H b):Inv X pins σ H {s with heap:=h',toks:=t'}:=by
 have nin:∀ b u,H b=some u->b ∉ ch:=λ b u q z=>by rw[(f b z).1] at q;cases q
 refine I.step (g':=s.gens) (d':=s.drawn) (ch:=ch) (λ b hb=>?_) (λ b o _ _ hc q _=>k b o hc q) (λ b o _ _ hc q _=>⟨o.slots,k b o hc q⟩) (λ _ _ _ _ n=>n)
  (λ b o hc q=>⟨o,k b o hc q⟩) (λ _ _ q=>q) (λ _ _ _ q=>q) (λ b ps q=>⟨#[],by rw[q];simp⟩) (λ m hm=>?_) (λ b u q=>?_) I.bare
 ·obtain⟨f0,f1,f2,f3,f4,f5⟩:=f b hb;exact⟨f3,f1,f4,f5⟩
 ·obtain⟨o,es,ep,ho,r⟩:=hm;exact⟨o,es,ep,k _ o (λ z=>(f _ z).2.1 rfl) ho,r⟩
 ·refine(I.hok b u q).vA (λ c v hc z=>k c v ?_ z) (λ _ z=>z) λ _ _ z=>z;rcases hc with z | z
  ·rw[z];exact nin b u q
  ·exact nin c _ z
def Itz(K:FG)(a b:Addr):It:=
 ⟨λ i H=>∃ xs ys x y,SqL K H a xs/\SqL K H b ys/\xs[i]? =some x/\ys[i]? =some y,
  λ i H x H'=>∃ T u v,H T=none/\x=.ref T/\H'=upd H T (.tup [u,v])/\(∀ xs,SqL K H a xs->xs[i]? =some u)/\∀ ys,SqL K H b ys->ys[i]? =some v,
  λ i H=>∃ xs ys,SqL K H a xs/\SqL K H b ys/\(xs.length<=i\/ys.length<=i)⟩
theorem zX{P:Program}{w:World}{K:FG}{elts:List Expr}{x1:Nat}{tpos:Pos}{z TI TO i1 i2 a b:Addr}(Dz:ZipApart z TI TO i1 i2 a b) :
  Turn P w K (.Tuple elts x1 tpos) (Itz K a b) [z,TI,TO,i1,i2] z (λ i h=>IsZip h z TI TO .none/\IsPair h TI (.ref i1) (.ref i2)/\(∃ u v,IsPair h TO u v)/\h.IsListIter i1 a i/\h.IsListIter i2 b i) where
 mem:=by simp
 obj:=λ i h ⟨hz,hTI,⟨u,v,hTO⟩,⟨o1,e1,c1,d1⟩,⟨o2,e2,c2,d2⟩⟩ c hc=>by
  have q:c=z\/c=TI\/c=TO\/c=i1\/c=i2:=by simpa using hc
  rcases q with rfl | rfl | rfl | rfl | rfl
  ·exact⟨_,hz,λ v q=>by cases q⟩
  ·exact⟨_,hTI,λ v q=>by cases q⟩
  ·exact⟨_,hTO,λ v q=>by cases q⟩
  ·exact⟨o1,e1,λ v q=>by rw[d1] at q;cases q⟩
  ·exact⟨o2,e2,λ v q=>by rw[d2] at q;cases q⟩
 keep:=λ i h h' ⟨hz,hTI,⟨u,v,hTO⟩,l1,l2⟩ k=>⟨k z (by simp) _ hz,k TI (by simp) _ hTI,⟨u,v,k TO (by simp) _ hTO⟩,l1.at λ o q=>k i1 (by simp) o q,l2.at λ o q=>k i2 (by simp) o q⟩
 item:=by
  intro X hP hw hK hc i pins s σ H E I hf ⟨hz,hTI,⟨u0,v0,hTO⟩,l1,l2⟩ ⟨xs,ys,x,y,hq1,hq2,hx,hy⟩;subst hP hw hK;obtain⟨its1,rv1,p1,hz1⟩:=I.list hq1;obtain⟨its2,rv2,p2,hz2⟩:=I.list hq2;obtain⟨u,hu,ru⟩:=rv1.get hx;obtain⟨v,hv,rv⟩:=rv2.get hy;refine wpAny_pyNext_zip_item Dz hz hTI hTO l1 l2 p1.isList p2.isList (x:=u) (y:=v) (by simpa using hu) (by simpa using hv) λ h' hz' hTO' l1' l2' hT hsz kp=>?_;refine⟨_,rfl,wpAny_letOwnedTupleGo_zip hz' λ h'' hz'' sb=>?_⟩;obtain⟨t0,t1,t2,t3,t4,t5⟩:=I.vX (Nat.le_refl _) (I.hok.fresh (Nat.le_refl _));have nT:s.heap.objs.size≠z:=Nat.ne_of_gt (Heap.lt_size hz);have nTO:s.heap.objs.size≠TO:=Nat.ne_of_gt (Heap.lt_size hTO);have n1:s.heap.objs.size≠i1:=by obtain⟨o,e,_⟩:=l1;exact Nat.ne_of_gt (Heap.lt_size e)
  have n2:s.heap.objs.size≠i2:=by obtain⟨o,e,_⟩:=l2;exact Nat.ne_of_gt (Heap.lt_size e)
  have nTI:s.heap.objs.size≠TI:=Nat.ne_of_gt (Heap.lt_size hTI);have I1:Inv X pins σ H {s with heap:=h'',toks:=s.toks}:=Inv.nX (ch:=[z,TI,TO,i1,i2]) I (λ c ob hc q=>by simp only[List.mem_cons,List.not_mem_nil,or_false,not_or] at hc;exact(sb.2 c hc.1).trans (kp c ob hc.1 hc.2.2.1 hc.2.2.2.1 hc.2.2.2.2 q)) hf
  have eT:h''.get? s.heap.objs.size=some {cls:=.type "tuple",data:=.seq #[u,v]}:=(sb.2 _ nT).trans hT;have I2:=Inv.aby (us:=[u,v]) (ys:=[x,y]) I1 eT t0 (.cons ru (.cons rv .nil)) (by simp;have:=s16;omega) t3 t1 t4 t5;refine⟨.ref s.heap.objs.size,_,I2,rfl,⟨_,x,y,t0,rfl,rfl,λ zs hz=>by rw[I.ko hz hq1];exact hx,λ zs hz=>by rw[I.ko hz hq2];exact hy⟩,⟨hz'',?_,⟨u,v,?_⟩,?_,?_⟩,λ c hc=>?_⟩
  ·exact(sb.2 _ Dz.TIz).trans (kp TI _ Dz.TIz Dz.TITO Dz.TIi1 Dz.TIi2 hTI)
  ·exact(sb.2 _ Dz.TOz).trans hTO'
  ·exact l1'.at λ o q=>(sb.2 i1 Dz.i1z).trans q
  ·exact l2'.at λ o q=>(sb.2 i2 Dz.i2z).trans q
  ·have q:c=z\/c=TI\/c=TO\/c=i1\/c=i2:=by simpa using hc
   have hn:c≠s.heap.objs.size:=by rcases q with rfl | rfl | rfl | rfl | rfl<;>(intro e;first | exact nT e.symm | exact nTI e.symm | exact nTO e.symm | exact n1 e.symm | exact n2 e.symm)
   rw[aO hn];exact(hf c hc).1
 done:=by
  intro X hP hw hK hc i pins s σ H E I hf ⟨hz,hTI,⟨u0,v0,hTO⟩,l1,l2⟩ ⟨xs,ys,hq1,hq2,hx⟩;subst hP hw hK;obtain⟨its1,rv1,p1,hz1⟩:=I.list hq1;obtain⟨its2,rv2,p2,hz2⟩:=I.list hq2;have e1:=rv1.length;have e2:=rv2.length;refine wpAny_pyNext_zip_end (I.ok.hd hc) Dz hz hTI hTO l1 l2 p1.isList p2.isList ?_ λ h' eb=>⟨rfl,Inv.nX (t':=s.toks) (ch:=[z,TI,TO,i1,i2]) I (λ c ob hc q=>by simp only[List.mem_cons,List.not_mem_nil,or_false,not_or] at hc;exact eb c ob hc.1 hc.2.2.1 hc.2.2.2.1 hc.2.2.2.2 q) hf⟩
  rcases hx with hx | hx
  ·exact .inl (by simp;omega)
  ·exact .inr (by simp;omega)
 self:=λ _ _ _ _ _ ⟨hz,_⟩ h=>wpAny_pyIter_zip hz h
theorem abj:bootBuiltins "zip" = some (.type "zip"):=by decide +kernel
def ajB(K:FG)(ta:TA):TI:=λ σ H R=>ta σ H λ vs H1=>∃ c d xs ys,vs=[.ref c,.ref d]/\SqL K H1 c xs/\SqL K H1 d ys/\R (Itz K c d) H1
theorem aff{elts:List Expr}{x1:Nat}{tpos:Pos}(hg:Gl X "zip")(hm:X.mg "zip" = none)(ha:PA X [a,b] ta)(hs:starEach [a,b] X.env=(false,eval a X.env)::starEach [b] X.env:=by rfl)(hpl:(backTo pos (starEach [b] X.env)).any (·.1)=false:=by rfl) :
  PI X (.Tuple elts x1 tpos) (.Call (.Name "zip" p) [a,b] [] pos) (ajB X.K ta):=by
 intro pins s σ H R I h;refine Call_ (m8 I hg hm abj (PyProof.Rows.callWith_type1 (thn (ha pos pins s σ H _ I h) λ us s1 ⟨vs,H1,I1,r1,q1⟩=>?_) hs hpl));obtain⟨c,d,xs,ys,e,hq1,hq2,q⟩:=q1;subst e;cases r1 with
 | cons r rr =>
  cases rr with
  | cons r' rr =>
   cases rr;cases (show _=Value.ref c from r);cases (show _=Value.ref d from r');obtain⟨its1,rv1,pl1,hz1⟩:=I1.list hq1;obtain⟨its2,rv2,pl2,hz2⟩:=I1.list hq2;have a1:c<s1.heap.objs.size:=by obtain⟨_,e,_⟩:=pl1.isList;exact Heap.lt_size e
   have a2:d<s1.heap.objs.size:=by obtain⟨_,e,_⟩:=pl2.isList;exact Heap.lt_size e
   refine call_zip_2 pl1.isList pl2.isList λ h' hz hTI hTO hi1 hi2 hsz kp=>?_;have I2:Inv X pins σ H1 {s1 with heap:=h'}:=I1.kept (t':=s1.toks) kp;refine wpAny_pyIter_zip hz ?_;refine⟨_,[_,_,_,_,_],_,_,H1,rfl,I2,zX (zipApart_new a1 a2),⟨hz,hTI,⟨_,_,hTO⟩,hi1,hi2⟩,λ e he=>?_,q⟩;have z:s1.heap.objs.size<=e:=by
    have z:e=s1.heap.objs.size+4\/e=s1.heap.objs.size+2\/e=s1.heap.objs.size+3\/e=s1.heap.objs.size\/e=s1.heap.objs.size+1:=by simpa using he
    rcases z with z | z | z | z | z<;>rw[z]<;>first | exact Nat.le_refl _ | exact Nat.le_add_right _ _
   exact I1.vX z (I1.hok.fresh z)
def mi(ds es:List PyData):List W:=(List.range (min ds.length es.length)).map λ i=>.d (.tuple [ds.getD i .none,es.getD i .none])
def aiS(t:TAd)(τ:DS)(M:MH)(R:List W->MH->Prop):Prop:=t τ M λ ws M1=>∃ ds es,ws=[.d (.list ds),.d (.list es)]/\R (mi ds es) M1
end D
open L2 D
theorem zE(hg:Gl X "zip")(hm:X.mg "zip" = none)(ha:Jd (PAd X [a,b] t))(h1:fu a=false:=by rfl)(h2:([b].all λ e=>!fu e)=true:=by rfl):Jd (PId X (.Tuple elts x1 tpos) (.Call (.Name "zip" p) [a,b] [] pos) (aiS t)):=⟨have ha:=ha.h;ahi (aff hg hm ha (cq a [b] X.env h1) (d3 pos X.env [b] h2)) λ σ H R hq73=>by
 obtain⟨τ,M,Rd,A,h,k⟩:=hq73;refine⟨τ,M,_,A,h,λ vs H1 ws M1 kp r m hq74=>?_⟩;obtain⟨ds,es,ew,q⟩:=hq74;subst ew;obtain⟨v,v',ev,r1,r2⟩:=l3 r;simp only[aH,aB] at r1 r2;obtain⟨c,xs,e1,hs,ra⟩:=r1;obtain⟨d,ys,e2,hs',ra'⟩:=r2;subst e1 e2;have hl:=ra.length;have hl':=ra'.length;refine⟨c,d,xs,ys,ev,hs.sq,hs'.sq,k _ H1 _ M1 kp m (λ H2 kp2 i=>?_) q⟩;have hs2:=(hs.keep kp2).sq;have hs2':=(hs'.keep kp2).sq;have hlw:(mi ds es).length=min xs.length ys.length:=by simp[mi,hl,hl']
 refine⟨λ hi=>⟨xs,ys,xs[i]'(by omega),ys[i]'(by omega),hs2,hs2',by simp,by simp⟩,λ hi=>⟨xs,ys,hs2,hs2',by omega⟩,λ x H' hi hq75=>?_⟩;obtain⟨T,u,v,hT,ex,eH,hu,hv⟩:=hq75;subst ex eH;have hxu:=hu xs hs2;have hxv:=hv ys hs2';obtain⟨d1,e3,rd⟩:=(ra.keep kp2).get' hxu;obtain⟨d2,e4,rd'⟩:=(ra'.keep kp2).get' hxv;have kpn:Kp H2 (upd H2 T (.tup [u,v])):=Kp.new hT;have hid:i<min ds.length es.length:=by rw[hlw] at hi;omega
 refine⟨kpn,λ M m=>m.new hT,.d (.tuple [ds.getD i .none,es.getD i .none]),by unfold mi;rw[List.getElem?_map,List.getElem?_range hid];rfl,?_⟩;have ed:ds.getD i .none=d1:=by simp[List.getD,e3]
 have ed':es.getD i .none=d2:=by simp[List.getD,e4]
 rw[ed,ed'];simp only[aH,aB,bD];exact⟨T,_,rfl,.inl (.inl aP),_,_,rfl,rd.keep kpn,_,_,rfl,rd'.keep kpn,rfl⟩⟩
namespace Stc
open L2 D Rc
def Ext(M M':MH):Prop:=∀ q o,M q=some o->M' q=some o
theorem Ext.trans(h:Ext A B)(k:Ext B C):Ext A C:=λ q o e=>k q o (h q o e)
theorem Ext.new(h:M p=none):Ext M (dR M p o):=λ q u e=>yt e h
theorem Ext.del(h:Ext M M')(hp:M p=none):Ext M (zv M' p):=λ q u e=>by have hq:q≠p:=pT e hp;simp only[zv,if_neg hq];exact h q u e
theorem Ext.bag(h:Ext M M')(hb:Bag M p):Bag M' p:=by obtain⟨a,b,c,ns,e,z⟩:=hb;exact⟨a,b,c,ns,h _ _ e,z⟩
theorem iw{α:Type}{gt:TGd}{te:TD}{Q:List PyData->DS->MH->Prop}{τ0:DS}{M:MH}(L:List α)(g:α->W)(f:α->PyData)(S:DS->Prop)(hL:L.length<=1000)(h0:S τ0)
  (step:∀ a∈L,∀ τ,S τ->∀ R:PyData->DS->MH->Prop,(∀ τ2,S τ2->R (f a) τ2 M)->gt (g a) τ M λ τ2 M2=>te τ2 M2 λ y M4=>∃ d,y=.d d/\R d τ2 M4)
  (q:∀ τ,Q (L.map f) τ M) :
  ∃ P:Nat->List PyData->DS->MH->Prop,P 0 [] τ0 M /\
   (∀ i w acc τ M,(L.map g)[i]? =some w->P i acc τ M->acc.length<sizeLine/\gt w τ M λ τ2 M2=>pz τ2 M2 λ b M3=>if b=true then te τ2 M3 λ y M4=>∃ d,y=.d d/\P (i+1) (acc++[d]) τ2 M4 else P (i+1) acc τ2 M3) /\
   ∀ acc τ M,P (L.map g).length acc τ M->Q acc τ M:=by
 refine⟨λ i acc τ M'=>M'=M/\acc=(L.take i).map f/\S τ,⟨rfl,rfl,h0⟩,?_,?_⟩
 ·rintro i w acc τ M' hw ⟨rfl,rfl,hs⟩;rw[List.getElem?_map] at hw;cases e:L[i]? with
  | none=>rw[e] at hw;cases hw
  | some a =>
   rw[e] at hw;cases hw;have hi:=(List.getElem?_eq_some_iff.mp e).1;refine⟨by rw[List.length_map,List.length_take];have:=s16;omega,?_⟩;refine step a (List.mem_of_getElem? e) τ hs (λ d τ2 M4=>M4=M'/\(L.take i).map f++[d]=(L.take (i+1)).map f/\S τ2) λ τ2 h2=>⟨rfl,?_,h2⟩;rw[List.take_succ,e];simp
 ·rintro acc τ M' ⟨rfl,rfl,hs⟩;rw[List.length_map,List.take_length];exact q τ
theorem sealed(hl:M l=none):Ext M (zv (dR M l o) l):=(Ext.new hl).del hl
theorem jN{α β:Type}{L:List α}{f:α->β}{i:Nat}{w:β}(h:(L.map f)[i]? =some w):∃ a,L[i]? =some a/\w=f a:=by
 rw[List.getElem?_map] at h;cases e:L[i]? with
 | none=>rw[e] at h;cases h
 | some a=>rw[e] at h;cases h;exact⟨a,rfl,rfl⟩
theorem zc{lo:Int}{n i:Nat}{w:W}(h:(kS lo n)[i]? =some w):i<n/\w=.d (.int (lo+(i:Int))):=by
 unfold kS at h;obtain⟨j,hj,rfl⟩:=jN h;obtain⟨h1,h2⟩:=List.getElem?_eq_some_iff.mp hj;simp at h1 h2;subst h2;exact⟨h1,rfl⟩
def eF(c:Nat):Bool:=decide (97<=c)&&decide (c<=122)
def wd(z:Str):Bool:=decide (1<=z.length)&&decide (z.length<=8)&&z.cps.toList.all eF
theorem fB(h:wd z=true):1<=z.length/\z.length<=8:=by simp[wd] at h;exact h.1
theorem abP(h:wd z=true):∀ c∈z.cps.toList,eF c=true:=by simp only[wd,Bool.and_eq_true,List.all_eq_true] at h;exact h.2
theorem gz(h:wd z=true):dU z=true:=by have:=abP h;unfold dU;rw[<- Array.all_toList,List.all_eq_true];intro c hc;have:=this c hc;simp[eF] at this;simp;omega
theorem dr{c:Bool}{A B:Prop}(e:c=true)(h:A):if c=true then A else B:=by rw[e];exact dg h
theorem dw{c:Bool}{A B:Prop}(e:c=false)(h:B):if c=true then A else B:=by rw[e];exact bR h
theorem lt1(a b:Nat):decide ([a] < [b])=decide (a<b):=by
 by_cases h:a<b
 ·rw[decide_eq_true h];exact decide_eq_true (List.cons_lt_cons_iff.mpr (.inl h))
 ·rw[decide_eq_false h];refine decide_eq_false λ z=>?_;rcases List.cons_lt_cons_iff.mp z with q | ⟨_,q⟩
  ·exact h q
  ·exact absurd q (by simp)
theorem vI(z:Str):jR (.str z) "str" = true:=by simp[jR,tyD]
theorem af0(ds:List PyData):jR (.tuple ds) "tuple" = true:=by simp[jR,tyD]
theorem uA{α:Type}{M:MH}{L:List α}{f:α->PyData}{i:Nat}{r:α}{j:Int}(hj:j=(i:Int))(h:L[i]? =some r):ixW M (.d (.list (L.map f))) j=some (.d (f r)):=by subst hj;have hi:=(List.getElem?_eq_some_iff.mp h).1;simp only[ixW,atI];rw[wZ (by omega) (by rw[List.length_map];omega)];simp[h]
end Stc
namespace HT
open PySem PyProof.Rows
section
open PySem.SeqAt
open PySem.MeetsSeq PySem.MeetsSeq2 PySem.MeetsSeq3
end
end HT
namespace D
open L2
section
variable {X:Cx}{K:FG}
end
end D
namespace Stc
open L2 D Rc
end Stc
namespace D
open L2
end D
open L2 D
namespace L2
section
variable {X:Cx}{pins:PN}{σ:St}{H:Hp}{s:Shared}{sc:Scope}{own:List Str}{fr:List Nat}{cl:List (Str×Addr)}{fp:List Addr}{it D:Addr}{J:It}{tn:Nat->Heap->Prop}{g:TG}{tt:TT}{tk tv:TE}{W:DcW}{Fin:Hp->Prop}
 {kx vx tg iter:Expr}{ifs:List Expr}{pos:Pos}{E:VP}
end
end L2
namespace D
open L2
section
variable {K:FG}
variable {X:Cx}{sc:Scope}{own:List Str}{fr:List Nat}{di:TId}{g:TGd}{tt:TTd}{tk tv:TD}{tg iter kx vx:Expr}{ifs:List Expr}{pos:Pos}
end
end D
open L2 D
namespace L2
end L2
namespace D
open L2
end D
open L2 D
namespace D
open L2
end D
open L2 D
namespace D
open L2
end D
open L2 D
namespace D
open L2
section
variable {X:Cx}{K:FG}
end
end D
namespace PySem
namespace Dp
section
variable {prog:Program}{w:World}{A:Around}{E:VP}{s:Shared}
variable {K:Type}[DecidableEq K]{knd:KeyKind prog w K}
end
end Dp
end PySem
namespace D
open L2
section
variable {X:Cx}{K:FG}
end
end D
namespace Stc
open L2 D Rc
end Stc
namespace D
open L2
section
variable {X:Cx}{K:FG}
end
end D
namespace S
open PySem PySem.W PyProof.Rows
end S
namespace D
open L2 S
section
variable {X:Cx}{K:FG}
end
def ahg(M:MH):Nat->W->PyData->Prop
 | 0,w,d=>w=.d d
 | n+1,w,d=>w=.d d\/(∃ a ws ds,w=.m a/\M a=some (.lst ws)/\d=.list ds/\Paired (ahg M n) ws ds)\/∃ a ws ds,w=.m a/\M a=some (.tup ws)/\d=.tuple ds/\Paired (ahg M n) ws ds
theorem ahg.d:∀ {n:Nat},ahg M n (.d x) x
 | 0=>rfl
 | _+1=>.inl rfl
section
variable {X:Cx}{K:FG}
end
section
variable {K:FG}{H:Hp}{a:Addr}{o:Obj}{l:List V}
end
theorem aef(h:us.length=0):us=[]:=by exact List.eq_nil_of_length_eq_zero h
theorem adl(h:us.length=1):∃ a1:Value,us=[a1]:=by
 cases us with
 | nil=>simp at h
 | cons a r =>
  have e:r=[]:=aef (by simpa using h);subst e;exact⟨a,rfl⟩
theorem afh(h:us.length=2):∃ a1 a2:Value,us=[a1,a2]:=by
 cases us with
 | nil=>simp at h
 | cons a r =>
  obtain⟨b1,e⟩:=adl (us:=r) (by simpa using h);subst e;exact⟨a,b1,rfl⟩
theorem ahx(h:us.length=3):∃ a1 a2 a3:Value,us=[a1,a2,a3]:=by
 cases us with
 | nil=>simp at h
 | cons a r =>
  obtain⟨b1,b2,e⟩:=afh (us:=r) (by simpa using h);subst e;exact⟨a,b1,b2,rfl⟩
section
variable {X:Cx}{K:FG}
end
section
variable {X:Cx}{K:FG}
end
section
variable {X:Cx}{K:FG}
theorem xw:eL X (.builtin "len") (λ xs H Q=>∃ a kvs,xs=[.ref a]/\H a=some (.dK kvs)/\Q (.int kvs.length) H):=by intro pins s σ H xs us Q I r h;obtain⟨a,kvs,rfl,ha,q⟩:=h;obtain⟨u,rfl,rx⟩:=vals1 r;cases rx;obtain⟨z,hd,vs,rel,dd⟩:=adM I.hok ha;refine call_len_dict hd dd (by rw[<- rel.length];rw[sizeLine_eq] at z;omega) ?_;rw[<- rel.length];exact⟨.int _,H,I.tok _,⟨_,rfl⟩,q⟩
def abV(ws:List W)(M:MH)(Q:QD):Prop:=∃ a kvs,ws=[.m a]/\M a=some (.dic kvs)/\Q (.d (.int (kvs.length:Nat))) M
theorem ad5:fz K (λ xs H Q=>∃ a kvs,xs=[.ref a]/\H a=some (.dK kvs)/\Q (.int kvs.length) H) abV:=by intro vs H ws M Qd Q r m ⟨a,kvs,e,hm,q⟩ k;subst e;obtain⟨v,e1,r1⟩:=da r;have e2:v=.ref a:=r1;subst e2;obtain⟨l,e,pr⟩:=m _ _ hm;refine⟨a,l,e1,e,?_⟩;rw[<- Paired.length pr];exact k _ _ (.d (.int _)) M (Kp.refl _) (by simp[aH,aB]) m q
end
section
variable {K:FG}
variable {X:Cx}{sc:Scope}{own:List Str}{fr:List Nat}{di:TId}{g:TGd}{tt:TTd}{te:TD}{tg iter elt:Expr}{ifs:List Expr}{pos:Pos}
end
section
variable {X:Cx}{tg iter elt:Expr}{pos:Pos}{sc:Scope}{own:List Str}{fr:List Nat}{di:TId}{g:TGd}{tt:TTd}{te:TD}{ifs:List Expr}
end
end D
namespace XO
open PySem.W Builtin.ObjectAttr
def tj:List Value:=[.type "ValueError",.type "Exception",.type "BaseException",.type "object"]
def fc:List Value->Bool
 | .ref _::r=>fc r
 | l=>l==tj
theorem o7{l:List Value}(h:fc l=true):l.isEmpty=false:=by
 cases l with
 | nil=>exact absurd h (by decide)
 | cons _ _=>rfl
theorem vf{l:List Value}(h:fc l=true):(∃ a r,l=.ref a::r/\fc r=true)\/l=tj:=by
 cases l with
 | nil=>exact absurd h (by decide)
 | cons v r =>
  cases v<;>first | exact .inl ⟨_,_,rfl,h⟩ | exact .inr (eq_of_beq (by simpa only[fc] using h))
theorem oe(T:String)(hT:tj.contains (.type T)=true):∀ {l:List Value},fc l=true->l.contains (.type T)=true:=by
 intro l
 induction l with
 | nil=>intro h;exact absurd h (by decide)
 | cons v r ih =>
  intro h;rcases vf h with ⟨a,r',e,q⟩ | e
  ·cases e;rw[List.contains_cons,ih q,Bool.or_true]
  ·rw[e];exact hT
def age(K:Frag)(C:Addr):Bool:=(clsIn K C).any λ cd=>cd.hasDict&&fc cd.mro
theorem lL{K:Frag}{C:Addr}(h:age K C=true):∃ cd,clsIn K C=some cd/\cd.hasDict=true/\fc cd.mro=true:=by obtain⟨cd,e,q⟩:=any_some h;simp only[Bool.and_eq_true] at q;exact⟨cd,e,q.1,q.2⟩
section
variable {prog:Program}{w:World}{A:Around}{E:VP}{s:Shared}{K:Frag}{x C:Addr}{name:Str}{v:Value}
theorem ajp{M:Model}{h:Heap}{ox:Obj}{od:Option Obj}(X:K.In h)(c:age K C=true)(I:W.InstAt h x ox C od){T:String}(hT:tj.contains (.type T)=true):Looks M h (isInstance (.ref x) (.type T)) true:=by obtain⟨cd,hc,_,hm⟩:=lL c;refine I.type.andThen (looks_mroIn X ?_);unfold mroIn;rw[hc,Option.bind_some,if_neg (by rw[o7 hm];decide),oe T hT hm]
end
section
variable {prog:Program}{w:World}{A:Around}{E:VP}{s:Shared}{K:Frag}{x C:Addr}{name:Str}{v:Value}{ox:Obj}{od:Option Obj}
theorem ac7:builtinKind "BaseException.__getattribute__" = some .slot:=by decide +kernel
theorem aaf:splitId "BaseException.__getattribute__" = some ("BaseException", "__getattribute__"):=by decide +kernel
structure XC(K:Frag)(C:Addr):Prop where
 x:age K C=true
 sa:findIn K (.ref C) "__setattr__" = some (some (.builtin "object.__setattr__"))
 ga:findIn K (.ref C) "__getattribute__" = some (some (.builtin "BaseException.__getattribute__"))
 gt:findIn K (.ref C) "__getattr__" = some none
 cl:findIn K (.ref C) "__class__" = some (some (.builtin "object.__class__"))
 cg:specialIn K (.builtin "object.__class__") "__get__" = some (some (.builtin "getset_descriptor.__get__"))
 ct:takesIn K (.builtin "object.__class__")=some true
theorem xby{fill expr:Bool}{tk:Tok}{Q:VP}(X:K.In s.heap)(c:XC K C)(I:W.InstAt s.heap x ox C od)
  (h:wpAny (model prog w) A.in1 (Builtin.«object.__getattribute__» ⟨[.ref x,.str name tk],[]⟩)
   (λ fin s'=>match fin with | .done (.ret v)=>wpAny (model prog w) A (handedOut v) Q E s' | _=>False) (λ _ _=>False) s) :
  wpAny (model prog w) A (getAttrBy (.ref x) (.str name tk) fill expr) Q E s:=by
 unfold getAttrBy;refine wpAny_holding (wpAny_bind (I.type.here (wpAny_bind ((looks_findIn X c.ga).here ?_))));have e1:(onTheHeap (Value.ref C)&&(Value.builtin "BaseException.__getattribute__" == Value.builtin "object.__getattribute__"))=false:=by rw[show(Value.builtin "BaseException.__getattribute__" == Value.builtin "object.__getattribute__")=false from by decide,Bool.and_false]
 dsimp only;rw[if_neg (by rw[e1];decide)];unfold getAttrByItsOwn hookBefore;refine wpAny_bind ?_;rw[if_pos (show onTheHeap (Value.ref C)=true from rfl)];refine(looks_findIn X c.gt).here ?_;refine wpAny_bind (wpAny_attempt (wpAny_holding ?_));unfold callGetattribute;rw[if_neg (by rw[show onTheHeap (Value.builtin "BaseException.__getattribute__")=false from rfl,Bool.and_false];decide)];unfold boundAndCalled;rw[PySem.F.excAttr_ValueError.ga.bind];refine wpAny_bind (wpAny_pure ?_);refine wpAny_call (codeAny_call_builtin PySem.F.excAttr_ValueError.ga.plain PySem.F.entry_bexc_ga (@check_slot (model prog w) _ _ s _ "BaseException" "__getattribute__" (.ref x) [.str name tk] [] _ ac7 aaf (ajp X c.x I (by decide)) (PySem.F.args_bexc_ga _ _) ?_));refine wpAny_mono h (λ fin s' z=>?_) λ _ _ z=>z.elim;rcases fin with (_ | _ | _ | _) | _<;>first | exact z | exact z.elim
theorem XC.mro(c:XC K C):mroIn K C (.type "object")=some true:=by obtain⟨cd,hc,_,hm⟩:=lL c.x;unfold mroIn;rw[hc,Option.bind_some,if_neg (by rw[o7 hm];decide),oe "object" (by decide) hm]
theorem XC.at(c:XC K C):∃ cd o dd sl,K.lookup C=some ⟨o,dd,.cls cd,sl⟩:=by
 obtain⟨cd,hc,_,_⟩:=lL c.x;unfold clsIn at hc
 split at hc
 ·rename_i ho;exact⟨_,_,_,_,ho⟩
 ·cases hc
theorem XC.look{M:Model}{h:Heap}(c:XC K C)(X:K.In h):Looks M h (isType (.ref C)) true:=by obtain⟨cd,o,dd,sl,ho⟩:=c.at;refine λ A' Q' E' s' k q=>?_;unfold isType loadHead;exact wpAny_bind (wpAny_loadPart (k _ _ (X _ _ ho)) (wpAny_pure q))
theorem afA{Q:Option Value->Shared->Prop}(X:K.In s.heap)(c:XC K C)(I:W.InstAt s.heap x ox C od)(h:Q (some (.ref C)) {s with toks:=s.toks+1}):wpAny (model prog w) A (getAttr? (.ref x) "__class__") Q E s:=by
 obtain⟨cd,hc,_,hm⟩:=lL c.x;have hf:findObj K C od "__class__" = some (.bind (.builtin "getset_descriptor.__get__") (.builtin "object.__class__")):=by
  unfold findObj;rw[hc,Option.bind_some,c.cl,Option.bind_some];simp[c.cg,c.ct]
 unfold getAttr? getAttrBy?;refine wpAny_bind (wpAny_mkText (wpAny_bind (wpAny_attempt (xby (s:={s with toks:=s.toks+1}) X c I ?_))));refine wpAny_bind (wpAny_pure (wpAny_bind (wpAny_pure (wpAny_bind (W.Looks.here (s:={s with toks:=s.toks+1}) I.type (wpAny_bind (W.Looks.here (s:={s with toks:=s.toks+1}) (looks_find X I hf) ?_)))))));show wpAny _ _ (holding [Value.builtin "object.__class__"] (call (.builtin "getset_descriptor.__get__") [.builtin "object.__class__",.ref x,.ref C]) >>= ret) _ _ _;refine wpAny_bind (wpAny_holding (wpAny_call (class_get (s:={s with toks:=s.toks+1}) X I c.mro ?_)));exact wpAny_pure (handed_on rfl (wpAny_pure h))
theorem abt(c:XC K C):KitX K (.ref x) (.ref C) (λ h=>W.InstAt h x ox C od) where
 ty:=λ _ _ _ I=>I.type
 it:=λ _ _ X _=>c.look X
 ne:=λ h tp dd its n sl X htp=>by obtain⟨cd,o,d',s',e⟩:=c.at;refine Bool.eq_false_iff.mpr λ q=>?_;cases Value.ref.inj (beq_iff_eq.mp q);have z:=(X _ _ e).symm.trans htp;cases z
 ca:=λ X I k=>afA X c I k
end
def xmk(K:Frag)(C:Addr):Bool:=match K.lookup C with
 | some ⟨.type "type",_,.cls cd,sl⟩=>(match cd.mro,sl.toList with
  | .ref D::bm,[_,_,_,_,some (.builtin n),_]=>D==C&&n == "ValueError.__new__" && !cd.hasDel&&tailIn K tj bm
  | _,_=>false)
 | _=>false
theorem af9{K:Frag}{C:Addr}{h:Heap}(X:K.In h)(e:xmk K C=true):∃ nm q N bs bm hdct sn sub ab col dd k0 k1 k2 k3 k5,
  h.get? C=some (excClassObj nm q C N bs bm hdct sn sub ab col dd k0 k1 k2 k3 k5 "ValueError.__new__")/\OwnTail h tj bm:=by
 unfold xmk at e
 split at e
 ·rename_i dd cd sl ho
  split at e
  ·rename_i D bm a0 a1 a2 a3 n a5 hm hs
   simp only[Bool.and_eq_true,beq_iff_eq,Bool.not_eq_true'] at e;obtain⟨⟨⟨h1,h2⟩,h3⟩,h4⟩:=e;subst h1 h2;obtain⟨c1,c2,c3,c4,c5,c6,c7,c8,c9,c10,c11⟩:=cd;dsimp only at hm h3;subst hm h3;obtain⟨l⟩:=sl;simp only at hs;subst hs;exact⟨_,_,_,_,_,_,_,_,_,_,_,_,_,_,_,_,X _ _ ho,tail_of_in X h4⟩
  ·cases e
 ·cases e
section
variable {prog:Program}{w:World}{A:Around}{E:VP}{K:Frag}{C f:Addr}{h:Heap}{g:Array GenState}{d:Drawn}{t:Nat}{os:OsState}
end
abbrev kh(C:Addr)(dct:Option Addr)(vs:Array Value):Obj:={cls:=.ref C,dict:=dct,data:=.fields vs}
def Tb(h:Heap)(e:Addr)(vs:Array Value):Prop:=vs[1]? =some .none\/∃ T oT ts,vs[1]? =some (.ref T)/\T≠e/\h.get? T=some oT/\oT.data=.fields ts/\ts[3]? =some .none
theorem Tb.size{h:Heap}{e:Addr}{vs:Array Value}(t:Tb h e vs):1<vs.size:=by
 rcases t with z | ⟨_,_,_,z,_⟩<;>exact(Array.getElem?_eq_some_iff.mp z).1
structure Seen(fs:List Addr)(e:Addr)(h h':Heap):Prop where
 keep:∀ b o,b≠e->b ∉ fs->h.get? b=some o->h'.get? b=some o
 slot:∀ b o,b∈fs->h.get? b=some o->∃ sl,h'.get? b=some {o with slots:=sl}
theorem aal{Q:Unit->Shared->Prop}(hfr:A.frames=some (env::outer))(hl:s.heap.FunFrames base (env::outer))(hf:env.frame=some L)(he:s.heap.get? e=some (kh C dct vs))(tb:Tb s.heap e vs)
  (q:∀ h' vs',h'.get? e=some (kh C dct vs')->Tb h' e vs'->vs'[1]? ≠ some .none->vs'[2]? =vs[2]? -> Seen ((env::outer).filterMap (·.frame)) e s.heap h'->Q () {s with heap:=h'}) :
  wpAny M A (noteFrame (.ref e) env) (λ _ s1=>wpAny M A (setFlight (.ref e) none) Q E s1) E s:=by
 have nfr:∀ b o us,s.heap.get? b=some o->o.data=.fields us->b ∉ (env::outer).filterMap (·.frame):=λ b o us z zd hm=>by obtain⟨_,o',ho,hn⟩:=hl.mem hm;rw[z] at ho;cases ho;exact hn us zd
 have main:∀ (head:Value) (had:Bool),wpAny M A (do let a <- frameOf env;let pl <- entryPlaceOf L had;let b <- EntryCells.newEntry head a .none (rawInt L) .none pl;setField (.ref e) 1 b) (λ _ s1=>wpAny M A (setFlight (.ref e) none) Q E s1) E s:=by
  intro head had;refine wpAny_bind (wpAny_frameOf_fun hfr hl hf λ h1 so=>wpAny_bind (wpAny_entryPlaceOf λ pl hpl=>?_));unfold EntryCells.newEntry newFields;refine wpAny_bind (wpAny_newObj_type ?_ (hpl.sizeOk5 _ _ _ _ _));have e1:h1.get? e=some (kh C dct vs):=(so.2.1 e (nfr e _ vs he rfl)).trans he;generalize hts:([head,Value.ref L,.none,rawInt L,.none]++(if pl.isEmpty then List.replicate 6 Value.none else pl)).toArray=ts;have hts3:3<ts.size:=by rw[<- hts];simp only[List.size_toArray,List.length_append,List.length_cons,List.length_nil]<;>omega
  have e2:=Heap.get?_push_of_some (h:=h1) {cls:=.type "traceback",dict:=none,data:=.fields ts} e1;refine wpAny_setField e2 rfl tb.size ?_;have ne:h1.objs.size≠e:=Nat.ne_of_gt (Heap.lt_size e1);have e3:((h1.push {cls:=.type "traceback",dict:=none,data:=.fields ts}).update e (Obj.mapFields (·.setIfInBounds 1 (Value.ref h1.objs.size)))).get? e=some (kh C dct (vs.setIfInBounds 1 (Value.ref h1.objs.size))):=
   Heap.get?_update_self _ e2 rfl
  have e4:((h1.push {cls:=.type "traceback",dict:=none,data:=.fields ts}).update e (Obj.mapFields (·.setIfInBounds 1 (Value.ref h1.objs.size)))).get? h1.objs.size=some {cls:=.type "traceback",dict:=none,data:=.fields ts}:=
   (Heap.get?_update_other _ _ (Ne.symm ne)).trans (Heap.get?_push_size h1 rfl)
  have v1:(vs.setIfInBounds 1 (Value.ref h1.objs.size))[1]? =some (Value.ref h1.objs.size):=by simp[tb.size]
  unfold setFlight;refine wpAny_bind (wpAny_field e3 rfl v1 ?_);rw[if_pos (show(Value.ref h1.objs.size != Value.none)=true from by simp)];refine wpAny_setField e4 rfl hts3 (q _ (vs.setIfInBounds 1 (Value.ref h1.objs.size)) ?_ (.inr ⟨h1.objs.size,_,ts.setIfInBounds 3 .none,v1,ne,Heap.get?_update_self _ e4 rfl,rfl,by simp[hts3]⟩) (by rw[v1];intro z;cases z) (by simp) ?_)
  ·rw[Heap.get?_update_other _ _ ne];exact e3
  ·have kp:∀ b o,b≠e->h1.get? b=some o->(((h1.push {cls:=.type "traceback",dict:=none,data:=.fields ts}).update e (Obj.mapFields (·.setIfInBounds 1 (Value.ref h1.objs.size)))).update h1.objs.size
     (Obj.mapFields (·.setIfInBounds 3 ((none:Option Addr).elim Value.none λ f=>rawInt f)))).get? b=some o:=λ b o hb z=>by
    rw[Heap.get?_update_other _ _ (Nat.ne_of_gt (Heap.lt_size z)),Heap.get?_update_other _ _ (Ne.symm hb)];exact Heap.get?_push_of_some _ z
   refine⟨λ b o hb hm z=>kp b o hb ((so.2.1 b hm).trans z),λ b o hm z=>?_⟩;obtain⟨sl,z2⟩:=so.2.2 b o z;exact⟨sl,kp b _ (λ w=>nfr e _ vs he rfl (w ▸ hm)) z2⟩
 unfold noteFrame;simp only[hf];rcases tb with z | ⟨T,oT,ts,z1,z2,z3,z4,z5⟩
 ·refine wpAny_bind (wpAny_field he rfl z ?_);rw[if_neg (by decide)];exact main _ _
 ·refine wpAny_bind (wpAny_field he rfl z1 ?_);rw[if_pos (show(Value.ref T != Value.none)=true from by simp)];refine wpAny_bind (wpAny_field z3 z4 z5 ?_);rw[if_neg (show ¬ ((Value.none==rawInt L)=true) from by simp[rawInt])];refine wpAny_bind (wpAny_setField z3 z4 (Array.getElem?_eq_some_iff.mp z5).1 ?_);rw[Heap.update_setField_same s.heap T oT ts 3 .none z3 z4 z5];exact main _ _
end XO
namespace L2
open XO
def XF(e C:Addr)(dct:Option Addr)(cc:Bool):Heap->Prop:=λ h=>∃ vs,h.get? e=some (kh C dct vs)/\(cc=true->vs[2]? =some .none)
def Air(H:Hp)(h:Heap)(e:Addr):Prop:=∃ C dct vs cc,H e=some (.ext (XF e C dct cc))/\h.get? e=some (kh C dct vs)/\Tb h e vs/\(cc=true->vs[2]? =some .none)
theorem ad1(z:h.get? e=some (kh C dct vs))(c:cc=true->vs[2]? =some .none):cR P w H h e (.ext (XF e C dct cc)):=
 ⟨⟨vs,z,c⟩,⟨_,z⟩,λ h1 h2 ⟨us,e1,c⟩ k=>⟨us,k _ e1,c⟩⟩
theorem Inv.seen(I:Inv X pins σ H s)(e:H a=some (.ext (XF a C dct cc)))(he:h'.get? a=some (kh C dct vs))(hc:cc=true->vs[2]? =some .none)(sn:Seen (frs X.stack) a s.heap h'):Inv X pins σ H {s with heap:=h'}:=by
 have nfs:∀ b u,H b=some u->b ∉ frs X.stack:=λ b u z hb=>by rw[I.nQ b hb] at z;cases z
 refine I.call (g':=s.gens) (t':=s.toks) (d':=s.drawn) (ch:=[]) ⟨λ b o z n hb _=>sn.keep b o (λ w=>by rw[w,e] at n;cases n) hb z,λ b o z _ hb _=>sn.slot b o hb z,λ _ _ _ n _=>n,λ b o z _=>?_,λ _ _ z=>z,λ _ _ _ z=>z,λ _ ps z=>⟨#[],by rw[z];simp⟩⟩ (λ b o z=>?_) I.bare (λ b z=>absurd z (by simp))
 ·by_cases hb:b=a
  ·subst hb;exact⟨_,he⟩
  ·by_cases hm:b∈frs X.stack
   ·obtain⟨sl,q⟩:=sn.slot b o hm z;exact⟨_,q⟩
   ·exact⟨o,sn.keep b o hb hm z⟩
 ·by_cases hb:b=a
  ·subst hb;rw[e] at z;cases z;exact ad1 he hc
  ·refine(I.hok b o z).vA (λ c u hc q=>sn.keep c u ?_ ?_ q) (λ _ q=>q) λ _ _ q=>q
   ·rcases hc with w | w
    ·rw[w];exact hb
    ·intro y;rw[y,e] at w;cases w
   ·rcases hc with w | w
    ·rw[w];exact nfs b o z
    ·exact nfs c _ w
theorem Inv.aal(I:Inv X pins σ H s)(hA:A.frames=some X.stack)(hst:X.stack=X.env::X.outer)(hf:X.env.frame=some X.env.locals)(air:Air H s.heap a)
  (q:∀ s',Inv X pins σ H s'->Air H s'.heap a->Q () s'):wpAny (model X.prog X.w) A (noteFrame (.ref a) X.env) (λ _ s1=>wpAny (model X.prog X.w) A (setFlight (.ref a) none) Q E s1) E s:=by
 obtain⟨C,dct,vs,cc,e1,e2,e3,e4⟩:=air;have st:=I.stack;rw[hst] at st hA;refine XO.aal hA st hf e2 e3 λ h' vs' g1 g2 _ g4 g3=>q _ (I.seen e1 g1 (λ z=>by rw[g4];exact e4 z) ?_) ⟨C,dct,vs',cc,e1,g1,g2,λ z=>by rw[g4];exact e4 z⟩;rw[hst];exact g3
def CXE(P:Program)(w:World):CXT:=λ outer H s E e s'=>∃ a H',e=.ref a/\s'.os=s.os/\AllBare s'.gens/\Un (frs outer) [] H H' s.heap s'.heap/\HOk P w H' s'.heap/\Air H' s'.heap a/\E e none H'
theorem acv(F:cU X.prog X.w X.K X.mg X.base CX k f fd ps sp)(hr:gm k X.A)(hb:Binds X.K fd ps [])(I:Inv X pins σ H s)(r:Vals vs us)(h:sp vs H Q E)(hx:∀ e s',CX X.stack H s E e s'->X.xe e s') :
  wpAny (model X.prog X.w) X.A (call (.ref f) us) (EP X pins σ Q) X.xe s:=by
 have hl:(us++[]).length=ps.length:=by rw[List.append_nil,<- r.length];exact F.len _ _ _ _ h
 have b:=hb s us I.kIn hl;rw[List.append_nil] at b;refine wpAny_call (codeAny_mono (F.run X.A X.stack s H ⟨us,[]⟩ us vs Q E hr I.ai5 b r h) λ r s' hq=>?_);cases r with
 | error e=>exact hx e s' hq
 | ok fl=>cases fl<;>first | exact I.after hq | exact False.elim hq
end L2
namespace D
open L2 XO
abbrev XQ:=Addr->MH->Prop
abbrev XE:=Addr->DS->MH->Prop
abbrev SpX:=List W->MH->QD->XQ->Prop
def oz(K:FG)(sp:SpX):Sp:=λ vs H Q E=>∃ ws M Qd Ed,bQ K H ws vs/\dJ K H M/\sp ws M Qd Ed/\Kont K H Qd Q/\∀ a H' M',Kp H H'->dJ K H' M'->Ed a M'->E (.ref a) none H'
def Lk(X:Cx)(E:XE):Prop:=∀ (pins:PN) (σ:St) (H:Hp) (s:Shared) (a:Addr) (τ:DS) (M:MH),Inv X pins σ H s->Air H s.heap a->Abs X.K H σ τ M->E a τ M->X.xe (.ref a) s
section
variable {P:Program}{w:World}{K:FG}{mg:Str->Option Value}{base:Heap}
theorem abX{N:List Str}{qual:Str}{scope:Scope}{cd:Value}{outer:List Env}{Ed:XQ}(he:∀ a H' M',Kp H H'->dJ K H' M'->Ed a M'->E (.ref a) none H') :
  Lk (rX (CXE P w) P w K mg base N qual scope f cd A outer s H E) λ a _ M=>Ed a M:=by
 intro pins σ H1 s1 a τ M I air ab e;show wpAny _ _ (leaving _ _) _ _ _;unfold leaving;refine wpAny_bind (I.aal I.ok.frames rfl rfl air λ s2 J air2=>?_);exact⟨a,H1,rfl,J.os,J.bare,J.base,J.hok,air2,he a H1 M (Kp.un J.base) ab.mem e⟩
theorem zg{x qual:Str}{st:Stmt}{N ps:List Str}{k:Nat}{sp:SpX}{t:XE->TSd}(F:Fun K x qual st f fd)(S:aQ N ps (ao st))(len:∀ ws M Q E,sp ws M Q E->ws.length=ps.length)
  (hbody:∀ (cdv:Value) (A:Around) (outer:List Env) (s:Shared) (H:Hp) (E:XK) (Ed:XE),gm k (A.deeper (envOfC qual (ao st) s.heap.objs.size f cdv))->Lk (rX (CXE P w) P w K mg base N qual (ao st) f cdv A outer s H E) Ed ->
   PassesOwn (model P w) (A.deeper (envOfC qual (ao st) s.heap.objs.size f cdv)) (envOfC qual (ao st) s.heap.objs.size f cdv) (rX (CXE P w) P w K mg base N qual (ao st) f cdv A outer s H E).xe ->
   mP (rX (CXE P w) P w K mg base N qual (ao st) f cdv A outer s H E) (bU st) (t Ed))
  (read:∀ ws M Q E,sp ws M Q E->t (λ a _ M=>E a M) {nx:=λ _ M'=>Q (.d .none) M',rt:=Q} (dQ N ws) M):cU P w K mg base (CXE P w) (k+1) f fd ps (oz K sp):=by
 obtain⟨oc,od,kV,doc,pm,an,cdv,ct,osl,rfl,lk,hcd⟩:=F.ex;refine adz lk hcd S (λ vs H Q E h=>?_) λ A outer s H vs Q E hr h=>?_
 ·obtain⟨ws,M,Qd,Ed,r,_,q,_⟩:=h;rw[<- r.length];exact len _ _ _ _ q
 ·obtain⟨ws,M,Qd,Ed,r,m,q,kk,ke⟩:=h;refine⟨_,hbody cdv A outer s H E (λ a _ M=>Ed a M) hr (abX ke) PassesOwn.leaving,dQ N ws,M,_,kQ r m,read ws M Qd Ed q,λ σ' H' τ' M' kp A' q'=>?_,λ v H' w' M' kp r' m' q'=>?_,λ σ' H' τ' M' kp A' q'=>q'.elim,λ σ' H' τ' M' kp A' q'=>q'.elim⟩
  ·exact kk _ H' _ M' kp (by simp[aH,aB]) A'.mem q'
  ·exact kk v H' w' M' kp r' m' q'
end
theorem aeb(L:Lk X E)(I:Inv X pins σ H s)(ab:Abs X.K H σ τ M)(hE:∀ v H',E' v none H'->∃ a M',v=.ref a/\Kp H H'/\dJ X.K H' M'/\E a τ M')
  (h:CXE X.prog X.w X.stack H s E' u s'):X.xe u s':=by
 obtain⟨a,H',rfl,os,br,un,hok,air,q⟩:=h;obtain⟨a',M',e,kp,m',q'⟩:=hE _ _ q;cases e;exact L pins σ H' s' a τ M' (I.zH os un hok br (λ b z=>absurd z (by simp))) air (ab.go kp m') q'
def u7(sp:SpX)(E:XE)(t:TAd)(τ:DS)(M:MH)(Q:QD):Prop:=t τ M λ ws M1=>sp ws M1 Q λ a M'=>E a τ M'
end D
namespace XO
open PySem.W
section
variable {prog:Program}{w:World}{A:Around}{E:VP}{s:Shared}{K:Frag}{env:PySem.Env}
theorem agX(hh:A.handled=none)
  (h:wpAny (model prog w) A x (λ v s1=>∃ e C dct vs,v=.ref e/\K.In s1.heap/\age K C=true/\typeIn K (.ref C)=some (.type "type")/\s1.heap.get? e=some (kh C dct vs)/\vs[1]? =some .none/\E (.ref e) s1) E s) :
  wpAny (model prog w) A (raiseStmt env (some x) none) Q E s:=by
 unfold raiseStmt;refine wpAny_bind (wpAny_mono h (λ v s1 z=>?_) λ _ _ z=>z);obtain⟨e,C,dct,vs,rfl,X,c,ty,he,h1,q⟩:=z;obtain⟨hp,g,d,tk,os⟩:=s1;have L:Looks (model prog w) hp (isType (.ref e)) false:=λ A' Q' E' s' k q=>by
  unfold isType loadHead;exact wpAny_bind (wpAny_loadPart (k _ _ he) (wpAny_pure q))
 have T:Looks (model prog w) hp (typeOf (.ref e)) (.ref C):=(Looks.ld he).andThen .now;obtain⟨cd,hc,_,hm⟩:=lL c;have S:Looks (model prog w) hp (isInstance (.ref e) (.type "BaseException")) true:=T.andThen (looks_mroIn X (by
  unfold mroIn;rw[hc,Option.bind_some,if_neg (by rw[o7 hm];decide),oe "BaseException" (by decide) hm]))
 have N:Looks (model prog w) hp (isExcClass (.ref e)) false:=L.andThen .now;have Y:=looks_typeIn (M:=model prog w) X ty;have R:Looks (model prog w) hp (raisedInstance (.ref e)) (.ref e):=T.andThen (Y.andThen (by rw[if_pos (by decide)];exact .now));have Z:Looks (model prog w) hp (excFromValue (.ref e) "exceptions must derive from BaseException") (.ref e):=by
  unfold excFromValue;refine N.andThen ?_;rw[if_neg Bool.false_ne_true];refine S.andThen ?_;rw[if_pos rfl];exact .now
 refine wpAny_bind (wpAny_pure (wpAny_bind (wpAny_holding (Z.at ?_))));dsimp only;refine wpAny_bind (L.at ?_);rw[if_neg Bool.false_ne_true];refine wpAny_bind (R.at ?_);unfold setFlight;refine wpAny_bind (wpAny_bind (wpAny_field he rfl h1 ?_));rw[if_neg (by decide)];exact wpAny_pure (wpAny_raiseNew_none hh q)
end
end XO
namespace L2
open XO
section
variable {P:Program}{w:World}{K:FG}{mg:Str->Option Value}{base:Heap}{C f:Addr}{fd:FuncData}{qual:Str}{st:Stmt}
end
end L2
namespace D
open L2 XO
end D
namespace L2
open XO
def rZ(H₀ H:Hp):Hp:=λ b=>match H b with
 | some (.tup xs)=>some (.tup xs)
 | some (.frz o u)=>some (.frz o u)
 | _=>H₀ b
theorem yJ(h:H b=some (.tup xs)):rZ H₀ H b=some (.tup xs):=by unfold rZ;rw[h]
theorem yT(h:H b=some (.frz o u)):rZ H₀ H b=some (.frz o u):=by unfold rZ;rw[h]
theorem wV(h:rZ H₀ H b=some v):H₀ b=some v\/H b=some v:=by
 unfold rZ at h
 split at h
 ·rename_i e;rw[e];exact .inr h
 ·rename_i e;rw[e];exact .inr h
 ·exact .inl h
theorem nV(h:rZ H₀ H b=none):H₀ b=none:=by
 unfold rZ at h
 split at h
 ·cases h
 ·cases h
 ·exact h
theorem oP(h:H₀ b=none)(h2:H b=none):rZ H₀ H b=none:=by
 unfold rZ;rw[h2];exact h
abbrev Cx.mL(X:Cx)(H0:Hp)(pn:PN)(xe:VP):Cx:={X with H₀:=H0,pn:=pn,xe:=xe}
abbrev Cx.ib(X:Cx)(a:Addr):Cx:={X with A:=X.A.mark (some (.ref a)),calm:=false,xe:=λ _ _=>False}
theorem Inv.afg(I:Inv X pins σ H s):∀ b∈X.fs,H b=none:=λ b hb=>by obtain⟨_,o,ho,_⟩:=I.ok.rK.mem hb;exact I.base.free b o ho (I.ok.frf b hb) λ z=>I.ok.exfs b z hb
theorem Inv.ahZ(I:Inv X pins σ H s):Inv (X.mL (rZ X.H₀ H) (X.pn++pins) xe) [] σ H s:=by
 refine⟨⟨I.ok.mod,I.ok.kind,I.ok.glob,I.ok.blt,I.ok.above,I.ok.inj,I.ok.has,I.ok.cab,I.ok.hd,I.ok.frames,I.ok.stk,I.ok.exf,λ b o e=>⟨(I.ok.bs b o e).1,oP (I.ok.bs b o e).2 (I.bs b o e).2⟩,I.ok.bsz,I.ok.noex,I.ok.exfs,I.ok.rK,λ b hb=>oP (I.ok.frf b hb) (I.afg b hb)⟩,
  I.os,I.bare,⟨λ b o e n hb hx=>I.base.keep b o e (nV n) hb hx,λ b o e n hb hx=>I.base.slot b o e (nV n) hb hx,λ b o e n hx=>I.base.free b o e (nV n) hx,I.base.there,λ b xs e=>?_,λ b o u e=>?_,λ b ps e=>?_⟩,
  I.loc,I.cell,I.free,I.freeC,λ p hp=>I.pin p (by simpa using hp),I.hok,I.len⟩
 ·rcases wV e with z | z
  ·exact I.base.tups b xs z
  ·exact z
 ·rcases wV e with z | z
  ·exact I.base.frzs b o u z
  ·exact z
 ·rcases wV e with z | z
  ·exact I.base.tbls b ps z
  ·exact⟨#[],by rw[z];simp⟩
theorem Inv.yv(I:Inv X pins σ H s)(J:Inv (X.mL (rZ X.H₀ H) (X.pn++pins) xe) pins' σ' H' s'):Inv X pins σ' H' s':=by
 have nn:∀ b o,X.s₀.heap.get? b=some o->X.H₀ b=none->b ∉ X.ex->rZ X.H₀ H b=none:=λ b o e n hx=>oP n (I.base.free b o e n hx);exact⟨I.ok,J.os,J.bare,⟨λ b o e n hb hx=>J.base.keep b o e (nn b o e n hx) hb hx,λ b o e n hb hx=>J.base.slot b o e (nn b o e n hx) hb hx,λ b o e n hx=>J.base.free b o e (nn b o e n hx) hx,J.base.there,λ b xs e=>J.base.tups b xs (yJ (I.base.tups b xs e)),λ b o u e=>J.base.frzs b o u (yT (I.base.frzs b o u e)),λ b ps e=>by obtain⟨m1,e1⟩:=I.base.tbls b ps e;refine J.base.tbls b ps ?_;show rZ X.H₀ H b=_;unfold rZ;rw[e1];exact e⟩,J.loc,J.cell,J.free,J.freeC,λ p hp=>J.pin p (List.mem_append_left _ hp),J.hok,J.len⟩
theorem Inv.ib(I:Inv X pins σ H s)(a:Addr):Inv (X.ib a) pins σ H s:=
 ⟨⟨I.ok.mod,I.ok.kind,I.ok.glob,I.ok.blt,I.ok.above,I.ok.inj,I.ok.has,I.ok.cab,(λ z=>nomatch z),I.ok.frames,I.ok.stk,I.ok.exf,I.ok.bs,I.ok.bsz,I.ok.noex,I.ok.exfs,I.ok.rK,I.ok.frf⟩,I.os,I.bare,I.base,I.loc,I.cell,I.free,I.freeC,I.pin,I.hok,I.len⟩
theorem Inv.uncaught(ok:X.Ok)(I:Inv (X.ib a) pins σ H s):Inv X pins σ H s:=⟨ok,I.os,I.bare,I.base,I.loc,I.cell,I.free,I.freeC,I.pin,I.hok,I.len⟩
theorem Inv.gone(I:Inv X pins σ H s)(hn:h'.Ns X.env.locals m')(sb:Heap.SameBut X.env.locals s.heap h'):Inv X pins (List.replicate σ.length none) H {s with heap:=h',toks:=t'}:=by
 have ne:∀ b o,X.s₀.heap.get? b=some o->b≠X.env.locals:=λ b o e=>Nat.ne_of_lt (Nat.lt_of_lt_of_le (Heap.lt_size e) I.ok.above);refine⟨I.ok,I.os,I.bare,⟨λ b o e n hb hx=>(sb.2 b (ne b o e)).trans (I.base.keep b o e n hb hx),λ b o e n hb hx=>?_,I.base.free,λ b o e hx=>?_,I.base.tups,I.base.frzs,I.base.tbls⟩,⟨m',hn,λ i x v e1 e2 e3=>?_⟩,λ x c e=>?_,I.free,I.freeC,λ p hp=>?_,λ b o e=>?_,by rw[List.length_replicate];exact I.len⟩
 ·obtain⟨sl,z⟩:=I.base.slot b o e n hb hx;exact⟨sl,(sb.2 b (ne b o e)).trans z⟩
 ·obtain⟨o',z⟩:=I.base.there b o e hx;exact⟨o',(sb.2 b (ne b o e)).trans z⟩
 ·rw[List.getElem?_replicate] at e2
  split at e2<;>cases e2
 ·obtain⟨v,z⟩:=I.cell x c e;exact⟨v,z.sameBut sb (I.cne x c e)⟩
 ·obtain⟨z,n,nl,nf,d⟩:=I.pin p hp;exact⟨(sb.2 p.1 nl).trans z,n,nl,nf,d⟩
 ·refine(I.hok b o e).vA (λ c u hc q=>(sb.2 c λ z=>?_).trans q) (λ _ q=>q) λ _ _ q=>q;rcases hc with y | y
  ·rw[z] at y;rw[<- y,I.free] at e;cases e
  ·rw[z,I.free] at y;cases y
theorem Air.afE(air:Air H s.heap a)(q:Q () s):wpAny M A (setFlight (.ref a) none) Q E s:=by
 obtain⟨C,dct,vs,cc,e1,e2,tb,_⟩:=air;unfold setFlight;rcases tb with z | ⟨T,oT,ts,z1,z2,z3,z4,z5⟩
 ·refine wpAny_bind (wpAny_field e2 rfl z ?_);rw[if_neg (by decide)];exact wpAny_pure q
 ·refine wpAny_bind (wpAny_field e2 rfl z1 ?_);rw[if_pos (show(Value.ref T != Value.none)=true from by simp)];refine wpAny_setField z3 z4 (Array.getElem?_eq_some_iff.mp z5).1 ?_;rw[show((none:Option Addr).elim Value.none λ f=>rawInt f)=Value.none from rfl,Heap.update_setField_same s.heap T oT ts 3 .none z3 z4 z5];exact q
end L2
namespace D
open L2 XO
theorem Abs.forget{K:FG}{H:Hp}{σ:St}{τ:DS}{M:MH}(h:Abs K H σ τ M):Abs K H (List.replicate σ.length none) (List.replicate τ.length none) M:=by
 refine⟨by simp[h.len],λ i w e=>?_,h.mem⟩;rw[List.getElem?_replicate] at e
 split at e<;>cases e
section
variable {X:Cx}{pos np hpos:Pos}{body suite:List Stmt}{b0:Stmt}{hs:List ExceptHandler}{h0:ExceptHandler}{tb:XE->TSd}{th rest:Addr->TSd}{ts:TSd}
def PHd(X:Cx)(hs:List ExceptHandler)(th:Addr->TSd):Prop:=∀ (pins:PN) (σ:St) (H:Hp) (s:Shared) (a:Addr) (D:Ends),Inv X pins σ H s->Air H s.heap a->upS X.K (th a) D σ H->wpAny (model X.prog X.w) X.A (handleBy (.ref a) X.env hs) (SP X pins D) X.xe s
def ah6(tb:XE->TSd)(th:Addr->TSd)(D:Ed)(τ:DS)(M:MH):Prop:=tb (λ a τ' M'=>th a D τ' M') D τ M
theorem aeo(hst:X.stack=X.env::X.outer)(hf:X.env.frame=some X.env.locals)
  (hb:∀ (H0:Hp) (pn:PN) (xe:VP) (E:XE),Lk (X.mL H0 pn xe) E->PassesOwn (model X.prog X.w) X.A X.env xe->mP (X.mL H0 pn xe) body (tb E))(hh:PHd X (h0::hs) th):PSd X (.Try body (h0::hs) [] [] pos) (ah6 tb th):=by
 intro pins s σ H D I h;obtain⟨τ,M,Dd,A,h,k1,k2,k3,k4⟩:=h;refine wpAny_Try_except ?_;refine wpAny_mono (hb (rZ X.H₀ H) (X.pn++pins) (λ e s1=>wpAny (model X.prog X.w) X.A (noteFrame e X.env) (λ _ s2=>wpAny (model X.prog X.w) X.A (setFlight e none) (λ _ s3=>wpAny (model X.prog X.w) X.A (handleBy e X.env (h0::hs)) (SP X pins D) X.xe s3) X.xe s2) X.xe s1)
  (λ a τ' M'=>th a Dd τ' M') (λ pins' σ' H' s' a τ' M' J air ab e=>?_) PassesOwn.looking [] s σ H D I.ahZ ⟨τ,M,Dd,A,h,k1,k2,k3,k4⟩) (λ f s1 q=>?_) λ _ _ z=>z
 ·have J2:=I.yv J;have kp:Kp H H':=⟨λ b xs z=>J.base.tups b xs (yJ z),λ b o u z=>J.base.frzs b o u (yT z)⟩;refine J2.aal J2.ok.frames hst hf air λ s3 J3 air3=>hh pins σ' H' s3 a D J3 air3 ⟨τ',M',Dd,ab,e,λ σ2 H2 τ2 M2 k=>k1 σ2 H2 τ2 M2 (kp.trans k),λ v H2 w M2 k=>k2 v H2 w M2 (kp.trans k),λ σ2 H2 τ2 M2 k=>k3 σ2 H2 τ2 M2 (kp.trans k),λ σ2 H2 τ2 M2 k=>k4 σ2 H2 τ2 M2 (kp.trans k)⟩
 ·cases f with
  | next=>obtain⟨σ',H',J,q⟩:=q;exact wpAny_execs_nil ⟨σ',H',I.yv J,q⟩
  | brk=>obtain⟨σ',H',J,q⟩:=q;exact⟨σ',H',I.yv J,q⟩
  | cont=>obtain⟨σ',H',J,q⟩:=q;exact⟨σ',H',I.yv J,q⟩
  | ret u=>obtain⟨v,σ',H',J,r,q⟩:=q;exact⟨v,σ',H',I.yv J,r,q⟩
def adE(tab:Addr->Option Bool)(i:Nat)(ts:TSd)(rest:Addr->TSd)(a:Addr)(D:Ed)(τ:DS)(M:MH):Prop:=∃ C fs b,M a=some (.exc C fs)/\tab C=some b /\
 if b=true then ts {nx:=λ τ2 M2=>D.nx (List.replicate τ2.length none) M2,rt:=D.rt,bk:=λ τ2 M2=>D.bk (List.replicate τ2.length none) M2,ct:=λ τ2 M2=>D.ct (List.replicate τ2.length none) M2} (τ.set i (some (.m a))) M else rest a D τ M
theorem Air.cls{K:FG}{H:Hp}{h:Heap}{a C:Addr}{M:MH}{fs:List (Str×W)}(air:Air H h a)(m:dJ K H M)(e:M a=some (.exc C fs)):∃ dct vs,h.get? a=some (kh C dct vs):=by obtain⟨C',dct,vs,cc,e1,e2,_,cd⟩:=air;obtain⟨φ,dct',g1,g2,_⟩:=m a _ e;rw[e1] at g1;cases g1;obtain⟨vs',e3,_⟩:=g2 h ⟨vs,e2,cd⟩;exact⟨_,vs',e3⟩
theorem acs(I:Inv X pins σ H s)(hg:Gl X x)(hm:X.mg x=some (.ref D))(he:s.heap.get? a=some (kh C dct vs))
  (ht:W.exmOne X.K (.ref C) (.ref D)=some b)(hdb:ND x)(q:R (.ok (if b then .brk else .next)) s) :
  codeAny (model X.prog X.w) (X.A.mark (some (.ref a))) (.handlers (.ref a) [.ExceptHandler (some (.Name x np)) none [] hpos] X.env) R s:=by
 refine codeAny_handlers_test (jH (X:=X.ib a) (I.ib a) hg hm ?_ hdb);exact(W.exm_one (M:=model X.prog X.w) I.kIn ((W.Looks.ld he).andThen .now) ht).here q
theorem aiy(hg:Gl X x)(hm:X.mg x=some (.ref Dc))(ht:∀ C b,tab C=some b->W.exmOne X.K (.ref C) (.ref Dc)=some b)(hN:X.N.Nodup)(hi:X.N[i]? =some n)(hl:X.env.scope.names.lookup n=some .local)(hk:X.env.scope.kind=.function)
  (hsu:∀ a,mP (X.ib a) (b0::suite) ts)(hr:PHd X hs rest)(hdb:ND x:=by decide):PHd X (.ExceptHandler (some (.Name x np)) (some n) (b0::suite) hpos::hs) (adE tab i ts rest):=by
 intro pins σ H s a Dn I air h;obtain⟨τ,M,Dd,A,⟨C,fs,b,hma,htb,h⟩,k1,k2,k3,k4⟩:=h;obtain⟨dct,vs,he⟩:=Air.cls air A.mem hma;refine wpAny_handleBy_cons (acs I hg hm he (ht C b htb) hdb ?_) (by intro q;cases q);cases b with
 | false=>exact hr pins σ H s a Dn I air ⟨τ,M,Dd,A,h,k1,k2,k3,k4⟩
 | true =>
  rw[if_pos rfl] at h;refine codeAny_handlers_suite_as (air.afE ?_);refine iE (X:=X.ib a) (i:=i) (v:=.ref a) (I.ib a) hN hi (.inl hl) rfl (λ s2 J=>?_) (.inr hl);have gone:∀ {σ3:St} {H3:Hp} {s3:Shared} {Q:Unit->Shared->Prop},Inv (X.ib a) pins σ3 H3 s3->(∀ s4,Inv X pins (List.replicate σ3.length none) H3 s4->Q () s4)->wpAny (model X.prog X.w) X.A (do bindName X.env n .none;unbindBehindTheSuite X.env n hpos) Q X.xe s3:=λ {σ3 H3 s3 Q} J3 q=>by obtain⟨m,hn,_⟩:=J3.loc;refine wpAny_nameGoes hl hn (by rw[hk];rfl) λ h' m' hn' sb=>q _ ((J3.uncaught I.ok).gone hn' sb)
  have ab2:=A.set i (v:=.ref a) (w:=.m a) rfl;refine wpAny_mono (hsu a pins s2 _ H {nx:=λ σ2 H2=>Dn.nx (List.replicate σ2.length none) H2,rt:=Dn.rt,bk:=λ σ2 H2=>Dn.bk (List.replicate σ2.length none) H2,ct:=λ σ2 H2=>Dn.ct (List.replicate σ2.length none) H2} J ⟨_,M,_,ab2,h,λ σ2 H2 τ2 M2 kp A2 q=>?_,λ v H2 w M2 kp r m q=>k2 v H2 w M2 kp r m q,λ σ2 H2 τ2 M2 kp A2 q=>?_,λ σ2 H2 τ2 M2 kp A2 q=>?_⟩) (λ f s3 q=>?_) λ _ _ z=>z.elim
  ·exact k1 _ H2 _ M2 kp A2.forget q
  ·exact k3 _ H2 _ M2 kp A2.forget q
  ·exact k4 _ H2 _ M2 kp A2.forget q
  ·cases f with
   | next=>obtain⟨σ3,H3,J3,q⟩:=q;exact gone J3 λ s4 J4=>⟨_,H3,J4,q⟩
   | brk=>obtain⟨σ3,H3,J3,q⟩:=q;exact gone J3 λ s4 J4=>⟨_,H3,J4,q⟩
   | cont=>obtain⟨σ3,H3,J3,q⟩:=q;exact gone J3 λ s4 J4=>⟨_,H3,J4,q⟩
   | ret u=>obtain⟨v,σ3,H3,J3,r,q⟩:=q;exact gone J3 λ s4 J4=>⟨v,_,H3,J4,r,q⟩
end
theorem afi(I:Inv X pins σ H s)(m:dJ X.K H M)(e:M a=some (.exc C fs)) :
  (∃ ox od,W.InstAt s.heap a ox C od)/\(∀ w,fs.lookup f=some w->∃ v u ox od,aH X.K H w v/\RelV v u/\W.InstAt s.heap a ox C (some od)/\W.lookIn f od=some (some u)):=by
 obtain⟨φ,dct,e1,e2,e3⟩:=m a _ e;obtain⟨vs,hx,_⟩:=e2 s.heap (I.hok a _ e1).1;rcases e3 with ⟨rfl,rfl⟩ | ⟨dx,o,l,rfl,e4,pr⟩
 ·exact⟨⟨_,none,hx,rfl,rfl,True.intro⟩,λ w z=>nomatch z⟩
 ·obtain⟨ho,mA,n1,r1⟩:=I.hok dx _ e4;refine⟨⟨_,some o,hx,rfl,rfl,ho⟩,λ w z=>?_⟩;have g:=qp f pr;rw[z] at g;obtain⟨v,eb,rb⟩:=OR.some_of g;obtain⟨u,hu,ru⟩:=vw.some_of (v:=v) (o:=mA f) (by rw[<- eb];exact r1 f);obtain⟨od,g1,g2⟩:=wq n1;exact⟨v,u,_,od,rb,ru,⟨hx,rfl,rfl,g1⟩,by rw[g2,hu]⟩
def aez:V->Value
 | .ref a=>.ref a
 | .ty n=>.type n
 | _=>.none
def zp:V->Bool
 | .ref _=>true
 | .ty _=>true
 | _=>false
theorem xi:∀ {v:V} {u:Value},zp v=true->RelV v u->u=aez v
 | .ref _,_,_,r=>r
 | .ty _,_,_,r=>r
 | .non,_,h,_=>nomatch h
 | .bl _,_,h,_=>nomatch h
 | .int _,_,h,_=>nomatch h
 | .str _,_,h,_=>nomatch h
 | .byt _,_,h,_=>nomatch h
 | .flt _,_,h,_=>nomatch h
theorem uW:∀ {cs:List V} {us:List Value},(∀ c∈cs,zp c=true)->Vals cs us->us=cs.map aez
 | _,_,_,.nil=>rfl
 | _,_,h,.cons r t=>by rw[xi (h _ (by simp)) r,uW (λ c hc=>h c (by simp[hc])) t];rfl
def IsC(H:Hp)(v:V)(cs:List V):Prop:=cs=[v]\/∃ t,v=.ref t/\H t=some (.tup cs)
def ajg(K:FG)(xs:List V)(H:Hp)(Q:VK):Prop:=∃ a C c cs b M fs,xs=[.ref a,c]/\dJ K H M/\M a=some (.exc C fs)/\IsC H c cs/\(∀ c∈cs,zp c=true)/\XC K C/\W.kitAny K (.ref C) (cs.map aez)=some b/\Q (.bl b) H
theorem aap:eL X (.builtin "isinstance") (ajg X.K):=by
 intro pins s σ H xs us Q I r h;obtain⟨a,C,c,cs,b,M,fs,rfl,m,e,hc,hcs,xc,kb,q⟩:=h;obtain⟨u,w,rfl,r1,r2⟩:=vals2 r;cases (show u=Value.ref a from r1);obtain⟨⟨ox,od,J⟩,_⟩:=afi (f:= "") I m e;have fin:∀ tk,EP X pins σ Q (.bool b) {s with toks:=tk}:=λ tk=>⟨.bl _,H,I.tok _,rfl,q⟩;rcases hc with rfl | ⟨t,rfl,ht⟩
 ·have e1:=xi (hcs c (by simp)) r2;subst e1;have e2:W.kitOne X.K (.ref C) (aez c)=some b:=by
   simp only[List.map_cons,List.map_nil,W.kitAny] at kb
   split at kb
   ·rename_i z;rw[z,kb]
   ·rename_i z;rw[z,kb]
   ·cases kb
  exact W.kia_one (abt xc) I.kIn J e2 (λ z=>nomatch z) fin
 ·cases (show w=Value.ref t from r2);obtain⟨_,its,rv,⟨o,g1,g2,_,n,g3⟩⟩:=I.hok t _ ht;have e1:=uW hcs rv;subst e1;obtain⟨c1,c2,c3,c4⟩:=o;cases g2;cases g3;exact W.kia_tup (abt xc) I.kIn J g1 kb (λ z=>nomatch z) fin
def ab3(tab:Addr->Option Bool)(td:TD)(τ:DS)(M:MH)(Q:QD):Prop:=td τ M λ w M1=>∃ a C fs b,w=.m a/\M1 a=some (.exc C fs)/\tab C=some b/\Q (.d (.bool b)) M1
def CTm(cs:List V)(tc:TE):Prop:=∀ σ H (Q:VK),(∀ v H',(∀ b u,H b=some u->H' b=some u)->IsC H' v cs->Q v H')->tc σ H Q
theorem wc(v:V):CTm [v] (tC v):=λ σ H Q h=>h v H (λ _ _ z=>z) (.inl rfl)
theorem ade(h:∀ σ H (Q:List V->Hp->Prop),Q cs H->t σ H Q)(hz:cs.length<=1000):CTm cs (ai6 t):=λ σ H Q k=>h σ H _ ⟨by have:=s16;omega,λ p hp=>k (.ref p) _ (λ b u z=>by rw[aO (bo z hp)];exact z) (.inr ⟨p,rfl,aP⟩)⟩
theorem xg(ht:∀ C b,tab C=some b->XC X.K C/\W.kitAny X.K (.ref C) (cs.map aez)=some b)(hcs:(cs.all zp)=true)(hg:Gl X "isinstance")(hm:X.mg "isinstance" = none)(ho:PD X o td)(hc:PE X ce tc)(ct:CTm cs tc)
  (h1:fu o=false:=by rfl)(h2:fu ce=false:=by rfl):PD X (.Call (.Name "isinstance" p) [o,ce] [] pos) (ab3 tab td):=by
 refine fS (uP aap hg hm aY (oJ ho (oJ hc wj (cq ce [] X.env h2)) (cq o [ce] X.env h1)) (by decide) (by decide) (cq o [ce] X.env h1) (d3 pos X.env [ce] (by simp[h2]))) λ σ H Q h=>?_;obtain⟨τ,M,Qd,A,h,k⟩:=h;refine⟨τ,M,_,A,h,λ v H1 w M1 kp r m hq76=>?_⟩;obtain⟨a,C,fs,b,ew,hma,htb,q⟩:=hq76;subst ew;cases (show v=.ref a from r);refine ct σ H1 _ λ c H2 st ic=>?_;obtain⟨xc,kb⟩:=ht C b htb;have kp2:Kp H1 H2:=⟨λ b xs z=>st b _ z,λ b o u z=>st b _ z⟩;have m2:dJ X.K H2 M1:=λ b mo z=>(m b mo z).keep kp2 λ u y=>st b u y;exact⟨a,C,c,cs,b,M1,fs,rfl,m2,hma,ic,λ c hc=>List.all_eq_true.mp hcs c hc,xc,kb,k (.bl b) H2 (.d (.bool b)) M1 (kp.trans kp2) rfl m2 q⟩
theorem oo:bootBuiltins "ValueError" = some (.type "ValueError"):=by decide +kernel
def zu(l:List (Addr×Bool))(C:Addr):Option Bool:=l.lookup C
inductive pE(P:Addr->Bool->Prop):List (Addr×Bool)->Prop
 | nil:pE P []
 | cons {a:Addr} {b:Bool} {l:List (Addr×Bool)}:P a b->pE P l->pE P ((a,b)::l)
theorem pE.of(h:pE P l):∀ C b,zu l C=some b->P C b:=by
 induction h with
 | nil=>intro C b z;cases z
 | @cons a b l p _ ih =>
  intro C b' z;unfold zu at z ih;rw[List.lookup_cons] at z
  split at z
  ·rename_i e
   cases z;rw[beq_iff_eq.mp e];exact p
  ·exact ih C b' z
def PCs(X:Cx)(es:List Expr)(cs:List V):Prop:=(∃ t,PA X es t/\∀ σ H (Q:List V->Hp->Prop),Q cs H->t σ H Q)/\(cs.all zp)=true
theorem adG:PCs X [] []:=⟨⟨_,wj,λ σ H Q q=>q⟩,rfl⟩
theorem oV(hg:Gl X x)(hm:X.mg x=some (.ref C))(r:PCs X es cs)(hd:ND x:=by decide):PCs X (.Name x p::es) (.ref C::cs):=by obtain⟨⟨t,h1,h2⟩,h3⟩:=r;exact⟨⟨_,oJ (fM (v:=.ref C) hg hm rfl hd) h1,λ σ H Q q=>h2 σ H _ q⟩,by rw[List.all_cons,h3];rfl⟩
section
variable {X:Cx}{pos p p' apos cpos np hpos:Pos}{k:Nat}{f C:Addr}{fd:FuncData}{ps fs:List Str}{sp:SpX}{x m n:Str}{e o:Expr}{es:List Expr}{t:TAd}{td:TD}{E:XE}
theorem aiv(L:Lk X E)(F:cU X.prog X.w X.K X.mg X.base (CXE X.prog X.w) k f fd ps (oz X.K sp))(hr:gm k X.A)(hg:Gl X x)(hm:X.mg x=some (.ref f))(hk:W.keepIn X.K (.ref f)=true)(hb:L2.Binds X.K fd ps [])
  (ha:Jd (PAd X (e::es) t))(hdb:ND x:=by decide)(h1:fu e=false:=by rfl)(h2:(es.all λ e=>!fu e)=true:=by rfl) :
  Jd (PD X (.Call (.Name x p) (e::es) [] pos) (u7 sp E t)):=⟨have ha:=ha.h;by
 intro pins s σ H Q I h;obtain⟨τ,M,Qd,A,h,k⟩:=h;refine wpAny_Call_Name_kw (jH I hg hm ?_ hdb);refine W.callWith_K (h₀:=X.base) I.ok.mod.kin hk (thn (ha pos pins s σ H (λ vs H1=>∃ ws M1,Kp H H1/\bQ X.K H1 ws vs/\dJ X.K H1 M1/\sp ws M1 Qd λ a M'=>E a τ M') I ⟨τ,M,_,A,h,λ vs H1 ws M1 kp r m q=>⟨ws,M1,kp,r,m,q⟩⟩) λ us s1 ⟨vs,H1,I1,r,ws,M1,kp,rw,m1,q⟩=>⟨I1.kIn,?_⟩) (cq e es X.env h1) (d3 pos X.env es h2);refine acv (E:=λ v _ H'=>∃ a M',v=.ref a/\Kp H1 H'/\dJ X.K H' M'/\E a τ M') F hr hb I1 r ⟨ws,M1,Qd,_,rw,m1,q,kgo k kp,λ a H' M' kp' m' e'=>⟨a,M',rfl,kp',m',e'⟩⟩ λ u s' hx=>aeb L I1 (A.go kp m1) (λ v H' z=>z) hx⟩
variable {body suite:List Stmt}{b0:Stmt}{hs:List ExceptHandler}{h0:ExceptHandler}{tb:XE->TSd}{th rest:Addr->TSd}{ts:TSd}
theorem aa6(hst:X.stack=X.env::X.outer)(hf:X.env.frame=some X.env.locals)
  (hb:∀ (H0:Hp) (pn:PN) (xe:VP) (E:XE),Lk (X.mL H0 pn xe) E->PassesOwn (model X.prog X.w) X.A X.env xe->Jd (mP (X.mL H0 pn xe) body (tb E)))(hh:Jd (PHd X (h0::hs) th)):Jd (PSd X (.Try body (h0::hs) [] [] pos) (ah6 tb th)):=
 ⟨D.aeo hst hf (λ H0 pn xe E l p=>(hb H0 pn xe E l p).h) hh.h⟩
theorem aai:Jd (PHd X hs (λ _ _ _ _=>False)):=⟨λ pins σ H s a D I air ⟨τ,M,Dd,_,h,_⟩=>h.elim⟩
theorem afs(hg:Gl X x)(hm:X.mg x=some (.ref Dc))(ht:pE (λ C b=>W.exmOne X.K (.ref C) (.ref Dc)=some b) l)(hN:X.N.Nodup)(hi:X.N[i]? =some n)(hl:X.env.scope.names.lookup n=some .local)(hk:X.env.scope.kind=.function)
  (hsu:∀ a,Jd (mP (X.ib a) (b0::suite) ts))(hr:Jd (PHd X hs rest))(hdb:ND x:=by decide):Jd (PHd X (.ExceptHandler (some (.Name x np)) (some n) (b0::suite) hpos::hs) (adE (zu l) i ts rest)):=
 ⟨D.aiy hg hm ht.of hN hi hl hk (λ a=>(hsu a).h) hr.h hdb⟩
theorem zz(hm:X.mg "isinstance" = none)(ht:pE (λ C b=>XC X.K C/\W.kitAny X.K (.ref C) [.ref Dc]=some b) l)(hg:Gl X x)(hx:X.mg x=some (.ref Dc))(ho:Jd (PD X o td))(hgi:Gl X "isinstance":= by rfl)
  (hdb:ND x:=by decide)(h1:fu o=false:=by rfl):Jd (PD X (.Call (.Name "isinstance" p) [o,.Name x p'] [] pos) (ab3 (zu l) td)):=
 ⟨D.xg (cs:=[.ref Dc]) ht.of rfl hgi hm ho.h (fM (v:=.ref Dc) hg hx rfl hdb) (wc _) h1 rfl⟩
theorem zM(hm:X.mg "isinstance" = none)(ht:pE (λ C b=>XC X.K C/\W.kitAny X.K (.ref C) [.type T]=some b) l)(hg:Gl X x)(hx:X.mg x=none)(hv:bootBuiltins x=some (.type T))(ho:Jd (PD X o td))(hgi:Gl X "isinstance":= by rfl)
  (hn:x ≠ "__name__":= by decide)(hdb:ND x:=by decide)(h1:fu o=false:=by rfl):Jd (PD X (.Call (.Name "isinstance" p) [o,.Name x p'] [] pos) (ab3 (zu l) td)):=
 ⟨D.xg (cs:=[.ty T]) ht.of rfl hgi hm ho.h (xm (v:=.ty T) hg hx hv rfl hn hdb) (wc _) h1 rfl⟩
theorem zO{x1}(hm:X.mg "isinstance" = none)(ht:pE (λ C b=>XC X.K C/\W.kitAny X.K (.ref C) (cs.map aez)=some b) l)(hc:PCs X es cs)(ho:Jd (PD X o td))(hz:cs.length<=1000:=by decide)(hgi:Gl X "isinstance":= by rfl)
  (h1:fu o=false:=by rfl):Jd (PD X (.Call (.Name "isinstance" p) [o,.Tuple es x1 p'] [] pos) (ab3 (zu l) td)):=by
 obtain⟨⟨t,g1,g2⟩,g3⟩:=hc;exact⟨D.xg (cs:=cs) ht.of g3 hgi hm ho.h (abG g1) (ade g2 hz) h1 rfl⟩
end
section
variable {X:Cx}{K:FG}
end
section
variable {X:Cx}{K:FG}
def sU(d:PyData)(ds:List PyData):Bool:=sh d&&sh (.list ds)
def inA(d:PyData)(ds:List PyData):Bool:=ds.any λ y=>PyData.eqv y d
theorem lJ(hr:l4 k A)(h:SeqAt.shaped d=true):A.units+1+min (PyData.depthAll ds) d.depth<cLine:=by have h1:=SeqAt.depth_of_shaped h;have h2:min (PyData.depthAll ds) d.depth<=d.depth:=Nat.min_le_right _ _;have:=hr.un;omega
theorem afv(hr:l4 k X.A):OpR X (compareOp .In) (λ x y H Q=>∃ d ds,j7 X.K H d x/\(j7 X.K H (.list ds) y\/aB X.K H (.tuple ds) y)/\sU d ds=true/\Q (.bl (inA d ds)) H):=by
 intro pins s σ H x y v u Q I rx ry h;obtain⟨d,ds,h1,h2,o,q⟩:=h;simp only[sU,sh,Bool.and_eq_true,Bool.not_eq_true'] at o;obtain⟨⟨o1,o2⟩,o3,o4⟩:=o;obtain⟨as,r1⟩:=dh I d h1 rx o2;have c3:=SeqAt.canLay_of_shaped o3;rcases h2 with h2 | h2
 ·obtain⟨bs,r2⟩:=dh I (.list ds) h2 ry o4;exact SeqAt.in_list_reads r2 r1 c3 (SeqAt.canLay_of_shaped o1) (lJ hr o1) ⟨.bl _,H,I,rfl,q⟩
 ·obtain⟨bs,r2⟩:=dM I (.tuple ds) h2 ry o4;exact SeqAt.in_tuple_reads r2 r1 c3 (SeqAt.canLay_of_shaped o1) (lJ hr o1) ⟨.bl _,H,I,rfl,q⟩
theorem yM(hr:l4 k X.A):OpR X (compareOp .NotIn) (λ x y H Q=>∃ d ds,j7 X.K H d x/\(j7 X.K H (.list ds) y\/aB X.K H (.tuple ds) y)/\sU d ds=true/\Q (.bl (!inA d ds)) H):=by
 intro pins s σ H x y v u Q I rx ry h;obtain⟨d,ds,h1,h2,o,q⟩:=h;simp only[sU,sh,Bool.and_eq_true,Bool.not_eq_true'] at o;obtain⟨⟨o1,o2⟩,o3,o4⟩:=o;obtain⟨as,r1⟩:=dh I d h1 rx o2;have c3:=SeqAt.canLay_of_shaped o3;rcases h2 with h2 | h2
 ·obtain⟨bs,r2⟩:=dh I (.list ds) h2 ry o4;exact SeqAt.notIn_list_reads r2 r1 c3 (SeqAt.canLay_of_shaped o1) (lJ hr o1) ⟨.bl _,H,I,rfl,q⟩
 ·obtain⟨bs,r2⟩:=dM I (.tuple ds) h2 ry o4;exact SeqAt.notIn_tuple_reads r2 r1 c3 (SeqAt.canLay_of_shaped o1) (lJ hr o1) ⟨.bl _,H,I,rfl,q⟩
def aac(neg:Bool)(w w':W)(M:MH)(Q:QD):Prop:=∃ d ds,wa M w d/\(wa M w' (.list ds)\/w'=.d (.tuple ds))/\sU d ds=true/\Q (.d (.bool (xor neg (inA d ds)))) M
theorem adq:OpD K (λ x y H Q=>∃ d ds,j7 K H d x/\(j7 K H (.list ds) y\/aB K H (.tuple ds) y)/\sU d ds=true/\Q (.bl (inA d ds)) H) (aac false):=by
 intro x y H w w' M Qd Q r1 r2 m ⟨d,ds,g1,g2,o,q⟩ k;refine⟨d,ds,g1.sound r1 m,?_,o,k _ H (.d (.bool _)) M (Kp.refl H) (by simp[aH,aB]) m q⟩;rcases g2 with g2 | rfl
 ·exact .inl (g2.sound r2 m)
 ·exact .inr r2
theorem vR:OpD K (λ x y H Q=>∃ d ds,j7 K H d x/\(j7 K H (.list ds) y\/aB K H (.tuple ds) y)/\sU d ds=true/\Q (.bl (!inA d ds)) H) (aac true):=by
 intro x y H w w' M Qd Q r1 r2 m ⟨d,ds,g1,g2,o,q⟩ k;refine⟨d,ds,g1.sound r1 m,?_,o,k _ H (.d (.bool (!inA d ds))) M (Kp.refl H) (by simp[aH,aB]) m (by simpa using q)⟩;rcases g2 with g2 | rfl
 ·exact .inl (g2.sound r2 m)
 ·exact .inr r2
end
def pL(v:Value):PyData->Bool
 | .str z=>match v with
  | .str x _=>decide (x=z)
  | _=>false
 | .int i=>match v with
  | .int j _=>decide (j=i)
  | _=>false
 | .bool b=>match v with
  | .bool c=>c==b
  | _=>false
 | _=>false
def kg:List Value->List PyData->Bool
 | [],[]=>true
 | v::vs,d::ds=>pL v d&&kg vs ds
 | _,_=>false
def sM(K:FG)(v:Value):PyData->Bool
 | .tuple ds=>match v with
  | .ref a=>match K.lookup a with
   | some o=>(match o.cls with
    | .type n=>decide (n = "tuple")
    | _=>false)&&o.dict.isNone&&(match o.data with
    | .seq its _=>decide (its.size<=100)&&kg its.toList ds
    | _=>false)
   | none=>false
  | _=>false
 | d=>pL v d
theorem uK(h:pL v d=true):∃ x,RelV x v/\∀ K H,aB K H d x:=by
 cases d with
 | str z =>
  cases v with
  | str x t =>
   have e:x=z:=of_decide_eq_true h;subst e;exact⟨.str x,⟨t,rfl⟩,λ K H=>by simp[aB]⟩
  | _=>cases h
 | int i =>
  cases v with
  | int j t =>
   have e:j=i:=of_decide_eq_true h;subst e;exact⟨.int j,⟨t,rfl⟩,λ K H=>by simp[aB]⟩
  | _=>cases h
 | bool b =>
  cases v with
  | bool c =>
   have e:c=b:=eq_of_beq h;subst e;exact⟨.bl c,rfl,λ K H=>by simp[aB]⟩
  | _=>cases h
 | _=>cases h
theorem rU:∀ {vs:List Value} {ds:List PyData},kg vs ds=true->∃ xs,Vals xs vs/\∀ K H,bD K H ds xs
 | [],[],_=>⟨[],.nil,λ K H=>by simp[bD]⟩
 | v::vs,d::ds,h=>by simp only[kg,Bool.and_eq_true] at h;obtain⟨x,h1,h2⟩:=uK h.1;obtain⟨xs,h3,h4⟩:=rU h.2;exact⟨x::xs,.cons h1 h3,λ K H=>by simp only[bD];exact⟨x,xs,rfl,h2 K H,h4 K H⟩⟩
 | [],_::_,h=>by cases h
 | _::_,[],h=>by cases h
theorem yQ{K:FG}{v:Value}{d:PyData}(h:sM K v d=true):∃ x,RelV x v/\∀ H,aB K H d x:=by
 have atom:pL v d=true->∃ x,RelV x v/\∀ H,aB K H d x:=λ h=>by obtain⟨x,h1,h2⟩:=uK h;exact⟨x,h1,h2 K⟩
 cases d with
 | tuple ds =>
  cases v with
  | ref a =>
   simp only[sM] at h;cases e:K.lookup a with
   | none=>rw[e] at h;cases h
   | some o =>
    rw[e] at h;simp only[Bool.and_eq_true] at h;obtain⟨⟨h1,h0⟩,h2⟩:=h;have hd:o.dict=none:=by simpa using h0
    have hc:o.cls=.type "tuple":= by
     cases q:o.cls with
     | type n=>rw[q] at h1;rw[of_decide_eq_true h1]
     | _=>rw[q] at h1;cases h1
    cases q:o.data with
    | seq its n =>
     rw[q] at h2;simp only[Bool.and_eq_true,decide_eq_true_eq] at h2;obtain⟨xs,h3,h4⟩:=rU h2.2;refine⟨.ref a,rfl,λ H=>?_⟩;simp only[aB];exact⟨a,xs,rfl,.inr ⟨o,its,n,e,hc,hd,q,few (by omega),h3⟩,h4 K H⟩
    | _=>rw[q] at h2;cases h2
  | _=>cases h
 | str z=>exact atom h
 | int i=>exact atom h
 | none=>exact atom h
 | bool b=>exact atom h
 | list ds=>exact atom h
 | dict kvs=>exact atom h
def oE(K:FG):List DictEntry->List (Str×PyData)->Bool
 | [],[]=>true
 | e::es,(k,d)::kvs=>pL e.key (.str k)&&sM K e.val d&&oE K es kvs
 | _,_=>false
def acK(K:FG)(a:Addr)(kvs:List (Str×PyData)):Bool:=match K.lookup a with
 | some o=>(match o.cls with
  | .type n=>decide (n = "dict")
  | _=>false)&&o.dict.isNone&&decide (o.slots.size=0)&&(match o.data with
  | .dict es _=>oE K es.toList kvs
  | _=>false)
 | none=>false
def hashesOf(K:FG)(a:Addr):Option (List Int):=match K.lookup a with
 | some o=>match o.data with
  | .dict es _=>some (es.toList.map (·.hash))
  | _=>none
 | none=>none
structure gx(w:World)(K:FG)(a:Addr)(kvs:List (Str×PyData)):Prop where
 is:acK K a kvs=true
 hs:hashesOf K a=some (kvs.map λ p=>PyData.keyHash w.params p.1)
 nd:(kvs.map (·.1)).Nodup
 ns:(a==sysModules)=false
theorem uQ{P:Program}{w:World}{K:FG}:∀ {es:List DictEntry} {kvs:List (Str×PyData)},oE K es kvs=true->es.map (·.hash)=kvs.map (λ p=>PyData.keyHash w.params p.1) ->
  ∃ (L:List (Key×V)) (vs:List (Key×Value)),KV L vs/\Pairs (a9 P w) es vs/\(∀ e∈es,∃ k,(a9 P w).is k e.key=true/\e.hash=(a9 P w).hash k)/\vs.map (·.1)=kvs.map (λ p=>(.inr p.1:Key))/\Paired (λ(p:Str×PyData) (q:Key×V)=>q.1=.inr p.1/\∀ H,aB K H p.2 q.2) kvs L
 | [],[],_,_=>⟨[],[],.nil,.nil,(λ e he=>by cases he),rfl,.nil⟩
 | e::es,(k,d)::kvs,h,hh=>by
  simp only[oE,Bool.and_eq_true] at h;obtain⟨⟨h1,h2⟩,h3⟩:=h;rw[List.map_cons,List.map_cons] at hh;obtain⟨hh1,hh2⟩:=List.cons.inj hh;obtain⟨L,vs,i1,i2,i3,i4,i5⟩:=uQ (P:=P) (w:=w) h3 hh2;obtain⟨x,r1,r2⟩:=yQ h2;have hk:nM (.inr k) e.key=true:=by
   cases q:e.key with
   | str y t =>
    rw[q] at h1;have ey:y=k:=of_decide_eq_true h1;subst ey;show Value.isStrOf y (.str y t)=true;simp[Value.isStrOf]
   | _=>rw[q] at h1;cases h1
  refine⟨(.inr k,x)::L,(.inr k,e.val)::vs,.cons ⟨rfl,r1⟩ i1,.cons hk rfl i2,λ e' he'=>?_,by rw[List.map_cons,i4];rfl,.cons ⟨rfl,r2⟩ i5⟩;rcases List.mem_cons.mp he' with rfl | he'
  ·exact⟨.inr k,hk,hh1⟩
  ·exact i3 e' he'
 | [],_::_,h,_=>by cases h
 | _::_,[],h,_=>by cases h
theorem gx.dd(D:gx X.w X.K a kvs)(I:Inv X pins σ H s):∃ (L:List (Key×V)) (vs:List (Key×Value)),KV L vs/\s.heap.DictOf (a9 X.prog X.w) a vs/\Paired (λ(p:Str×PyData) (q:Key×V)=>q.1=.inr p.1/\∀ H,aB X.K H p.2 q.2) kvs L:=by
 have h:=D.is;have hs:=D.hs;unfold acK at h;unfold hashesOf at hs;cases e:X.K.lookup a with
 | none=>rw[e] at h;cases h
 | some o =>
  rw[e] at h hs;simp only[Bool.and_eq_true] at h hs;obtain⟨⟨⟨h1,h2⟩,h3⟩,h4⟩:=h;have hc:o.cls=.type "dict":= by
   cases q:o.cls with
   | type n=>rw[q] at h1;rw[of_decide_eq_true h1]
   | _=>rw[q] at h1;cases h1
  have hd:o.dict=none:=by simpa using h2
  have hsl:o.slots = #[]:=Array.eq_empty_of_size_eq_zero (of_decide_eq_true h3);cases q:o.data with
  | dict es n =>
   rw[q] at h4 hs;obtain⟨L,vs,i1,i2,i3,i4,i5⟩:=uQ (P:=X.prog) (w:=X.w) h4 (Option.some.inj hs);refine⟨L,vs,i1,⟨o,es,n,I.kIn a o e,⟨hc,hd,hsl⟩,q,λ e' he'=>i3 e' (by simpa using he'),i2,?_⟩,i5⟩;rw[i4,show(kvs.map λ p=>(.inr p.1:Key))=(kvs.map (·.1)).map Sum.inr from by simp];exact List.Pairwise.map Sum.inr (λ a b h z=>h (Sum.inr.inj z)) D.nd
  | _=>rw[q] at h4;cases h4
def bY(kvs:List (Str×PyData))(z:Str):Option PyData:=(kvs.find? λ p=>decide (p.1=z)).map (·.2)
theorem gy{K:FG}(z:Str):∀ {kvs:List (Str×PyData)} {L:List (Key×V)},Paired (λ(p:Str×PyData) (q:Key×V)=>q.1=.inr p.1/\∀ H,aB K H p.2 q.2) kvs L->OR (λ d v=>∀ H,aB K H d v) (bY kvs z) (mS L (.inr z))
 | _,_,.nil=>True.intro
 | _,_,.cons (a:=p) (b:=q) (l₁:=t1) h t=>by
  obtain⟨h1,h2⟩:=h
  by_cases e:p.1=z
  ·rw[iz (h1.trans (by rw[e])),show bY (p::t1) z=some p.2 by simp[bY,List.find?_cons,e]];exact h2
  ·rw[jj (λ y=>e (Sum.inr.inj (h1.symm.trans y))),show bY (p::t1) z=bY t1 z by simp[bY,List.find?_cons,e]];exact gy z t
def ahU(K:FG)(kvs:List (Str×PyData))(ty:TE):TE:=λ σ H Q=>ty σ H λ y H1=>∃ z,y=.str z/\∀ v,(∀ H,aB K H ((bY kvs z).getD .none) v)->Q v H1
theorem ack(hg:Gl X x)(hm:X.mg x=some (.ref a))(kd:gx X.w X.K a kvs)(he:PE X e ty)(m:M1 X (.Name x p) "get" apos e cpos)(hd:ND x:=by decide):PE X (.Call (.Attribute (.Name x p) "get" apos) [e] [] cpos) (ahU X.K kvs ty):=by
 intro pins s σ H Q I h;refine wpAny_Call_method m.base m.few m.line PySem.F.plainAttrs_dict PySem.F.slot_dict_get PySem.F.type_dict_get (thn (fM (v:=.ref a) hg hm rfl hd pins s σ H (λ v H'=>v=.ref a/\H'=H) I ⟨rfl,rfl⟩) λ u s1 hq77=>?_);obtain⟨x1,H1,I1,rx,ex,eH⟩:=hq77;subst ex eH;obtain rfl:u=Value.ref a:=rx;obtain⟨L,vs,rel,dd,pr⟩:=kd.dd I1;refine⟨dd.typeIs,λ b q=>?_,?_⟩
 ·cases q;obtain⟨ob,_,_,h1,h2,_⟩:=dd;exact⟨ob,h1,h2.2.1⟩
 rw[m.trees];refine Calls.callWith_builtin rfl (Calls.evalArgs_plain (Calls.spliced_cons (thn (he pins s1 σ H1 _ I1 h) λ iv s2 ⟨y,H2,I2,ry,z,ey,q2⟩=>Calls.spliced_nil ?_)));subst ey;obtain⟨L,vs,rel,dd,pr⟩:=kd.dd I2;have lv:=gy z pr;refine call_meetsIn PySem.F.slot_dict_get dd.typeIs PySem.F.entry_dict_get (PySem.F.args_dict_get_2 _ _) (meets_dict_get (a9 X.prog X.w) a (oI (k:=.inr z) ry) kd.ns) ⟨_,dd.mapOf,?_⟩;refine⟨(mS L (.inr z)).getD .non,H2,I2.tok _,(rel.val (.inr z)).getD rfl,q2 _ λ H=>?_⟩;cases q:bY kvs z with
 | none =>
  rw[q] at lv;rw[OR.none_of lv];simp[aB]
 | some d =>
  rw[q] at lv;obtain⟨b,eb,rb⟩:=OR.some_of lv;rw[eb];exact rb H
def vy(kvs:List (Str×PyData))(te:TD)(τ:DS)(M:MH)(Q:QD):Prop:=te τ M λ w M1=>∃ z,w=.d (.str z)/\Q (.d ((bY kvs z).getD .none)) M1
theorem aaR(hg:Gl X x)(hm:X.mg x=some (.ref a))(kd:gx X.w X.K a kvs)(he:PD X e te)(m:M1 X (.Name x p) "get" apos e cpos:=by exact⟨rfl,rfl,rfl,rfl⟩)(hd:ND x:=by decide):PD X (.Call (.Attribute (.Name x p) "get" apos) [e] [] cpos) (vy kvs te):=
 fS (ack hg hm kd he m hd) λ σ H Q h=>by obtain⟨τ,M,Qd,A,h,k⟩:=h;refine⟨τ,M,_,A,h,λ y H1 w M1 kp r m1 hq78=>?_⟩;obtain⟨z,ew,q⟩:=hq78;subst ew;simp only[aH,aB] at r;exact⟨z,r,λ v hv=>k _ H1 (.d _) M1 kp (hv H1) m1 q⟩
def ajx(K:FG)(kvs:List (Str×PyData))(ty:TE):TE:=λ σ H Q=>ty σ H λ y H1=>∃ z d,y=.str z/\bY kvs z=some d/\∀ v,(∀ H,aB K H d v)->Q v H1
theorem ag7(hg:Gl X x)(hm:X.mg x=some (.ref a))(kd:gx X.w X.K a kvs)(he:PE X e ty)(hs:acj e)(hd:ND x:=by decide):PE X (.Subscript (.Name x p) e pos) (ajx X.K kvs ty):=by intro pins s σ H Q I h;refine zq PySem.F.slot_dict_getitem.lookup hs (thn (fM (v:=.ref a) hg hm rfl hd pins s σ H (λ v H'=>v=.ref a/\H'=H) I ⟨rfl,rfl⟩) λ u s1 hq79=>?_);obtain⟨x1,H1,I1,rx,ex,eH⟩:=hq79;subst ex eH;obtain rfl:u=Value.ref a:=rx;refine thn (he pins s1 σ H1 _ I1 h) λ iv s2 hq80=>?_;obtain⟨y,H2,I2,ry,z,d,ey,l,q2⟩:=hq80;subst ey;obtain⟨L,vs,rel,dd,pr⟩:=kd.dd I2;have lv:=gy z pr;rw[l] at lv;obtain⟨b,eb,rb⟩:=OR.some_of lv;obtain⟨w',hw,rw'⟩:=vw.some_of (v:=b) (o:=valueAt vs (.inr z)) (by rw[<- eb];exact rel.val (.inr z));exact⟨dd.typeIs,wpAny_getItem_of (oI (k:=.inr z) ry) dd.mapOf hw ⟨b,H2,I2.tok _,rw',q2 b rb⟩⟩
def agQ(kvs:List (Str×PyData))(te:TD)(τ:DS)(M:MH)(Q:QD):Prop:=te τ M λ w M1=>∃ z d,w=.d (.str z)/\bY kvs z=some d/\Q (.d d) M1
theorem aep(hg:Gl X x)(hm:X.mg x=some (.ref a))(kd:gx X.w X.K a kvs)(he:PD X e te)(hs:acj e:=by exact λ _ _=>rfl)(hd:ND x:=by decide):PD X (.Subscript (.Name x p) e pos) (agQ kvs te):=
 fS (ag7 hg hm kd he hs hd) λ σ H Q h=>by obtain⟨τ,M,Qd,A,h,k⟩:=h;refine⟨τ,M,_,A,h,λ y H1 w M1 kp r m1 hq81=>?_⟩;obtain⟨z,d,ew,l,q⟩:=hq81;subst ew;simp only[aH,aB] at r;exact⟨z,d,r,l,λ v hv=>k _ H1 (.d d) M1 kp (hv H1) m1 q⟩
theorem xZ{ds:List PyData}(hg:Gl X x)(hm:X.mg x=some (.ref a))(ht:sM X.K (.ref a) (.tuple ds)=true)(hd:ND x:=by decide):PD X (.Name x pos) (dC (.d (.tuple ds))):=
 abM (fM (v:=.ref a) hg hm rfl hd) λ H=>by
  obtain⟨y,h1,h2⟩:=yQ ht;have e:y=.ref a:=by have h3:=h2 H;simp only[aB] at h3;obtain⟨c,_,e,_⟩:=h3;subst e;have:(Value.ref a)=.ref c:=h1;cases this;rfl
  rw[<- e];exact h2 H
theorem ki(hg:Gl X x)(hm:X.mg x=some (.ref a))(kd:gx X.w X.K a kvs)(he:Jd (PD X e te))(m:M1 X (.Name x p) "get" apos e cpos:=by exact⟨rfl,rfl,rfl,rfl⟩)(hd:ND x:=by decide):Jd (PD X (.Call (.Attribute (.Name x p) "get" apos) [e] [] cpos) (vy kvs te)):=⟨_root_.D.aaR hg hm kd he.h m hd⟩
theorem tS(hg:Gl X x)(hm:X.mg x=some (.ref a))(kd:gx X.w X.K a kvs)(he:Jd (PD X e te))(hs:acj e:=by exact λ _ _=>rfl)(hd:ND x:=by decide):Jd (PD X (.Subscript (.Name x p) e pos) (agQ kvs te)):=⟨_root_.D.aep hg hm kd he.h hs hd⟩
theorem xh(hg:Gl X x)(hm:X.mg x=some (.ref a))(ht:sM X.K (.ref a) (.tuple ds)=true)(hd:ND x:=by decide):Jd (PD X (.Name x pos) (dC (.d (.tuple ds)))):=⟨_root_.D.xZ hg hm ht hd⟩
def aiz:V->List V->Hp->VK->Prop:=λ x vs H Q=>∃ a c kvs more,x=.ref a/\vs=[.ref c]/\H a=some (.dK kvs)/\Rd H c (.dK more)/\a≠c/\kvs.length+more.length<=sizeLine/\Q .non (upd H a (.dK (gb kvs more)))
theorem aee:MtM X "dict.update" aiz:=by intro pins s σ H x vs v us Q I rx rv h;obtain⟨a,c,kvs,more,rfl,rfl,ha,hc,ne,hz,q⟩:=h;cases rx;obtain⟨u,rfl,ru⟩:=rv.one;cases ru;obtain⟨_,hd,ws,rel,dd⟩:=adM I.hok ha;obtain⟨_,hd2,ws2,rel2,dd2⟩:=vH I.hok hc;refine call_meetsIn PySem.F.slot_dict_update dd.typeIs PySem.F.entry_dict_update (PySem.F.args_dict_update_2 _ _) (meets_dict_update (a9 X.prog X.w) a c ne hd2) ⟨ws,ws2,dd,dd2,by rw[<- rel.length,<- rel2.length];exact hz,λ h' dd' _ sb=>?_⟩;have hl:=fK more kvs;have he:∃ q,h'.get? a=some q:=let ⟨q,_,_,hq,_⟩:=dd'; ⟨q,hq⟩;exact⟨.non,_,x6 (t':=s.toks) I (by rw[ha];exact True.intro) sb he (abl (by omega) hd (KV.merge rel2 rel) dd'),rfl,q⟩
def aaP(td te:TD)(τ:DS)(M:MH)(Q:QD):Prop:=td τ M λ w M1=>∃ a kv0,w=.m a/\M1 a=some (.dic kv0)/\te τ M1 λ y M2=>∃ kvs,∃ more:List (Key×PyData),M2 a=some (.dic kvs)/\y=.d (.dict (more.map λ p=>(qU p.1,p.2)))/\((kvs.map (·.1))++more.map (·.1)).Nodup/\kvs.length+more.length<=sizeLine/\Q (.d .none) (dR M2 a (.dic (kvs++cD more)))
theorem il{α β:Type}{R:α->β->Prop}{κ:Type}:∀ {l:List (κ×α)} {m:List (κ×β)},Paired (λ(p:κ×α) (q:κ×β)=>p.1=q.1/\R p.2 q.2) l m->l.map (·.1)=m.map (·.1)
 | _,_,.nil=>rfl
 | _,_,.cons h t=>by rw[List.map_cons,List.map_cons,h.1,il t]
theorem nC:∀ {l l2:List α} {m m2:List β},Paired R l m->Paired R l2 m2->Paired R (l++l2) (m++m2)
 | _,_,_,_,.nil,h=>h
 | _,_,_,_,.cons a b,h=>.cons a (nC b h)
theorem mO{K:FG}{H:Hp}:∀ {l:List (Key×PyData)} {m:List (Key×V)},Paired (λ(p:Key×PyData) (q:Key×V)=>p.1=q.1/\aB K H p.2 q.2) l m->Paired (λ(p:Key×W) (q:Key×V)=>p.1=q.1/\aH K H p.2 q.2) (l.map λ p=>(p.1,W.d p.2)) m
 | _,_,.nil=>.nil
 | _,_,.cons a b=>.cons ⟨a.1,a.2⟩ (mO b)
theorem nW(ho:Jd (PD X o td))(he:Jd (PD X e te))
  (hbase:attributeBase o "update" X.env (eval o X.env)=eval o X.env:=by rfl)
  (hfew:((backTo cpos (starEach [e] X.env)).all (λ x=>!x.1)&&(backToKw cpos (keywordEach [] X.env)).all (λ x=>x.1.isSome)
   && decide (([e]:List Expr).length+([]:List Keyword).length+(if ([]:List Keyword).isEmpty then 0 else 1)<30))=true:=by rfl)
  (hline:(apos.endLine==cpos.line)=true:=by rfl)(hs:fu e=false:=by rfl):Jd (PD X (.Call (.Attribute o "update" apos) [e] [] cpos) (aaP td te)):=⟨have ho:=ho.h;have he:=he.h;
 fS (sx PySem.F.plainAttrs_dict PySem.F.slot_dict_update PySem.F.type_dict_update aee ho (pac he gv hs) hbase hfew hline (cq e [] X.env hs) rfl) λ σ H Q h=>by
  obtain⟨τ,M,Qd,A,h,k⟩:=h;refine⟨τ,M,_,A,h,λ x H1 w M1 kp1 r1 m1 hq82=>?_⟩;obtain⟨a,kv0,ew,hm0,q1⟩:=hq82;subst ew;have r1':x=.ref a:=r1;subst r1';obtain⟨l0,ea0,_⟩:=m1 _ _ hm0;refine⟨?_,τ,M1,aes (λ y M2=>∃ kvs,∃ more:List (Key×PyData),M2 a=some (.dic kvs)/\y=.d (.dict (more.map λ p=>(qU p.1,p.2)))/\((kvs.map (·.1))++more.map (·.1)).Nodup/\kvs.length+more.length<=sizeLine/\Qd (.d .none) (dR M2 a (.dic (kvs++cD more)))),A.go kp1 m1,q1,λ ys H2 wys M2 kp2 r2 m2 q2=>?_⟩
  ·exact .inr (.inr (.inl ⟨rfl,.inl ⟨l0,ea0⟩⟩))
  obtain⟨y,ey,kvs,more,hm2,ey2,hnd,hl,q4⟩:=md q2;subst ey ey2;obtain⟨v,ev,rv⟩:=da r2;subst ev;simp only[aH,aB] at rv;obtain⟨c,ob,l,ec,hc,rk⟩:=rv;subst ec;obtain⟨l2,ea2,pr⟩:=m2 _ _ hm2;have pk:=ig rk;have k1:kvs.map (·.1)=l2.map (·.1):=il pr;have k2:more.map (·.1)=l.map (·.1):=il pk;have em:gb l2 l=l2++l:=gR (by rw[List.map_append,<- k1,<- k2];exact hnd);have kp4:Kp H2 (upd H2 a (.dK (l2++l))):=Kp.set ea2 (λ _ z=>nomatch z) (λ _ _ z=>nomatch z);have e1:kvs.length=l2.length:=by have:=congrArg List.length k1;simpa using this
  have e2:more.length=l.length:=by have:=congrArg List.length k2;simpa using this
  refine⟨a,c,l2,l,rfl,rfl,ea2,.inr ⟨ob,hc⟩,(λ z=>by rw[z,hc] at ea2;cases ea2),by omega,?_⟩;rw[em];refine k _ _ (.d .none) _ ((kp1.trans kp2).trans kp4) (by simp[aH,aB]) (m2.put (mo:=.dic (kvs++cD more)) kp4 ⟨_,aP,?_⟩) q4;refine nC (Paired.xQ pr λ p q z=>⟨z.1,z.2.keep kp4⟩) ?_;unfold cD;exact mO (Paired.xQ pk λ p q z=>⟨z.1,z.2.keep kp4⟩)⟩
end D
namespace PySem.SeqAt
open MeetsSeq MeetsSeq2 MeetsSeq3 SeqRoads2
theorem o6(l:Addr)(items:Array Value)(n:Nat)(dd:Option Addr)(sl:Array (Option Value))(x:Value)(e:Value->Bool)(j:Nat)(hj:j<items.size)
  (hit:e items[j]=true)(hno:∀ m (hm:m<items.size),m<j->e items[m]=false) :
  Meets (Builtin.«tuple.index» ⟨[.ref l,x],[]⟩)
   (λ A R s=>s.heap.get? l=some {cls:=.type "tuple",dict:=dd,data:=.seq items n,slots:=sl}/\(∀ y,y∈items->EqAt A.in1 s y x (e y))/\R (.ok (.ret (.int j s.toks))) {s with toks:=s.toks+1}):=
 .of_wp λ prog w A R s h=>by
  obtain⟨hp,g,d,tk,os⟩:=s;obtain⟨hl,he,h⟩:=h;show wpAny (model prog w) A.in1 (Builtin.«tuple.index» ⟨[.ref l,x],[]⟩) _ _ _;unfold Builtin.«tuple.index»;simp only[Std.Legacy.Range.forIn_eq_forIn_range',Std.Legacy.Range.size]
  wp_walk using wpAny_loadPart' hl,wpAny_forIn_list _ (λ rest (b:Option Fin×Unit) s'=>b.1=none/\s'=⟨hp,g,d,tk,os⟩/\∃ i,i<=j/\rest=List.range' i (items.size-i)) _
  case turn =>
   rintro y rest b s' ⟨hb,rfl,i,hi,hr⟩;have hlt:i<items.size:=by omega
   have e1:items.size-i=(items.size-(i+1))+1:=by omega
   rw[e1,List.range'_succ] at hr;obtain⟨rfl,hr⟩:=List.cons.inj hr;have e2:items[y]? =some items[y]:=by simp[hlt]
   rw[e2];refine wpAny_bind (he _ (Array.getElem_mem hlt) prog w _ _ ?_)
   by_cases hij:y=j
   ·subst hij;rw[hit]
    wp_walk
    exact⟨_,rfl,h⟩
   ·rw[hno y hlt (by omega)]
    wp_walk
    exact⟨rfl,rfl,y+1,by omega,hr⟩
  case fin =>
   rintro b s' ⟨hb,rfl,i,hi,hr⟩;have:=congrArg List.length hr;rw[List.length_nil,List.length_range'] at this;omega
  case h =>
   refine⟨rfl,rfl,0,Nat.zero_le _,?_⟩;congr 1;simp
end PySem.SeqAt
namespace ZT
abbrev TT(h:Heap)(j t:Addr)(k:Nat)(ys:Array Value):Prop:=h.IsTupleIter j t k/\h.IsTuple t ys
theorem aab(st:TT s.heap j t k ys)(hn:t≠j)(hy:ys[k]? =some y)
  (q:∀ h',TT h' j t (k+1) ys->Heap.SameBut j s.heap h'->Q y {s with heap:=h'}):wpAny (model prog w) A (Builtin.SmallTypes.nextOf (.ref j)) Q E s:=by
 obtain⟨jt,tt⟩:=st;obtain⟨oj,ej,cj,dj⟩:=id jt;obtain⟨ot,et,ct,nt,dt⟩:=id tt;unfold Builtin.SmallTypes.nextOf;refine wpAny_bind (wpAny_callSpecial?_slot (name:=Str.ofString "__next__") jt.typeIs F.slot_tuple_iterator_next (wpAny_call_entry F.slot_tuple_iterator_next jt.typeIs F.entry_tuple_iterator_next ?_ (F.args_tuple_iterator_next_1 _)));show wpAny _ _ (field (.ref j) 0 >>= _) _ _ s;refine wpAny_bind (wpAny_field ej dj (x:=.ref t) rfl ?_);show wpAny _ _ (if (Value.ref t==Value.none)=true then _ else _) _ _ s;rw[if_neg (show ¬ ((Value.ref t==Value.none)=true) from Bool.false_ne_true)];show wpAny _ _ (field (.ref j) 1 >>= _) _ _ s;refine wpAny_bind (wpAny_field ej dj (x:=.int k 0) rfl ?_);show wpAny _ _ (seqItems? (.ref t) >>= _) _ _ s;refine wpAny_bind (wpAny_seqItems et dt ?_);simp only[Int.toNat_natCast,hy];refine wpAny_bind (wpAny_setField ej dj (by simp) (wpAny_pure ⟨y,rfl,wpAny_pure (q _ ⟨?_,tt.extBut (Heap.SameBut.update ..).extBut hn⟩ (Heap.SameBut.update ..))⟩));exact⟨_,Heap.get?_update_self _ ej (Obj.isFreed_of_fields (Obj.data_mapFields dj _)),(Obj.cls_mapFields ..).trans cj,by rw[Obj.data_mapFields dj];simp[rawInt]⟩
theorem ad2(hh:A.handled=none)(st:TT s.heap j t k ys)(hy:ys[k]? =none)
  (q:∀ h' x,Heap.ExtBut j s.heap h'->(∃ o,h'.get? x=some o/\o.cls=.type "StopIteration")->E (.ref x) {s with heap:=h'}):wpAny (model prog w) A (Builtin.SmallTypes.nextOf (.ref j)) Q E s:=by
 obtain⟨jt,tt⟩:=st;obtain⟨oj,ej,cj,dj⟩:=id jt;obtain⟨ot,et,ct,nt,dt⟩:=id tt;unfold Builtin.SmallTypes.nextOf;refine wpAny_bind (wpAny_callSpecial?_slot (name:=Str.ofString "__next__") jt.typeIs F.slot_tuple_iterator_next (wpAny_call_entry F.slot_tuple_iterator_next jt.typeIs F.entry_tuple_iterator_next ?_ (F.args_tuple_iterator_next_1 _)));show wpAny _ _ (field (.ref j) 0 >>= _) _ _ s;refine wpAny_bind (wpAny_field ej dj (x:=.ref t) rfl ?_);show wpAny _ _ (if (Value.ref t==Value.none)=true then _ else _) _ _ s;rw[if_neg (show ¬ ((Value.ref t==Value.none)=true) from Bool.false_ne_true)];show wpAny _ _ (field (.ref j) 1 >>= _) _ _ s;refine wpAny_bind (wpAny_field ej dj (x:=.int k 0) rfl ?_);show wpAny _ _ (seqItems? (.ref t) >>= _) _ _ s;refine wpAny_bind (wpAny_seqItems et dt ?_);simp only[Int.toNat_natCast,hy];refine wpAny_bind (wpAny_rule (wpAny_bind (wpAny_setField ej dj (by simp) ?_)));show wpAny _ _ (newExc (.type "StopIteration") [] >>= _) _ _ _;refine wpAny_bind ?_;simp only[newExc,newTuple];refine wpAny_bind (wpAny_newObj_type ?_ (by size_fits));refine wpAny_bind (m:=firstArgMember _ _) (wpAny_of_eq (a:=Value.none) (by first | rfl | (simp only[firstArgMember];rfl)) (wpAny_newObj_type ?_ (by size_fits)))
 simp only[raiseNew];refine wpAny_bind (wpAny_handled ?_)
 first | rw[show A.in1.handled=none from hh] | rw[hh]
 refine wpAny_bind (wpAny_pure (wpAny_throw (q _ _ (((Heap.SameBut.update ..).extBut.push _).push _) ⟨_,Heap.get?_push_size _ rfl,rfl⟩)))
def isIt(b:Bool)(h:Heap)(j t:Addr)(k:Nat):Prop:=match b with
 | true=>h.IsTupleIter j t k
 | false=>h.IsListIter j t k
def zj(b:Bool)(h:Heap)(t:Addr)(ys:Array Value):Prop:=match b with
 | true=>h.IsTuple t ys
 | false=>h.IsList t ys
theorem isIt.obj(x:isIt b h j t k):∃ o,h.get? j=some o/\o.data=.fields #[.ref t,.int k 0]:=by
 cases b<;>(obtain⟨o,e,_,d⟩:=x;exact⟨o,e,d⟩)
theorem isIt.at(x:isIt b h j t k)(f:∀ o,h.get? j=some o->h'.get? j=some o):isIt b h' j t k:=by
 cases b<;>(obtain⟨o,e,r⟩:=x;exact⟨o,f _ e,r⟩)
theorem zj.at(x:zj b h t ys)(f:∀ o,h.get? t=some o->h'.get? t=some o):zj b h' t ys:=by
 cases b<;>(obtain⟨o,e,r⟩:=x;exact⟨o,f _ e,r⟩)
theorem zj.lt(x:zj b h t ys):t<h.objs.size:=by
 cases b<;>(obtain⟨o,e,r⟩:=x;exact Heap.lt_size e)
abbrev TI(b:Bool)(h:Heap)(j t:Addr)(k:Nat)(ys:Array Value):Prop:=isIt b h j t k/\zj b h t ys
theorem TI.at(x:TI b h j t k ys)(f:∀ c o,(c=j\/c=t)->h.get? c=some o->h'.get? c=some o):TI b h' j t k ys:=⟨x.1.at λ o=>f _ o (.inl rfl),x.2.at λ o=>f _ o (.inr rfl)⟩
theorem sT(st:TI b s.heap j t k ys)(hn:t≠j)(hy:ys[k]? =some y)
  (q:∀ h',TI b h' j t (k+1) ys->Heap.SameBut j s.heap h'->Q y {s with heap:=h'}):wpAny (model prog w) A (Builtin.SmallTypes.nextOf (.ref j)) Q E s:=by
 cases b with
 | true=>exact aab st hn hy q
 | false=>exact wpAny_nextOf_list_item st.1 st.2 hy λ h' i sb=>q h' ⟨i,Heap.IsList.extBut st.2 sb.extBut hn⟩ sb
theorem abQ(hh:A.handled=none)(st:TI b s.heap j t k ys)(hy:ys[k]? =none)
  (q:∀ h' x,Heap.ExtBut j s.heap h'->(∃ o,h'.get? x=some o/\o.cls=.type "StopIteration")->E (.ref x) {s with heap:=h'}):wpAny (model prog w) A (Builtin.SmallTypes.nextOf (.ref j)) Q E s:=by
 cases b with
 | true=>exact ad2 hh st hy q
 | false=>exact wpAny_nextOf_list_end hh st.1 st.2 hy q
structure Zs(p q:Bool)(h:Heap)(z T O i j a b:Addr)(f:Value)(k1 k2:Nat)(xs ys:Array Value)(u v:Value):Prop where
 z:IsZip h z T O f
 t:IsPair h T (.ref i) (.ref j)
 o:IsPair h O u v
 i:TI p h i a k1 xs
 j:TI q h j b k2 ys
theorem next_item(D:ZipApart z T O i j a b)(Z:Zs p₁ p₂ s.heap z T O i j a b .none k k xs ys u v)(hx:xs[k]? =some x)(hy:ys[k]? =some y)
  (q:∀ h',Zs p₁ p₂ h' z T O i j a b (rawInt s.heap.objs.size) (k+1) (k+1) xs ys x y->IsPair h' s.heap.objs.size x y ->
   (∀ c o,c≠z->c≠O->c≠i->c≠j->s.heap.get? c=some o->h'.get? c=some o)->Q (some (.ref s.heap.objs.size)) {s with heap:=h'}):wpAny (model prog w) A (pyNext (.ref z)) Q E s:=by
 have hT:s.TypeIs (.ref z) "zip":= ⟨_,Z.z,rfl⟩;unfold pyNext;refine wpAny_bind (wpAny_attempt (wpAny_callSpecial?_slot (name:=Str.ofString "__next__") hT F.slot_zip_next (wpAny_call_entry F.slot_zip_next hT F.entry_zip_next ?_ (F.args_zip_next_1 _))));show wpAny _ _ (field (.ref z) 2 >>= _) _ _ _;refine wpAny_bind (wpAny_field Z.z rfl (x:=.bool false) rfl ?_);show wpAny _ _ (field (.ref z) 3 >>= _) _ _ _;refine wpAny_bind (wpAny_field Z.z rfl (x:=.ref T) rfl (wpAny_bind (wpAny_seqItems Z.t rfl ?_)));show wpAny _ _ (Builtin.SmallTypes.ownedTupleIsFree (.ref z) >>= _) _ _ _;refine wpAny_bind ?_;unfold Builtin.SmallTypes.ownedTupleIsFree;refine wpAny_bind (wpAny_field Z.z rfl (x:=.none) rfl (wpAny_pure ?_));simp only[if_true];refine wpAny_bind (wpAny_rule (wpAny_bind (wpAny_field Z.z rfl (x:=.ref O) rfl (wpAny_bind (wpAny_setField_rec Z.z (by simp) λ g1 z1 s1=>?_)))));replace z1:IsZip g1 z T O .ellipsis:=z1;refine wpAny_bind ?_;simp only[List.zipIdx_cons,List.zipIdx_nil,List.forIn_cons,List.forIn_nil];have i1:TI p₁ g1 i a k xs:=Z.i.at λ c o hc q=>s1.extBut _ _ (by rcases hc with rfl | rfl;exact D.i1z;exact D.l1z) q;have j1:TI p₂ g1 j b k ys:=Z.j.at λ c o hc q=>s1.extBut _ _ (by rcases hc with rfl | rfl;exact D.i2z;exact D.l2z) q;refine wpAny_bind (wpAny_bind (wpAny_onRaise ?_));show wpAny _ _ (Builtin.SmallTypes.nextOf (.ref i) >>= _) _ _ _;refine wpAny_bind (sT i1 D.l1i1 hx λ g2 i2 s2=>wpAny_pure ?_);have o2:IsPair g2 O u v:=s2.extBut _ _ D.TOi1 (s1.extBut _ _ D.TOz Z.o);refine wpAny_bind (wpAny_seqItems o2 rfl (wpAny_bind (wpAny_updateSeq_pair o2 λ g3 o3 s3=>wpAny_bind (wpAny_letGo (wpAny_pure ?_)))));replace o3:IsPair g3 O x v:=o3;have j3:TI p₂ g3 j b k ys:=j1.at λ c o hc q=>s3.extBut _ _ (by rcases hc with rfl | rfl;exact D.TOi2.symm;exact D.l2TO) (s2.extBut _ _ (by rcases hc with rfl | rfl;exact D.i12.symm;exact D.l2i1) q);refine wpAny_bind (wpAny_bind (wpAny_onRaise ?_));show wpAny _ _ (Builtin.SmallTypes.nextOf (.ref j) >>= _) _ _ _;refine wpAny_bind (sT j3 D.l2i2 hy λ g4 j4 s4=>wpAny_pure ?_);have o4:IsPair g4 O x v:=s4.extBut _ _ D.TOi2 o3;refine wpAny_bind (wpAny_seqItems o4 rfl (wpAny_bind (wpAny_updateSeq_pair o4 λ g5 o5 s5=>wpAny_bind (wpAny_letGo (wpAny_pure (wpAny_pure ?_))))));replace o5:IsPair g5 O x y:=o5;refine wpAny_bind (wpAny_seqItems o5 rfl (wpAny_bind (wpAny_newTuple ?_)));have sz:g5.objs.size=s.heap.objs.size:=by rw[s5.1,s4.1,s3.1,s2.1,s1.1]
 have z5:IsZip g5 z T O .ellipsis:=s5.extBut _ _ D.TOz.symm (s4.extBut _ _ D.i2z.symm (s3.extBut _ _ D.TOz.symm (s2.extBut _ _ D.i1z.symm z1)));have k5:∀ c o,c≠z->c≠O->c≠i->c≠j->s.heap.get? c=some o->g5.get? c=some o:=λ c o c1 c2 c3 c4 e=>s5.extBut _ _ c2 (s4.extBut _ _ c4 (s3.extBut _ _ c2 (s2.extBut _ _ c3 (s1.extBut _ _ c1 e))));have i5:TI p₁ g5 i a (k+1) xs:=i2.at λ c o hc q=>s5.extBut _ _ (by rcases hc with rfl | rfl;exact D.TOi1.symm;exact D.l1TO) (s4.extBut _ _ (by rcases hc with rfl | rfl;exact D.i12;exact D.l1i2) (s3.extBut _ _ (by rcases hc with rfl | rfl;exact D.TOi1.symm;exact D.l1TO) q));have j5:TI p₂ g5 j b (k+1) ys:=j4.at λ c o hc q=>s5.extBut _ _ (by rcases hc with rfl | rfl;exact D.TOi2.symm;exact D.l2TO) q;have zlt:z<g5.objs.size:=Heap.lt_size z5;show wpAny _ _ (Builtin.SmallTypes.ownedTupleHandOut (.ref z) (.ref g5.objs.size) >>= _) _ _ _;refine wpAny_bind ?_;unfold Builtin.SmallTypes.ownedTupleHandOut;have z6:IsZip (g5.push {cls:=.type "tuple",data:=.seq #[x,y]}) z T O .ellipsis:=Heap.get?_push_of_some _ z5;refine wpAny_bind (wpAny_setField_rec z6 (by simp) λ g7 z7 s7=>?_);replace z7:IsZip g7 z T O (rawInt g5.objs.size):=z7;refine wpAny_setField_rec z7 (by simp) λ g8 z8 s8=>?_;replace z8:IsZip g8 z T O (rawInt g5.objs.size):=z8;have up:∀ c o,c≠z->g5.get? c=some o->g8.get? c=some o:=λ c o c1 e=>s8.extBut _ _ c1 (s7.extBut _ _ c1 (Heap.get?_push_of_some _ e));have t8:IsPair g8 g5.objs.size x y:=s8.extBut _ _ (Nat.ne_of_gt zlt) (s7.extBut _ _ (Nat.ne_of_gt zlt) (Heap.get?_push_size _ rfl));rw[sz] at z8 t8;refine wpAny_pure ⟨_,rfl,wpAny_pure ?_⟩;show Q (some (.ref g5.objs.size)) _;rw[sz];exact q g8 ⟨z8,up _ _ D.TIz (k5 T _ D.TIz D.TITO D.TIi1 D.TIi2 Z.t),up _ _ D.TOz o5,i5.at λ c o hc q=>up _ o (by rcases hc with rfl | rfl;exact D.i1z;exact D.l1z) q,j5.at λ c o hc q=>up _ o (by rcases hc with rfl | rfl;exact D.i2z;exact D.l2z) q⟩ t8 λ c o c1 c2 c3 c4 e=>up c o c1 (k5 c o c1 c2 c3 c4 e)
theorem next_end(hh:A.handled=none)(D:ZipApart z T O i j a b)(Z:Zs p₁ p₂ s.heap z T O i j a b .none k k xs ys u v)(hx:xs[k]? =none\/ys[k]? =none)
  (q:∀ h',(∀ c o,c≠z->c≠O->c≠i->c≠j->s.heap.get? c=some o->h'.get? c=some o)->Q none {s with heap:=h'}):wpAny (model prog w) A (pyNext (.ref z)) Q E s:=by
 have hT:s.TypeIs (.ref z) "zip":= ⟨_,Z.z,rfl⟩;have fin:∀ h' x,(∀ c o,c≠z->c≠O->c≠i->c≠j->s.heap.get? c=some o->h'.get? c=some o)->(∃ o,h'.get? x=some o/\o.cls=.type "StopIteration") ->
   wpAny (model prog w) A (do if (<- PySem.isInstance (.ref x) (.type "StopIteration")) then pure none else throw (.ref x)) Q E {s with heap:=h'}:=λ h' x kp ⟨o,ho,hc⟩ =>
  wpAny_bind (wpAny_isInstance (T:= "StopIteration") (b:=true) ⟨o,ho,hc⟩ isSubtype_stop (wpAny_pure (q _ kp)))
 unfold pyNext;refine wpAny_bind (wpAny_attempt (wpAny_callSpecial?_slot (name:=Str.ofString "__next__") hT F.slot_zip_next (wpAny_call_entry F.slot_zip_next hT F.entry_zip_next ?_ (F.args_zip_next_1 _))));show wpAny _ _ (field (.ref z) 2 >>= _) _ _ _;refine wpAny_bind (wpAny_field Z.z rfl (x:=.bool false) rfl ?_);show wpAny _ _ (field (.ref z) 3 >>= _) _ _ _;refine wpAny_bind (wpAny_field Z.z rfl (x:=.ref T) rfl (wpAny_bind (wpAny_seqItems Z.t rfl ?_)));show wpAny _ _ (Builtin.SmallTypes.ownedTupleIsFree (.ref z) >>= _) _ _ _;refine wpAny_bind ?_;unfold Builtin.SmallTypes.ownedTupleIsFree;refine wpAny_bind (wpAny_field Z.z rfl (x:=.none) rfl (wpAny_pure ?_));simp only[if_true];refine wpAny_bind (wpAny_rule (wpAny_bind (wpAny_field Z.z rfl (x:=.ref O) rfl (wpAny_bind (wpAny_setField_rec Z.z (by simp) λ g1 z1 s1=>?_)))));replace z1:IsZip g1 z T O .ellipsis:=z1;refine wpAny_bind ?_;simp only[List.zipIdx_cons,List.zipIdx_nil,List.forIn_cons,List.forIn_nil];have i1:TI p₁ g1 i a k xs:=Z.i.at λ c o hc q=>s1.extBut _ _ (by rcases hc with rfl | rfl;exact D.i1z;exact D.l1z) q;have j1:TI p₂ g1 j b k ys:=Z.j.at λ c o hc q=>s1.extBut _ _ (by rcases hc with rfl | rfl;exact D.i2z;exact D.l2z) q;refine wpAny_bind (wpAny_bind (wpAny_onRaise ?_));show wpAny _ _ (Builtin.SmallTypes.nextOf (.ref i) >>= _) _ _ _;cases ex:xs[k]? with
 | none =>
  refine wpAny_bind (abQ hh i1 ex λ g2 x s2 hq83=>?_);obtain⟨ox,hox,hcx⟩:=hq83;have z2:IsZip g2 z T O .ellipsis:=s2 _ _ D.i1z.symm z1;have hxz:x≠z:=λ e=>by subst e;rw[z2] at hox;cases hox;simp at hcx
  refine wpAny_setField_rec z2 (by simp) λ g3 _ s3=>fin g3 x (λ c o c1 _ c3 _ e=>s3.extBut _ _ c1 (s2 _ _ c3 (s1.extBut _ _ c1 e))) ⟨ox,s3.extBut _ _ hxz hox,hcx⟩
 | some x0 =>
  have ey:ys[k]? =none:=by rcases hx with h | h;rw[ex] at h;cases h;exact h
  refine wpAny_bind (sT i1 D.l1i1 ex λ g2 i2 s2=>wpAny_pure ?_);have o2:IsPair g2 O u v:=s2.extBut _ _ D.TOi1 (s1.extBut _ _ D.TOz Z.o);refine wpAny_bind (wpAny_seqItems o2 rfl (wpAny_bind (wpAny_updateSeq_pair o2 λ g3 o3 s3=>wpAny_bind (wpAny_letGo (wpAny_pure ?_)))));have j3:TI p₂ g3 j b k ys:=j1.at λ c o hc q=>s3.extBut _ _ (by rcases hc with rfl | rfl;exact D.TOi2.symm;exact D.l2TO) (s2.extBut _ _ (by rcases hc with rfl | rfl;exact D.i12.symm;exact D.l2i1) q);refine wpAny_bind (wpAny_bind (wpAny_onRaise ?_));show wpAny _ _ (Builtin.SmallTypes.nextOf (.ref j) >>= _) _ _ _;refine wpAny_bind (abQ hh j3 ey λ g4 x s4 hq84=>?_);obtain⟨ox,hox,hcx⟩:=hq84;have z4:IsZip g4 z T O .ellipsis:=s4 _ _ D.i2z.symm (s3.extBut _ _ D.TOz.symm (s2.extBut _ _ D.i1z.symm z1));have hxz:x≠z:=λ e=>by subst e;rw[z4] at hox;cases hox;simp at hcx
  refine wpAny_setField_rec z4 (by simp) λ g5 _ s5=>fin g5 x (λ c o c1 c2 c3 c4 e=>s5.extBut _ _ c1 (s4 _ _ c4 (s3.extBut _ _ c2 (s2.extBut _ _ c3 (s1.extBut _ _ c1 e))))) ⟨ox,s5.extBut _ _ hxz hox,hcx⟩
def itN(b:Bool):String:=match b with
 | true => "tuple_iterator"
 | false => "list_iterator"
theorem yA(p q:Bool)(e:p=true)(a b:Addr)(xs ys:Array Value):Meets (Builtin.«zip.__new__» ⟨[.type "zip",.ref a,.ref b],[]⟩) (λ _ R s=>zj p s.heap a xs/\zj q s.heap b ys /\
   R (.ok (.ret (.ref (s.heap.objs.size+4)))) {s with heap:=((((s.heap.push {cls:=.type (itN p),data:=.fields #[.ref a,.int 0 0]}).push {cls:=.type (itN q),data:=.fields #[.ref b,.int 0 0]}).push {cls:=.type "tuple",data:=.seq #[.ref s.heap.objs.size,.ref (s.heap.objs.size+1)]}).push {cls:=.type "tuple",data:=.seq #[.none,.none]}).push {cls:=.type "zip",data:=.fields #[.none,.bool false,.bool false,.ref (s.heap.objs.size+2),.ref (s.heap.objs.size+3)]}}):=
 .of_wp λ prog w A R s h=>by
  obtain⟨hp,g,d,tk,os⟩:=s;obtain⟨ha,hb,h⟩:=h;have hsub:=sub_zip;subst e
  ·have h1:Heap.IsTuple (Shared.heap ⟨hp,g,d,tk,os⟩) a xs:=ha;cases q with
   | true =>
    have h2:Heap.IsTuple (Shared.heap ⟨hp.push {cls:=.type "tuple_iterator",data:=.fields #[.ref a,.int 0 0]},g,d,tk,os⟩) b ys:=Heap.IsTuple.push hb _
    wp_walk using wpAny_pyIter_tuple h1,wpAny_pyIter_tuple h2
    refine⟨_,rfl,?_⟩;simp only[Heap.size_push];exact h
   | false =>
    have h2:Heap.IsList (Shared.heap ⟨hp.push {cls:=.type "tuple_iterator",data:=.fields #[.ref a,.int 0 0]},g,d,tk,os⟩) b ys:=Heap.IsList.push hb _
    wp_walk using wpAny_pyIter_tuple h1,wpAny_pyIter_list h2
    refine⟨_,rfl,?_⟩;simp only[Heap.size_push];exact h
theorem aa3(hp₁:p₁=true)(ha:zj p₁ s.heap a xs)(hb:zj p₂ s.heap b ys)
  (h:∀ h',Zs p₁ p₂ h' (s.heap.objs.size+4) (s.heap.objs.size+2) (s.heap.objs.size+3) s.heap.objs.size (s.heap.objs.size+1) a b .none 0 0 xs ys .none .none ->
   (∀ c o,s.heap.get? c=some o->h'.get? c=some o)->Q (.ref (s.heap.objs.size+4)) {s with heap:=h'}) :
  wpAny (model prog w) A (call (.type "zip") [.ref a,.ref b]) Q E s:=by
 refine callType_new F.called_zip (by decide) (F.typeCall_zip_2 _ _) (F.newCall_zip_2 _ _) (λ obj=>F.args_object_init_3 obj _ _) F.entry_zip_new (yA p₁ p₂ hp₁ a b xs ys) ⟨ha,hb,?_⟩;generalize e1:s.heap.push {cls:=.type (itN p₁),data:=.fields #[.ref a,.int 0 0]}=g1;have z1:g1.objs.size=s.heap.objs.size+1:=by rw[<- e1];exact Heap.size_push ..
 have n1:g1.get? s.heap.objs.size=some {cls:=.type (itN p₁),data:=.fields #[.ref a,.int 0 0]}:=by rw[<- e1];exact Heap.get?_push_size _ rfl
 have k1:∀ c o,s.heap.get? c=some o->g1.get? c=some o:=λ c o q=>by rw[<- e1];exact Heap.get?_push_of_some _ q
 generalize e2:g1.push {cls:=.type (itN p₂),data:=.fields #[.ref b,.int 0 0]}=g2;have z2:g2.objs.size=s.heap.objs.size+2:=by rw[<- e2,Heap.size_push,z1]
 have n2:g2.get? (s.heap.objs.size+1)=some {cls:=.type (itN p₂),data:=.fields #[.ref b,.int 0 0]}:=by rw[<- e2,<- z1];exact Heap.get?_push_size _ rfl
 have k2:∀ c o,g1.get? c=some o->g2.get? c=some o:=λ c o q=>by rw[<- e2];exact Heap.get?_push_of_some _ q
 generalize e3:g2.push {cls:=.type "tuple",data:=.seq #[.ref s.heap.objs.size,.ref (s.heap.objs.size+1)]}=g3;have z3:g3.objs.size=s.heap.objs.size+3:=by rw[<- e3,Heap.size_push,z2]
 have n3:g3.get? (s.heap.objs.size+2)=some {cls:=.type "tuple",data:=.seq #[.ref s.heap.objs.size,.ref (s.heap.objs.size+1)]}:=by rw[<- e3,<- z2];exact Heap.get?_push_size _ rfl
 have k3:∀ c o,g2.get? c=some o->g3.get? c=some o:=λ c o q=>by rw[<- e3];exact Heap.get?_push_of_some _ q
 generalize e4:g3.push {cls:=.type "tuple",data:=.seq #[.none,.none]}=g4;have z4:g4.objs.size=s.heap.objs.size+4:=by rw[<- e4,Heap.size_push,z3]
 have n4:g4.get? (s.heap.objs.size+3)=some {cls:=.type "tuple",data:=.seq #[.none,.none]}:=by rw[<- e4,<- z3];exact Heap.get?_push_size _ rfl
 have k4:∀ c o,g3.get? c=some o->g4.get? c=some o:=λ c o q=>by rw[<- e4];exact Heap.get?_push_of_some _ q
 generalize e5:g4.push {cls:=.type "zip",data:=.fields #[.none,.bool false,.bool false,.ref (s.heap.objs.size+2),.ref (s.heap.objs.size+3)]}=g5;have n5:g5.get? (s.heap.objs.size+4)=some {cls:=.type "zip",data:=.fields #[.none,.bool false,.bool false,.ref (s.heap.objs.size+2),.ref (s.heap.objs.size+3)]}:=by rw[<- e5,<- z4];exact Heap.get?_push_size _ rfl
 have k5:∀ c o,g4.get? c=some o->g5.get? c=some o:=λ c o q=>by rw[<- e5];exact Heap.get?_push_of_some _ q
 have kk:∀ c o,s.heap.get? c=some o->g5.get? c=some o:=λ c o q=>k5 _ _ (k4 _ _ (k3 _ _ (k2 _ _ (k1 _ _ q))));refine⟨⟨_,n5,rfl⟩,h g5 ⟨n5,k5 _ _ (k4 _ _ n3),k5 _ _ n4,⟨?_,ha.at λ o=>kk _ o⟩,?_,hb.at λ o=>kk _ o⟩ kk⟩
 ·cases p₁<;>exact⟨_,k5 _ _ (k4 _ _ (k3 _ _ (k2 _ _ n1))),rfl,rfl⟩
 ·cases p₂<;>exact⟨_,k5 _ _ (k4 _ _ (k3 _ _ n2)),rfl,rfl⟩
end ZT
namespace D
open L2
def SqB(b:Bool)(K:FG)(H:Hp)(a:Addr)(xs:List V):Prop:=match b with
 | true=>SqT K H a xs
 | false=>SqL K H a xs
theorem Inv.sqB(I:Inv X pins σ H s)(h:SqB b X.K H a xs):∃ its:List Value,Vals xs its/\ZT.zj b s.heap a its.toArray:=by
 cases b with
 | true=>obtain⟨its,r,p,_⟩:=I.tuple h;exact⟨its,r,p⟩
 | false=>obtain⟨its,r,p,_⟩:=I.list h;exact⟨its,r,p.isList⟩
theorem Inv.xD(I:Inv X pins σ H s)(h:SqB b X.K H a xs)(h':SqB b X.K H a ys):xs=ys:=by
 cases b with
 | true=>exact I.q9 h h'
 | false=>exact I.ko h h'
def aiY(p q:Bool)(K:FG)(a b:Addr):It:=
 ⟨λ i H=>∃ xs ys x y,SqB p K H a xs/\SqB q K H b ys/\xs[i]? =some x/\ys[i]? =some y,
  λ i H x H'=>∃ T u v,H T=none/\x=.ref T/\H'=upd H T (.tup [u,v])/\(∀ xs,SqB p K H a xs->xs[i]? =some u)/\∀ ys,SqB q K H b ys->ys[i]? =some v,
  λ i H=>∃ xs ys,SqB p K H a xs/\SqB q K H b ys/\(xs.length<=i\/ys.length<=i)⟩
theorem xv{p₁ p₂:Bool}{P:Program}{w:World}{K:FG}{elts:List Expr}{x1:Nat}{tpos:Pos}{z TI TO i1 i2 a b:Addr}(Dz:ZipApart z TI TO i1 i2 a b) :
  Turn P w K (.Tuple elts x1 tpos) (aiY p₁ p₂ K a b) [z,TI,TO,i1,i2] z (λ i h=>IsZip h z TI TO .none/\IsPair h TI (.ref i1) (.ref i2)/\(∃ u v,IsPair h TO u v)/\ZT.isIt p₁ h i1 a i/\ZT.isIt p₂ h i2 b i) where
 mem:=by simp
 obj:=λ i h ⟨hz,hTI,⟨u,v,hTO⟩,x1,x2⟩ c hc=>by
  obtain⟨o1,e1,d1⟩:=x1.obj;obtain⟨o2,e2,d2⟩:=x2.obj;have q:c=z\/c=TI\/c=TO\/c=i1\/c=i2:=by simpa using hc
  rcases q with rfl | rfl | rfl | rfl | rfl
  ·exact⟨_,hz,λ v q=>by cases q⟩
  ·exact⟨_,hTI,λ v q=>by cases q⟩
  ·exact⟨_,hTO,λ v q=>by cases q⟩
  ·exact⟨o1,e1,λ v q=>by rw[d1] at q;cases q⟩
  ·exact⟨o2,e2,λ v q=>by rw[d2] at q;cases q⟩
 keep:=λ i h h' ⟨hz,hTI,⟨u,v,hTO⟩,x1,x2⟩ k=>⟨k z (by simp) _ hz,k TI (by simp) _ hTI,⟨u,v,k TO (by simp) _ hTO⟩,x1.at λ o e=>k i1 (by simp) _ e,x2.at λ o e=>k i2 (by simp) _ e⟩
 item:=by
  intro X hP hw hK hc i pins s σ H E I hf ⟨hz,hTI,⟨u0,v0,hTO⟩,l1,l2⟩ ⟨xs,ys,x,y,hq1,hq2,hx,hy⟩;subst hP hw hK;obtain⟨its1,rv1,p1⟩:=Inv.sqB I hq1;obtain⟨its2,rv2,p2⟩:=Inv.sqB I hq2;obtain⟨u,hu,ru⟩:=rv1.get hx;obtain⟨v,hv,rv⟩:=rv2.get hy;refine ZT.next_item Dz (xs:=its1.toArray) (ys:=its2.toArray) ⟨hz,hTI,hTO,⟨l1,p1⟩,l2,p2⟩ (x:=u) (y:=v) (by simpa using hu) (by simpa using hv) λ h' Z' hT kp=>?_;refine⟨_,rfl,wpAny_letOwnedTupleGo_zip Z'.z λ h'' hz'' sb=>?_⟩;obtain⟨t0,t1,t2,t3,t4,t5⟩:=I.vX (Nat.le_refl _) (I.hok.fresh (Nat.le_refl _));have nT:s.heap.objs.size≠z:=Nat.ne_of_gt (Heap.lt_size hz);have nTO:s.heap.objs.size≠TO:=Nat.ne_of_gt (Heap.lt_size hTO);have n1:s.heap.objs.size≠i1:=by obtain⟨o,e,_⟩:=l1.obj;exact Nat.ne_of_gt (Heap.lt_size e)
  have n2:s.heap.objs.size≠i2:=by obtain⟨o,e,_⟩:=l2.obj;exact Nat.ne_of_gt (Heap.lt_size e)
  have nTI:s.heap.objs.size≠TI:=Nat.ne_of_gt (Heap.lt_size hTI);have I1:Inv X pins σ H {s with heap:=h'',toks:=s.toks}:=Inv.nX (ch:=[z,TI,TO,i1,i2]) I (λ c ob hc q=>by simp only[List.mem_cons,List.not_mem_nil,or_false,not_or] at hc;exact(sb.2 c hc.1).trans (kp c ob hc.1 hc.2.2.1 hc.2.2.2.1 hc.2.2.2.2 q)) hf
  have eT:h''.get? s.heap.objs.size=some {cls:=.type "tuple",data:=.seq #[u,v]}:=(sb.2 _ nT).trans hT;have I2:=Inv.aby (us:=[u,v]) (ys:=[x,y]) I1 eT t0 (.cons ru (.cons rv .nil)) (by simp;have:=s16;omega) t3 t1 t4 t5;refine⟨.ref s.heap.objs.size,_,I2,rfl,⟨_,x,y,t0,rfl,rfl,λ zs hz=>by rw[Inv.xD I hz hq1];exact hx,λ zs hz=>by rw[Inv.xD I hz hq2];exact hy⟩,⟨hz'',(sb.2 _ Dz.TIz).trans Z'.t,⟨u,v,(sb.2 _ Dz.TOz).trans Z'.o⟩,?_,?_⟩,λ c hc=>?_⟩
  ·exact Z'.i.1.at λ o e=>(sb.2 i1 Dz.i1z).trans e
  ·exact Z'.j.1.at λ o e=>(sb.2 i2 Dz.i2z).trans e
  ·have q:c=z\/c=TI\/c=TO\/c=i1\/c=i2:=by simpa using hc
   have hn:c≠s.heap.objs.size:=by rcases q with rfl | rfl | rfl | rfl | rfl<;>(intro e;first | exact nT e.symm | exact nTI e.symm | exact nTO e.symm | exact n1 e.symm | exact n2 e.symm)
   rw[aO hn];exact(hf c hc).1
 done:=by
  intro X hP hw hK hc i pins s σ H E I hf ⟨hz,hTI,⟨u0,v0,hTO⟩,l1,l2⟩ ⟨xs,ys,hq1,hq2,hx⟩;subst hP hw hK;obtain⟨its1,rv1,p1⟩:=Inv.sqB I hq1;obtain⟨its2,rv2,p2⟩:=Inv.sqB I hq2;have e1:=rv1.length;have e2:=rv2.length;refine ZT.next_end (I.ok.hd hc) Dz (xs:=its1.toArray) (ys:=its2.toArray) ⟨hz,hTI,hTO,⟨l1,p1⟩,l2,p2⟩ ?_ λ h' eb=>⟨rfl,Inv.nX (t':=s.toks) (ch:=[z,TI,TO,i1,i2]) I (λ c ob hc q=>by simp only[List.mem_cons,List.not_mem_nil,or_false,not_or] at hc;exact eb c ob hc.1 hc.2.2.1 hc.2.2.2.1 hc.2.2.2.2 q) hf⟩
  rcases hx with hx | hx
  ·exact .inl (by simp;omega)
  ·exact .inr (by simp;omega)
 self:=λ _ _ _ _ _ ⟨hz,_⟩ h=>wpAny_pyIter_zip hz h
def ah8(p q:Bool)(K:FG)(ta:TA):TI:=λ σ H R=>ta σ H λ vs H1=>∃ c d xs ys,vs=[.ref c,.ref d]/\SqB p K H1 c xs/\SqB q K H1 d ys/\R (aiY p q K c d) H1
theorem aci{p₁ p₂:Bool}(hp₁:p₁=true){elts:List Expr}{x1:Nat}{tpos:Pos}(hg:Gl X "zip")(hm:X.mg "zip" = none)(ha:PA X [a,b] ta)(hs:starEach [a,b] X.env=(false,eval a X.env)::starEach [b] X.env:=by rfl)(hpl:(backTo pos (starEach [b] X.env)).any (·.1)=false:=by rfl) :
  PI X (.Tuple elts x1 tpos) (.Call (.Name "zip" p) [a,b] [] pos) (ah8 p₁ p₂ X.K ta):=by
 intro pins s σ H R I h;refine Call_ (m8 I hg hm abj (PyProof.Rows.callWith_type1 (thn (ha pos pins s σ H _ I h) λ us s1 ⟨vs,H1,I1,r1,q1⟩=>?_) hs hpl));obtain⟨c,d,xs,ys,e,hq1,hq2,q⟩:=q1;subst e;obtain⟨v1,v2,rfl,rr1,rr2⟩:=vals2 r1;cases (show _=Value.ref c from rr1);cases (show _=Value.ref d from rr2);obtain⟨its1,rv1,p1⟩:=Inv.sqB I1 hq1;obtain⟨its2,rv2,p2⟩:=Inv.sqB I1 hq2;have a1:c<s1.heap.objs.size:=p1.lt;have a2:d<s1.heap.objs.size:=p2.lt;refine ZT.aa3 hp₁ p1 p2 λ h' Z kp=>?_;have I2:Inv X pins σ H1 {s1 with heap:=h'}:=I1.kept (t':=s1.toks) kp;refine wpAny_pyIter_zip Z.z ?_;refine⟨_,[_,_,_,_,_],_,_,H1,rfl,I2,xv (zipApart_new a1 a2),⟨Z.z,Z.t,⟨_,_,Z.o⟩,Z.i.1,Z.j.1⟩,λ e he=>?_,q⟩;have z:s1.heap.objs.size<=e:=by
  have z:e=s1.heap.objs.size+4\/e=s1.heap.objs.size+2\/e=s1.heap.objs.size+3\/e=s1.heap.objs.size\/e=s1.heap.objs.size+1:=by simpa using he
  rcases z with z | z | z | z | z<;>rw[z]<;>first | exact Nat.le_refl _ | exact Nat.le_add_right _ _
 exact I1.vX z (I1.hok.fresh z)
section
variable {X:Cx}{K:FG}{a b:Expr}{p pos:Pos}{t:TAd}
def sqD(b:Bool)(ds:List PyData):PyData:=match b with
 | true=>.tuple ds
 | false=>.list ds
theorem yz{b:Bool}{ds:List PyData}{v:V}(r:aB K H (sqD b ds) v):∃ c xs,v=.ref c/\SqB b K H c xs/\(∀ H',Kp H H'->SqB b K H' c xs)/\bD K H ds xs:=by
 cases b with
 | true =>
  simp only[sqD,aB] at r;obtain⟨c,xs,e,h1,h2⟩:=r;exact⟨c,xs,e,h1,λ H' k=>SqT.keep k h1,h2⟩
 | false =>
  simp only[sqD,aB] at r;obtain⟨c,xs,e,h1,h2⟩:=r;exact⟨c,xs,e,h1.sq,λ H' k=>(h1.keep k).sq,h2⟩
def ahV(p q:Bool)(t:TAd)(τ:DS)(M:MH)(R:List W->MH->Prop):Prop:=t τ M λ ws M1=>∃ ds es,ws=[.d (sqD p ds),.d (sqD q es)]/\R (mi ds es) M1
def aa7(t:TAd)(τ:DS)(M:MH)(R:List W->MH->Prop):Prop:=t τ M λ ws M1=>∃ ds es,ws=[.d (.tuple ds),.d (.tuple es)]/\R (mi ds es) M1
def xj(t:TAd)(τ:DS)(M:MH)(R:List W->MH->Prop):Prop:=t τ M λ ws M1=>∃ ds es,ws=[.d (.tuple ds),.d (.list es)]/\R (mi ds es) M1
theorem uC{p₁ p₂:Bool}(hp₁:p₁=true){elts:List Expr}{x1:Nat}{tpos:Pos}(hg:Gl X "zip")(hm:X.mg "zip" = none)(ha:PAd X [a,b] t)(h1:fu a=false:=by rfl)(h2:([b].all λ e=>!fu e)=true:=by rfl) :
  PId X (.Tuple elts x1 tpos) (.Call (.Name "zip" p) [a,b] [] pos) (ahV p₁ p₂ t):=ahi (aci hp₁ hg hm ha (cq a [b] X.env h1) (d3 pos X.env [b] h2)) λ σ H R hq85=>by
 obtain⟨τ,M,Rd,A,h,k⟩:=hq85;refine⟨τ,M,_,A,h,λ vs H1 ws M1 kp r m hq86=>?_⟩;obtain⟨ds,es,ew,q⟩:=hq86;subst ew;obtain⟨v,v',ev,r1,r2⟩:=l3 r;obtain⟨c,xs,e1,hs,ks,ra⟩:=yz r1;obtain⟨d,ys,e2,hs',ks',ra'⟩:=yz r2;subst e1 e2;have hl:=ra.length;have hl':=ra'.length;refine⟨c,d,xs,ys,ev,hs,hs',k _ H1 _ M1 kp m (λ H2 kp2 i=>?_) q⟩;have hs2:=ks _ kp2;have hs2':=ks' _ kp2;have hlw:(mi ds es).length=min xs.length ys.length:=by simp[mi,hl,hl']
 refine⟨λ hi=>⟨xs,ys,xs[i]'(by omega),ys[i]'(by omega),hs2,hs2',by simp,by simp⟩,λ hi=>⟨xs,ys,hs2,hs2',by omega⟩,λ x H' hi hq87=>?_⟩;obtain⟨T,u,v,hT,ex,eH,hu,hv⟩:=hq87;subst ex eH;have hxu:=hu xs hs2;have hxv:=hv ys hs2';obtain⟨d1,e3,rd⟩:=(ra.keep kp2).get' hxu;obtain⟨d2,e4,rd'⟩:=(ra'.keep kp2).get' hxv;have kpn:Kp H2 (upd H2 T (.tup [u,v])):=Kp.new hT;have hid:i<min ds.length es.length:=by rw[hlw] at hi;omega
 refine⟨kpn,λ M m=>m.new hT,.d (.tuple [ds.getD i .none,es.getD i .none]),by unfold mi;rw[List.getElem?_map,List.getElem?_range hid];rfl,?_⟩;have ed:ds.getD i .none=d1:=by simp[List.getD,e3]
 have ed':es.getD i .none=d2:=by simp[List.getD,e4]
 rw[ed,ed'];simp only[aH,aB,bD];exact⟨T,_,rfl,.inl (.inl aP),_,_,rfl,rd.keep kpn,_,_,rfl,rd'.keep kpn,rfl⟩
end
def zT(ds:List PyData)(d:PyData)(j:Nat):Prop:=j<ds.length/\(∀ y,ds[j]? =some y->PyData.eqv y d=true)/\∀ m y,m<j->ds[m]? =some y->PyData.eqv y d=false
def agW(K:FG):V->List V->Hp->VK->Prop:=λ x vs H Q=>∃ y d ds j,vs=[y]/\aB K H (.tuple ds) x/\j7 K H d y/\sU d ds=true/\zT ds d j/\Q (.int (j:Nat)) H
theorem zL(hr:gm k X.A):MtM X "tuple.index" (agW X.K):=by
 intro pins s σ H x vs v us Q I rx rv h;obtain⟨y,d,ds,j,rfl,h1,h2,o,⟨j0,j1,j2⟩,q⟩:=h;obtain⟨u,rfl,ru⟩:=rv.one;simp only[sU,sh,Bool.and_eq_true,Bool.not_eq_true'] at o;obtain⟨⟨o1,o2⟩,o3,o4⟩:=o;obtain⟨as,r2⟩:=dh I d h2 ru o2;obtain⟨bs,r1⟩:=dM I (.tuple ds) h1 rx o4;have c3:PyData.canLayAll0 ds=true:=SeqAt.canLay_of_shaped o3;cases r1 with
 | @tuple a ob its n _ as1 e1 e2 e3 e4 =>
  obtain⟨cls,dd,data,sl⟩:=ob;simp only at e2 e3;subst e2 e3;have em:=SeqAt.readsAll_map ds _ _ c3 e4;have hlen:ds.length=its.size:=by have:=congrArg List.length em;simpa using this.symm
  have hat:∀ m (hm:m<its.size),ds[m]? =some (SeqAt.readOf s.heap its[m]):=λ m hm=>by rw[<- em,List.getElem?_map];simp[hm]
  refine call_meets F.slot_tuple_index ⟨_,e1,rfl⟩ F.entry_tuple_index (F.args_tuple_index_2 _ _) (SeqAt.o6 a its n dd sl u (λ z=>PyData.eqv (SeqAt.readOf s.heap z) d) j (by omega) (j1 _ (hat j (by omega))) (λ m hm hlt=>j2 m _ hlt (hat m hm)))
   ⟨e1,SeqAt.items_eqAt e4 r2 c3 (SeqAt.canLay_of_shaped o1) (lJ hr.h o1),⟨.int _,H,I.tok _,⟨_,rfl⟩,q⟩⟩
def xB(td te:TD)(τ:DS)(M:MH)(Q:QD):Prop:=td τ M λ w M1=>∃ ds,w=.d (.tuple ds)/\te τ M1 λ y M2=>∃ d j,y=.d d/\sU d ds=true/\zT ds d j/\Q (.d (.int (j:Nat))) M2
theorem lY(hg:Gl X "zip")(hm:X.mg "zip" = none)(ha:Jd (PAd X [a,b] t))(h1:fu a=false:=by rfl)(h2:([b].all λ e=>!fu e)=true:=by rfl):Jd (PId X (.Tuple elts x1 tpos) (.Call (.Name "zip" p) [a,b] [] pos) (aa7 t)):=⟨have ha:=ha.h;uC (p₁:=true) (p₂:=true) rfl hg hm ha h1 h2⟩
theorem nq(hg:Gl X "zip")(hm:X.mg "zip" = none)(ha:Jd (PAd X [a,b] t))(h1:fu a=false:=by rfl)(h2:([b].all λ e=>!fu e)=true:=by rfl):Jd (PId X (.Tuple elts x1 tpos) (.Call (.Name "zip" p) [a,b] [] pos) (xj t)):=⟨have ha:=ha.h;uC (p₁:=true) (p₂:=false) rfl hg hm ha h1 h2⟩
theorem rO(hr:gm k X.A)(ho:Jd (PD X o td))(he:Jd (PD X e te))
  (hbase:attributeBase o "index" X.env (eval o X.env)=eval o X.env:=by rfl)
  (hfew:((backTo cpos (starEach [e] X.env)).all (λ x=>!x.1)&&(backToKw cpos (keywordEach [] X.env)).all (λ x=>x.1.isSome)
   && decide (([e]:List Expr).length+([]:List Keyword).length+(if ([]:List Keyword).isEmpty then 0 else 1)<30))=true:=by rfl)
  (hline:(apos.endLine==cpos.line)=true:=by rfl)(hs:fu e=false:=by rfl):Jd (PD X (.Call (.Attribute o "index" apos) [e] [] cpos) (xB td te)):=⟨have ho:=ho.h;have he:=he.h;
 fS (sx PySem.F.plainAttrs_tuple PySem.F.slot_tuple_index PySem.F.type_tuple_index (zL hr) ho (pac he gv hs) hbase hfew hline (cq e [] X.env hs) rfl) λ σ H Q h=>by obtain⟨τ,M,Qd,A,h,k⟩:=h;refine⟨τ,M,_,A,h,λ x H1 w M1 kp1 r1 m1 hq88=>?_⟩;obtain⟨ds,ew,q1⟩:=hq88;subst ew;have r1':=r1;simp only[aH,aB] at r1';obtain⟨a,vs,ex,hsq,ra⟩:=r1';subst ex;refine⟨.inr (.inl ⟨rfl,vs,hsq⟩),τ,M1,aes (λ y M2=>∃ d j,y=.d d/\sU d ds=true/\zT ds d j/\Qd (.d (.int (j:Nat))) M2),A.go kp1 m1,q1,λ ys H2 wys M2 kp2 r2 m2 q2=>?_⟩;obtain⟨y,ey,d,j,ed,ok,hj,q4⟩:=md q2;subst ey ed;obtain⟨v,ev,rv⟩:=da r2;subst ev;exact⟨v,d,ds,j,rfl,r1.keep kp2,.inl rv,ok,hj,k _ _ (.d (.int _)) _ (kp1.trans kp2) (by simp[aH,aB]) m2 q4⟩⟩
section
variable {X:Cx}{K:FG}
theorem qm:eL X (.type "str") (λ xs H Q=>(∃ z,xs=[.str z]/\Q (.str z) H)\/∃ i:Int,xs=[.int i]/\i.natAbs.log2<1920/\Q (.str (Str.ofString (toString i))) H):=by
 intro pins s σ H xs us Q I r h;rcases h with ⟨z,rfl,q⟩ | ⟨i,rfl,hi,q⟩
 ·obtain⟨u,rfl,t,rfl⟩:=vals1 r;exact PySem.P.str_of_str ⟨.str z,H,I,⟨_,rfl⟩,q⟩
 ·obtain⟨u,rfl,t,rfl⟩:=vals1 r;exact PySem.P.str_of_int hi ⟨.str _,H,I.tok _,⟨_,rfl⟩,q⟩
def aaF(ws:List W)(M:MH)(Q:QD):Prop:=(∃ z,ws=[.d (.str z)]/\Q (.d (.str z)) M)\/∃ i:Int,ws=[.d (.int i)]/\i.natAbs.log2<1920/\Q (.d (.str (Str.ofString (toString i)))) M
theorem abg:fz K (λ xs H Q=>(∃ z,xs=[.str z]/\Q (.str z) H)\/∃ i:Int,xs=[.int i]/\i.natAbs.log2<1920/\Q (.str (Str.ofString (toString i))) H) aaF:=by
 intro vs H ws M Qd Q r m h k;rcases h with ⟨z,e,q⟩ | ⟨i,e,hi,q⟩
 ·subst e;obtain⟨v,e1,r1⟩:=da r;simp only[aH,aB] at r1;subst r1;exact .inl ⟨z,e1,k _ H (.d (.str z)) M (Kp.refl H) (by simp[aH,aB]) m q⟩
 ·subst e;obtain⟨v,e1,r1⟩:=da r;simp only[aH,aB] at r1;subst r1;exact .inr ⟨i,e1,hi,k _ H (.d (.str _)) M (Kp.refl H) (by simp[aH,aB]) m q⟩
theorem iA:eL X (.type "int") (λ xs H Q=>∃ z n,xs=[.str z]/\PySem.intText? z=some n/\z.length<=640/\Q (.int n) H):=by intro pins s σ H xs us Q I r h;obtain⟨z,n,rfl,hz,hl,q⟩:=h;obtain⟨u,rfl,t,rfl⟩:=vals1 r;exact W.KIN.call_text hz hl ⟨.int n,H,I.tok _,⟨_,rfl⟩,q⟩
def hZ(ws:List W)(M:MH)(Q:QD):Prop:=∃ z n,ws=[.d (.str z)]/\PySem.intText? z=some n/\z.length<=640/\Q (.d (.int n)) M
theorem ou:fz K (λ xs H Q=>∃ z n,xs=[.str z]/\PySem.intText? z=some n/\z.length<=640/\Q (.int n) H) hZ:=by intro vs H ws M Qd Q r m ⟨z,n,e,hz,hl,q⟩ k;subst e;obtain⟨v,e1,r1⟩:=da r;simp only[aH,aB] at r1;subst r1;exact⟨z,n,e1,hz,hl,k _ H (.d (.int n)) M (Kp.refl H) (by simp[aH,aB]) m q⟩
end
theorem xU(hy:(y.length==0)=false)(hsz:x.length+2<=sizeLine)
  (h:∀ l tk,l.map (·.1)=Txt.split x y->Q (.ref s.heap.objs.size) {s with heap:=s.heap.push {cls:=.type "list",data:=.seq (strValues l).toArray},toks:=tk}) :
  wpAny (model prog w) A (call (.builtin "str.split") [.str x t,.str y u]) Q E s:=by
 have len2:(Builtin.Str.partsBetween x (Builtin.Str.occurrences x y 0 x.length (x.length+1)) y.length).length<=sizeLine\/True:=.inr trivial;cases c1:(decide (x.length<y.length) || decide (Builtin.Str.strKind x<Builtin.Str.strKind y)) with
 | true=>exact call_meets F.slot_str_split (typeIs_str _ _ _) F.entry_str_split (F.args_str_split_2 _ _) (meets_str_split_cannot_occur x y t u c1) (h [(x,t)] _ (if_pos c1).symm)
 | false =>
  cases c2:(Builtin.Str.occurrences x y 0 x.length (x.length+1)).isEmpty with
  | true=>exact call_meets F.slot_str_split (typeIs_str _ _ _) F.entry_str_split (F.args_str_split_2 _ _) (meets_str_split_not_found x y t u c1 hy c2) (h [(x,t)] _ ((if_neg (ne_true_of_eq_false c1)).trans (if_pos c2)).symm)
  | false =>
   have es:Txt.split x y=Builtin.Str.partsBetween x (Builtin.Str.occurrences x y 0 x.length (x.length+1)) y.length:=(if_neg (ne_true_of_eq_false c1)).trans (if_neg (ne_true_of_eq_false c2));have hl:=split_le x y;rw[es] at hl;refine call_meets F.slot_str_split (typeIs_str _ _ _) F.entry_str_split (F.args_str_split_2 _ _) (meets_str_split_sep x y t u c1 hy c2 (by omega) (by omega)) ?_;show wants Q E _ {s with toks:=_,heap:=s.heap.push {cls:=.type "list",data:=.seq (strsFrom s.toks (Builtin.Str.partsBetween x (Builtin.Str.occurrences x y 0 x.length (x.length+1)) y.length)).toArray}};rw[strsFrom_eq];exact h (numbered s.toks _) _ ((numbered_texts _ _).trans es.symm)
section
variable {X:Cx}{K:FG}
theorem hB:∀ (l:List (Str×Tok)),Vals ((l.map (·.1)).map V.str) (strValues l)
 | []=>.nil
 | p::l=>.cons ⟨_,rfl⟩ (hB l)
theorem iG:∀ zs:List Str,bD K H (zs.map PyData.str) (zs.map V.str)
 | []=>by simp[bD]
 | z::zs=>by simp only[List.map_cons,bD];exact⟨_,_,rfl,by simp[aB],iG zs⟩
def agt(K:FG):V->List V->Hp->VK->Prop:=λ x vs H Q=>∃ z y:Str,x=.str z/\vs=[.str y]/\(y.length==0)=false/\z.length+2<=sizeLine/\∀ p,H p=none->Q (.ref p) (upd H p (.lst ((Txt.split z y).map V.str)))
theorem aaw:MtM X "str.split" (agt X.K):=by
 intro pins s σ H x vs v us Q I rx rv h;obtain⟨z,y,rfl,rfl,hy,hz,q⟩:=h;obtain⟨t,rfl⟩:=rx;obtain⟨u,rfl,t',rfl⟩:=vals1 rv;refine xU hy hz λ l tk el=>?_;have hl:=split_le z y;have e2:=congrArg List.length el;simp only[List.length_map] at e2;have I2:Inv X pins σ (upd H s.heap.objs.size (.lst ((Txt.split z y).map V.str))) {s with heap:=s.heap.push {cls:=.type "list",data:=.seq (strValues l).toArray},toks:=tk}:=
  I.laid (t':=tk) (λ b o e=>Heap.get?_push_of_some _ e) (Nat.le_refl _) (show cR X.prog X.w _ _ _ (.lst _) from⟨by rw[List.length_map];omega,strValues l,0,by rw[<- el];exact hB l,Heap.get?_push_size _ rfl⟩)
 exact⟨.ref s.heap.objs.size,_,I2,rfl,q _ (I.hok.fresh (Nat.le_refl _))⟩
def t9(td te:TD)(τ:DS)(M:MH)(Q:QD):Prop:=td τ M λ w M1=>∃ z,w=.d (.str z)/\te τ M1 λ v M2=>∃ y,v=.d (.str y)/\(y.length==0)=false/\z.length+2<=sizeLine/\Q (.d (.list ((Txt.split z y).map PyData.str))) M2
end
section
variable {X:Cx}{e st:Expr}{te:TE}{ts:TO}{pos p2:Pos}
end
section
variable {X:Cx}{K:FG}{e st:Expr}{te:TD}{ts:TOd}{pos p2:Pos}
end
def aiH(kvs:List (Str×PyData))(ty:TE):TE:=λ σ H Q=>ty σ H λ y H1=>∃ z,y=.str z/\Q (.bl (bY kvs z).isSome) H1
theorem afp(hg:Gl X x)(hm:X.mg x=some (.ref a))(kd:gx X.w X.K a kvs)(he:PE X e ty)(hd:ND x:=by decide):PC X .In e (.Name x p) (aiH kvs ty):=by
 intro pins s σ H Q I h;refine thn (he pins s σ H _ I h) λ iv s1 hq90=>?_;obtain⟨y,H1,I1,ry,z,ey,q1⟩:=hq90;subst ey;refine thn (fM (v:=.ref a) hg hm rfl hd pins s1 σ H1 (λ v H'=>v=.ref a/\H'=H1) I1 ⟨rfl,rfl⟩) λ u s2 hq91=>?_;obtain⟨x1,H2,I2,rx,ex,eH⟩:=hq91;subst ex eH;obtain rfl:u=Value.ref a:=rx;obtain⟨L,vs,rel,dd,pr⟩:=kd.dd I2;have lv:=gy z pr;refine wpAny_in_of (oI (k:=.inr z) ry) kd.ns dd.mapOf ?_;rw[<- (rel.val (.inr z)).xC];have e:(bY kvs z).isSome=(mS L (.inr z)).isSome:=by
  cases q:bY kvs z with
  | none=>rw[q] at lv;rw[OR.none_of lv];rfl
  | some d=>rw[q] at lv;obtain⟨b,eb,_⟩:=OR.some_of lv;rw[eb];rfl
 rw[<- e];exact⟨.bl _,H2,I2.tok _,rfl,q1⟩
def agm(kvs:List (Str×PyData))(te:TD)(τ:DS)(M:MH)(Q:QD):Prop:=te τ M λ w M1=>∃ z,w=.d (.str z)/\Q (.d (.bool (bY kvs z).isSome)) M1
theorem adi{K:FG}{σ:St}{H:Hp}{Q:VK}(h:up K (agm kvs te) σ H Q):aiH kvs (up K te) σ H Q:=by obtain⟨τ,M,Qd,A,h,k⟩:=h;refine⟨τ,M,_,A,h,λ y H1 w M1 kp r m1 hq92=>?_⟩;obtain⟨z,ew,q⟩:=hq92;subst ew;simp only[aH,aB] at r;exact⟨z,r,k _ H1 (.d (.bool _)) M1 kp (by simp[aH,aB]) m1 q⟩
section
variable {X:Cx}{e st:Expr}{a:Addr}{x:Str}{kvs:List (Str×PyData)}{pos p p2:Pos}{te:TD}{ts:TOd}
theorem oY(hg:Gl X x)(hm:X.mg x=some (.ref a))(kd:gx X.w X.K a kvs)(he:Jd (PD X e te))(hb:behindInMarks .In (.Name x p)=false:=by rfl)(hd:ND x:=by decide):Jd (PTd X (.Compare e [.In] [.Name x p] pos) (aE (agm kvs te))):=⟨have he:=he.h;
 aer (afr (afp hg hm kd he hd) hb) λ σ H Q h=>kf (λ σ H Q h=>adi h) h⟩
end
theorem lF(ho:Jd (PD X o td))(he:Jd (PD X e te))
  (hbase:attributeBase o "split" X.env (eval o X.env)=eval o X.env:=by rfl)
  (hfew:((backTo cpos (starEach [e] X.env)).all (λ x=>!x.1)&&(backToKw cpos (keywordEach [] X.env)).all (λ x=>x.1.isSome)
   && decide (([e]:List Expr).length+([]:List Keyword).length+(if ([]:List Keyword).isEmpty then 0 else 1)<30))=true:=by rfl)
  (hline:(apos.endLine==cpos.line)=true:=by rfl)(hs:fu e=false:=by rfl):Jd (PD X (.Call (.Attribute o "split" apos) [e] [] cpos) (t9 td te)):=⟨have ho:=ho.h;have he:=he.h;
 fS (iD (sx PySem.F.plainAttrs_str PySem.F.slot_str_split PySem.F.type_str_split aaw ho (pac he gv hs) hbase hfew hline (cq e [] X.env hs) rfl)) λ σ H Q h=>by obtain⟨τ,M,Qd,A,h,k⟩:=h;refine⟨τ,M,_,A,h,λ x H1 w M1 kp1 r1 m1 hq89=>?_⟩;obtain⟨z,ew,q1⟩:=hq89;subst ew;simp only[aH,aB] at r1;subst r1;refine⟨rfl,τ,M1,aes (λ v M2=>∃ y,v=.d (.str y)/\(y.length==0)=false/\z.length+2<=sizeLine/\Qd (.d (.list ((Txt.split z y).map PyData.str))) M2),A.go kp1 m1,q1,λ ys H2 wys M2 kp2 r2 m2 q2=>?_⟩;obtain⟨w',ey,y,ed,hy,hz,q4⟩:=md q2;subst ey ed;obtain⟨v,ev,rv⟩:=da r2;simp only[aH,aB] at rv;subst ev rv;exact⟨z,y,rfl,rfl,hy,hz,λ p hp=>ik hp (iG _) m2 q4 (kgo k (kp1.trans kp2))⟩⟩
end D
namespace XO
open PySem.W
def xno(K:Frag)(C:Addr):Bool:=xmk K C&&(match K.lookup C with
 | some ⟨_,_,.cls cd,_⟩=>tailIn K tj cd.mro
 | _=>false)
section
variable {prog:Program}{w:World}{A:Around}{E:VP}{K:Frag}{C:Addr}{h:Heap}{g:Array GenState}{d:Drawn}{t:Nat}{os:OsState}
theorem ag3(X:K.In h)(q:xno K C=true)(hz:us.length<=sizeLine)(k:∀ h' e,Heap.MadeExcOf h h' e (.ref C) us->Q (.ref e) ⟨h',g,d,t,os⟩) :
  wpAny (model prog w) A (call (.ref C) us) Q E ⟨h,g,d,t,os⟩:=by
 unfold xno at q;rw[Bool.and_eq_true] at q;obtain⟨q1,q2⟩:=q;obtain⟨nm,q',N,bs,bm,hdct,sn,sub,ab,col,dd,k0,k1,k2,k3,k5,hC,T⟩:=af9 X q1
 split at q2
 ·rename_i c0 d0 cd sl hk
  have e1:=X _ _ hk;rw[hC] at e1;cases e1;have T2:=tail_of_in X q2;generalize hl:(Value.ref C::bm)=l at T2;cases T2 with
  | base=>cases hl
  | own hA hN hi _ =>
   cases hl;rw[hC] at hA;cases hA;exact wpAny_call_exc_subT PySem.F.excBase_ValueError T hC hN hi k hz
 ·cases q2
end
end XO
namespace D
open L2 XO
section
variable {X:Cx}{pos p cpos np hpos:Pos}{k:Nat}{f C:Addr}{x:Str}{e:Expr}{es:List Expr}{t:TAd}{E:XE}
def jB(C:Addr)(E:XE)(t:TAd)(_:Ed)(τ:DS)(M:MH):Prop:=t τ M λ ws M1=>ws.length<=1000/\∀ a,M1 a=none->E a τ (dR M1 a (.exc C []))
variable {body suite:List Stmt}{b0:Stmt}{hs:List ExceptHandler}{th rest:Addr->TSd}{ts:TSd}
end
section
variable {X:Cx}{K:FG}
variable {o e:Expr}{td te:TD}{apos cpos:Pos}
end
section
variable {X:Cx}{e st:Expr}{te:TE}{ts:TO}{pos p2:Pos}
end
section
variable {X:Cx}{e st:Expr}{te:TD}{ts:TOd}{pos p2:Pos}
end
section
variable {X:Cx}{K:FG}
end
section
variable {X:Cx}{pos p cpos apos np hpos p2:Pos}{k:Nat}{f C:Addr}{x y:Str}{e o st:Expr}{es:List Expr}{t:TAd}{E:XE}{body suite:List Stmt}{b0:Stmt}{hs:List ExceptHandler}{rest:Addr->TSd}{ts:TSd}{fd:FuncData}{ps:List Str}{sp:SpX}{td te:TD}{to:TOd}
theorem eD(L:Lk X E)(xc:XC X.K C)(xn:xno X.K C=true)(ty:W.typeIn X.K (.ref C)=some (.type "type"))(kc:W.keepIn X.K (.ref C)=true)(hr:gm k X.A)(hg:Gl X x)(hm:X.mg x=some (.ref C))(ha:Jd (PAd X (e::es) t))
  (hdb:ND x:=by decide)(h1:fu e=false:=by rfl)(h2:(es.all λ e=>!fu e)=true:=by rfl):Jd (PSd X (.Raise (some (.Call (.Name x p) (e::es) [] cpos)) none pos) (jB C E t)):=⟨have ha:=ha.h;by
 intro pins s σ H D I h;obtain⟨τ,M,Dd,A,h,_⟩:=h;rw[arm_exec_Raise];refine wpAny_bind (wpAny_standAt (agX (K:=X.K) hr.hd (wpAny_bind ?_)));refine wpAny_Call_Name_kw (jH I hg hm ?_ hdb);refine W.callWith_K (h₀:=X.base) I.ok.mod.kin kc (thn (ha cpos pins s σ H (λ vs H1=>∃ ws M1,Kp H H1/\bQ X.K H1 ws vs/\dJ X.K H1 M1/\ws.length<=1000/\∀ a,M1 a=none->E a τ (dR M1 a (.exc C []))) I
  ⟨τ,M,_,A,h,λ vs H1 ws M1 kp r m q=>⟨ws,M1,kp,r,m,q⟩⟩) λ us s1 ⟨vs,H1,I1,r,ws,M1,kp,rw1,m1,hz,q⟩=>⟨I1.kIn,?_⟩) (cq e es X.env h1) (d3 cpos X.env es h2)
 refine ag3 (h:=s1.heap) (g:=s1.gens) (d:=s1.drawn) (t:=s1.toks) (os:=s1.os) I1.kIn xn (by show us.length<=_;have:=r.length;have:=rw1.length;have:=s16;omega) λ h' a hq93=>?_;obtain⟨kk,hn,T,oa,_,_⟩:=hq93;refine wpAny_bind (wpAny_standAt (wpAny_pure ?_));have e0:H1 a=none:=sH I1.hok hn;have oa':h'.get? a=some (kh C none #[.ref T,.none,.none,.none,.bool false,.none]):=oa;have I5:Inv X pins σ (upd H1 a (.ext (XF a C none true))) {s1 with heap:=h'}:=Inv.agf (t':=s1.toks) I1 kk hn (ad1 oa' λ _=>rfl);have k5:Kp H1 (upd H1 a (.ext (XF a C none true))):=Kp.new e0;have m5:dJ X.K (upd H1 a (.ext (XF a C none true))) (dR M1 a (.exc C [])):=λ b mo z=>by
  by_cases hb:b=a
  ·subst hb;rw[aC] at z;cases z;exact⟨_,none,aP,λ h ⟨vs,y,c⟩=>⟨vs,y,λ _=>c rfl⟩,.inl ⟨rfl,rfl⟩⟩
  ·rw[de hb] at z;exact(m1 b mo z).keep k5 λ u y=>by rw[aO hb];exact y
 refine⟨a,C,none,_,rfl,I5.kIn,xc.x,ty,oa',rfl,?_⟩;exact L pins σ _ _ a τ _ I5 ⟨C,none,_,true,aP,oa',.inl rfl,λ _=>rfl⟩ (A.go (kp.trans k5) m5) (q a (m1.free e0))⟩
end
end D
namespace ZS
end ZS
namespace D
open L2
section
variable {X:Cx}{K:FG}
def agF:R2:=λ x y H Q=>∃ z n,x=.str z/\y=.int n/\z.length=1/\1<=n/\n<=10000/\Q (.str (Txt.mul z n)) H
theorem adN:OpR X (binaryOp .Mult) agF:=by
 intro pins s σ H x y v u Q I rx ry h;obtain⟨z,n,rfl,rfl,hz,h1,h2,q⟩:=h;obtain⟨t,rfl⟩:=rx;obtain⟨t',rfl⟩:=ry;have hm:(10000:Int)<2 ^ 62:=by decide
 refine SB.mul ⟨?_,λ _ _=>?_,λ _ _=>?_⟩ λ t' k=>⟨.str (Txt.mul z n),H,I.tok _,⟨_,rfl⟩,q⟩
 ·simp;omega
 ·rw[hz];have:1<=(2 ^ 63-1:Int) / n:=by rw[Int.le_ediv_iff_mul_le (by omega)];omega
  omega
 ·rw[hz];have s16':=s16;unfold PySem.Builtin.Str.tooLong;exact decide_eq_false (by omega)
def abC(w:W)(w':W)(M:MH)(Q:QD):Prop:=∃ z n,w=.d (.str z)/\w'=.d (.int n)/\z.length=1/\1<=n/\n<=10000/\Q (.d (.str (Txt.mul z n))) M
theorem aaq:OpD K agF abC:=by intro x y H w w' M Qd Q r1 r2 m ⟨z,n,e1,e2,hz,h1,h2,q⟩ k;subst e1 e2;simp only[aH,aB] at r1 r2;exact⟨z,n,r1,r2,hz,h1,h2,k _ _ (.d (.str _)) M (Kp.refl _) (by simp[aH,aB]) m q⟩
end
end D
namespace RT
end RT
namespace D
open L2
section
variable {X:Cx}{K:FG}
variable {o e:Expr}{td:TD}{apos cpos:Pos}
variable {a:Expr}{ta:TA}{p p2 pos pos2:Pos}
end
end D
namespace L2
open PySem.W (envX kla_obj kla_fn)
section
variable {X:Cx}{pins:PN}{σ:St}{H:Hp}{s:Shared}{sc:Scope}{x q:Str}{fr:List Nat}{cl:List (Str×Addr)}{f c:Addr}
end
section
variable {X:Cx}{pins:PN}{σ:St}{H:Hp}{s:Shared}
end
end L2
namespace D
open L2
open PySem.W (kla_obj kla_fn)
section
variable {X:Cx}{K:FG}
variable {P cd:Addr}{q x:Str}{lpos pos p kpos:Pos}{params:Arguments}{body o:Expr}{sc:Scope}{fr:List Nat}{to tb:TD}{k:Nat}
end
end D
namespace L2
end L2
namespace D
open L2
section
variable {P:Program}{w:World}{K:FG}{mg:Str->Option Value}{base:Heap}
end
section
variable {X:Cx}{K:FG}
variable {o e:Expr}{to:TE}{td te:TD}{apos cpos p pos:Pos}
end
end D
set_option maxHeartbeats 0
namespace D
open L2
section
variable {X:Cx}{a b:Expr}{rest:List Expr}{pos:Pos}{ta tb:TE}
end
section
variable {X:Cx}{K:FG}{e:Expr}{te:TE}{p pos kpos kp:Pos}{j:Nat}
end
section
variable {X:Cx}{a b o e:Expr}{rest:List Expr}{ta tb td te:TD}{apos cpos p pos kpos kp:Pos}{j:Nat}
end
section
variable {X:Cx}{K:FG}{pins:PN}{σ:St}{H:Hp}{s:Shared}
end
section
variable {K:FG}
end
abbrev PFn(K:FG)(x:Str)(st:Stmt):Prop:=∃ (f:Addr) (oc kV dc pm cd ct:Value) (od an:Option Addr) (sl:Array (Option Value)),W.nsIn K mainGlobals x=some (some (.ref f))/\K.lookup f=some ⟨oc,od,.func (W.fnOf x x (cI st) (bU st) (ao st) .none kV dc pm an cd ct),sl⟩/\W.codeIn K cd x=true/\W.keepIn K (.ref f)=true
abbrev PMf(K:FG)(C:Addr)(m x:Str)(st:Stmt):Prop:=∃ (f:Addr) (oc kV dc pm cd ct:Value) (od an:Option Addr) (sl:Array (Option Value)),W.findIn K (.ref C) m=some (some (.ref f))/\W.isFn K (.ref f)=true/\K.lookup f=some ⟨oc,od,.func (W.fnOf m x (cI st) (bU st) (ao st) .none kV dc pm an cd ct),sl⟩/\W.codeIn K cd x=true/\W.keepIn K (.ref f)=true
theorem afK{K:FG}{x:Str}{st:Stmt}{f:Addr}{oc kV dc pm cd ct:Value}{od an:Option Addr}{sl:Array (Option Value)}(a:W.nsIn K mainGlobals x=some (some (.ref f)))(l:K.lookup f=some ⟨oc,od,.func (W.fnOf x x (cI st) (bU st) (ao st) .none kV dc pm an cd ct),sl⟩)(c:W.codeIn K cd x=true)(k:W.keepIn K (.ref f)=true):PFn K x st:=⟨_,_,_,_,_,_,_,_,_,_,a,l,c,k⟩
theorem afL{K:FG}{C:Addr}{m x:Str}{st:Stmt}{f:Addr}{oc kV dc pm cd ct:Value}{od an:Option Addr}{sl:Array (Option Value)}(a:W.findIn K (.ref C) m=some (some (.ref f)))(i:W.isFn K (.ref f)=true)(l:K.lookup f=some ⟨oc,od,.func (W.fnOf m x (cI st) (bU st) (ao st) .none kV dc pm an cd ct),sl⟩)(c:W.codeIn K cd x=true)(k:W.keepIn K (.ref f)=true):PMf K C m x st:=⟨_,_,_,_,_,_,_,_,_,_,a,i,l,c,k⟩
theorem PFn.fn{K:FG}{h:Heap}{mg:Str->Option Value}{x:Str}{st:Stmt}{ps:List Str}(p:PFn K x st)(X:K.In h)(G:h.Ns mainGlobals mg)
  (b:∀ (kV doc pm:Value) (an:Option Addr) (cdv ct:Value) (us:List Value),us.length=ps.length->bindArgs (W.fnOf x x (cI st) (bU st) (ao st) .none kV doc pm an cdv ct) ⟨us,[]⟩=pure (ps.zip us)):∃ f fd,Fn K mg x st ps f fd:=
 let ⟨f,_,_,_,_,_,_,_,_,_,a,l,c,k⟩:=p; ⟨f,_,agd X G a l c k b⟩
abbrev ZZ(P:Program)(w:World)(K:FG)(mg:Str->Option Value)(base:Heap)(F:Addr->FuncData->Prop)(n:Nat)(ps:List Str)(sp:SpD):Prop:=∃ f fd,F f fd/\cU P w K mg base CX0 n f fd ps (eQ K sp)
end D
namespace L2
section
variable {P:Program}{w:World}{K:FG}{mg:Str->Option Value}{base:Heap}
end
end L2
namespace D
open L2
section
variable {P:Program}{w:World}{K:FG}{mg:Str->Option Value}{base:Heap}
end
open XO
section
variable {X:Cx}{K:FG}
end
end D
namespace PySem.AutoSeq1
open PySem.MeetsSeq PySem.MeetsSeq2 PySem.MeetsSeq3 PyProof.Rows
end PySem.AutoSeq1
namespace D
open L2
section
variable {P:Program}{w:World}{K:FG}{mg:Str->Option Value}{base:Heap}
end
end D
namespace PySem.AutoSeq1
open PySem.MeetsSeq PySem.MeetsSeq2 PySem.MeetsSeq3 PyProof.Rows
end PySem.AutoSeq1
namespace D
open L2
section
variable {X:Cx}{K:FG}
end
end D
namespace XO
open PySem.W
section
variable {prog:Program}{w:World}{A:Around}{E:VP}{s:Shared}{K:Frag}{env:PySem.Env}{e h0 C0:Addr}{dct0:Option Addr}{vs0:Array Value}
end
end XO
namespace L2
open XO
section
variable {P:Program}{w:World}{K:FG}{mg:Str->Option Value}{base:Heap}{C f:Addr}{fd:FuncData}{qual:Str}{st:Stmt}
end
end L2
namespace D
open L2 XO
section
variable {X:Cx}{pos p cpos:Pos}{k:Nat}{f C:Addr}{fd:FuncData}{ps fs:List Str}{x:Str}{e:Expr}{es:List Expr}{t:TAd}{E:XE}
variable {body suite:List Stmt}{b0:Stmt}{hs:List ExceptHandler}{th rest:Addr->TSd}{np hpos:Pos}
end
section
variable {X:Cx}{pos p cpos:Pos}{k:Nat}{f C:Addr}{fd:FuncData}{ps fs:List Str}{x:Str}{e:Expr}{es:List Expr}{t:TAd}{E:XE}
variable {suite:List Stmt}{b0:Stmt}{hs:List ExceptHandler}{rest:Addr->TSd}{np hpos:Pos}
end
section
variable {X:Cx}{K:FG}
variable {o e:Expr}{td te:TD}{apos cpos:Pos}
end
section
variable {X:Cx}{o i:Expr}{td ti:TD}{tpos pos:Pos}
end
end D
namespace L2
section
variable {X:Cx}{CX:CXT}{k:Nat}{f C:Addr}{fd:FuncData}{ps:List Str}{sp:Sp}{E:XK}{pins:PN}{σ:St}{H:Hp}{s:Shared}{Q:VK}{us:List Value}{vs:List V}{dvs:List V}{ds:List Value}
end
end L2
namespace D
open L2 XO
section
variable {X:Cx}{pins:PN}{σ:St}{H:Hp}{s:Shared}{a:Addr}{kvs:List (Str×Addr)}
end
section
variable {X:Cx}{e:Expr}{a:Addr}{x:Str}{kvs:List (Str×Addr)}{pos p apos cpos:Pos}{ty:TE}{te:TD}
end
section
variable {X:Cx}{pos p apos:Pos}{k:Nat}{f C:Addr}{fd:FuncData}{ps:List Str}{sp:SpX}{x m dz:Str}{e o:Expr}{es:List Expr}{t:TAd}{td:TD}{E:XE}
end
section
variable {X:Cx}{e o i:Expr}{a:Addr}{x m dz:Str}{kvs:List (Str×Addr)}{pos p apos cpos tpos:Pos}{te td ti:TD}{k:Nat}{f C:Addr}{fd:FuncData}{ps:List Str}{sp:SpX}{es:List Expr}{t:TAd}{E:XE}
end
end D
namespace L2
section
variable {X:Cx}{CX:CXT}{k:Nat}{f C:Addr}{fd:FuncData}{ps:List Str}{sp:Sp}{E:XK}{pins:PN}{σ:St}{H:Hp}{s:Shared}{Q:VK}{us:List Value}{vs:List V}{v:V}{u:Value}{kn:Str}
end
end L2
namespace D
open L2 XO
section
variable {X:Cx}{pos p apos kpos:Pos}{k:Nat}{f C:Addr}{fd:FuncData}{ps:List Str}{sp:SpX}{m kn:Str}{e o g:Expr}{es:List Expr}{t:TAd}{td tk:TD}{E:XE}
end
section
variable {X:Cx}{pos p apos kpos:Pos}{k:Nat}{f C:Addr}{fd:FuncData}{ps:List Str}{sp:SpX}{m kn:Str}{e o g:Expr}{es:List Expr}{t:TAd}{td tk:TD}{E:XE}
end
open S
section
variable {X:Cx}{pins:PN}{σ:St}{H H':Hp}{s:Shared}{h':Heap}
end
section
variable {X:Cx}{o:Expr}{to:TE}{apos cpos p pos:Pos}
end
section
variable {X:Cx}{o:Expr}{td:TD}{apos cpos p pos:Pos}
end
end D
namespace L2
theorem gm.m{j k:Nat}{A:PySem.Around}(r:gm k A)(h:j<=k:=by decide):gm j A:=r.mono h
end L2
namespace D
open L2
abbrev PXi(K:FG)(C:Addr)(x:Str)(st:Stmt):Prop:=∃ (f:Addr) (oc kV dc pm cd ct:Value) (od an:Option Addr) (sl:Array (Option Value)),W.findIn K (.ref C) "__init__" = some (some (.ref f))/\W.typeIn K (.ref f)=some (.type "function")/\K.lookup f=some ⟨oc,od,.func (W.fnOf "__init__" x (cI st) (bU st) (ao st) .none kV dc pm an cd ct),sl⟩/\W.codeIn K cd x=true/\W.keepIn K (.ref f)=true/\XO.xmk K C=true/\W.typeIn K (.ref C)=some (.type "type")/\W.keepIn K (.ref C)=true
theorem aeQ{K:FG}{C:Addr}{x:Str}{st:Stmt}{f:Addr}{oc kV dc pm cd ct:Value}{od an:Option Addr}{sl:Array (Option Value)}(a:W.findIn K (.ref C) "__init__" = some (some (.ref f)))(i:W.typeIn K (.ref f)=some (.type "function"))(l:K.lookup f=some ⟨oc,od,.func (W.fnOf "__init__" x (cI st) (bU st) (ao st) .none kV dc pm an cd ct),sl⟩)(c:W.codeIn K cd x=true)(k:W.keepIn K (.ref f)=true)(m:XO.xmk K C=true)(t:W.typeIn K (.ref C)=some (.type "type"))(n:W.keepIn K (.ref C)=true):PXi K C x st:=⟨_,_,_,_,_,_,_,_,_,_,a,i,l,c,k,m,t,n⟩
abbrev PXc(K:FG)(C:Addr):Prop:=XO.age K C=true/\W.findIn K (.ref C) "__setattr__" = some (some (.builtin "object.__setattr__"))/\W.findIn K (.ref C) "__getattribute__" = some (some (.builtin "BaseException.__getattribute__"))/\W.findIn K (.ref C) "__getattr__" = some none/\W.findIn K (.ref C) "__class__" = some (some (.builtin "object.__class__"))
theorem PXc.xc{K:FG}{C:Addr}(p:PXc K C)(g1:W.specialIn K (.builtin "object.__class__") "__get__" = some (some (.builtin "getset_descriptor.__get__")))(g2:W.takesIn K (.builtin "object.__class__")=some true):XO.XC K C:=⟨p.1,p.2.1,p.2.2.1,p.2.2.2.1,p.2.2.2.2,g1,g2⟩
abbrev EdQ(Q:QD):Ed:={nx:=λ _ M'=>Q (.d .none) M',rt:=Q}
abbrev Ln(sp:SpD)(n:Nat):Prop:=∀ ws M Q,sp ws M Q->ws.length=n
abbrev LnX(sp:SpX)(n:Nat):Prop:=∀ ws M Q E,sp ws M Q E->ws.length=n
abbrev Rd(sp:SpD)(t:TSd)(N:List Str):Prop:=∀ ws M Q,sp ws M Q->t (EdQ Q) (dQ N ws) M
abbrev RdX(sp:SpX)(t:XE->TSd)(N:List Str):Prop:=∀ ws M Q E,sp ws M Q E->t (λ a _ M=>E a M) (EdQ Q) (dQ N ws) M
abbrev dS(z:Str):TD:=dC (.d (.str z))
abbrev dI(n:Int):TD:=dC (.d (.int n))
def part3(z y:Str):List Str:=match Builtin.Str.occurrences z y 0 z.length 1 with
 | i::_=>[Builtin.Str.strSub z 0 i,y,Builtin.Str.strSub z (i+y.length) z.length]
 | []=>[z,Str.empty,Str.empty]
section
variable {prog:Program}{w:World}{A:Around}{E:VP}{s:Shared}{x y:Str}{t u v:Tok}{k:Int}{Q:VP}
theorem aa0(hy:(y.length==0)=false)(hsz:x.length<=sizeLine)
  (h:∀ l tk,l.map (·.1)=part3 x y->Q (.ref s.heap.objs.size) {s with heap:=s.heap.push {cls:=.type "tuple",data:=.seq (strValues l).toArray},toks:=tk}) :
  wpAny (model prog w) A (call (.builtin "str.partition") [.str x t,.str y u]) Q E s:=by
 refine call_meets F.slot_str_partition (typeIs_str _ _ _) F.entry_str_partition (F.args_str_partition_2 _ _) (S:=λ _ R s=>∀ l tk,l.map (·.1)=part3 x y->R (.ok (.ret (.ref s.heap.objs.size))) {s with heap:=s.heap.push {cls:=.type "tuple",data:=.seq (strValues l).toArray},toks:=tk}) ?_ λ l tk e=>h l tk e;refine .of_wp λ prog w A R s h=>?_;obtain⟨raising,htree⟩:=partition_tree x y t u;rw[htree,hy];unfold part3 at h;show wpAny _ _ (match Builtin.Str.occurrences x y 0 x.length 1 with
    | i::_=>(do ret (<- newTuple [<- mkStr (Builtin.Str.strSub x 0 i),.str y u,<- mkStr (Builtin.Str.strSub x (i+y.length) x.length)]))
    | []=>(do rule "str.partition.not-found";let empty <- mkStr Str.empty;ret (<- newTuple [.str x t,empty,empty]))) _ _ s
 revert h;cases Builtin.Str.occurrences x y 0 x.length 1 with
 | nil =>
  intro h;exact wpAny_bind (wpAny_rule (wpAny_bind (wpAny_mkStr (wpAny_bind (wpAny_newTuple (wpAny_pure ⟨_,rfl,h [(x,t),(Str.empty,s.toks),(Str.empty,s.toks)] _ rfl⟩) (by show 3<=sizeLine;decide))) (by decide))))
 | cons i r =>
  intro h;exact wpAny_bind (wpAny_mkStr (wpAny_bind (wpAny_mkStr (wpAny_bind (wpAny_newTuple (wpAny_pure ⟨_,rfl,h [(_,s.toks),(y,u),(_,s.toks+1)] _ rfl⟩) (by show 3<=sizeLine;decide))) (Nat.le_trans (strSub_length_le ..) hsz))) (Nat.le_trans (strSub_length_le ..) hsz))
theorem qj(x y:Str)(k:Int):(Txt.splitMax x y k).length<=x.length+2:=by
 unfold Txt.splitMax
 split
 ·simp
 ·split
  ·simp
  ·rw[len_partsBetween];have:=StrLaws.occ_length_le_len x y 0 x.length (limitOf x k);omega
theorem vF(hk:(decide (k < -(2 ^ 63:Int)) || decide (k >= 2 ^ 63))=false)(hy:(y.length==0)=false)(hsz:x.length+2<=sizeLine)
  (h:∀ l tk,l.map (·.1)=Txt.splitMax x y k->Q (.ref s.heap.objs.size) {s with heap:=s.heap.push {cls:=.type "list",data:=.seq (strValues l).toArray},toks:=tk}) :
  wpAny (model prog w) A (call (.builtin "str.split") [.str x t,.str y u,.int k v]) Q E s:=by
 cases c1:(decide (x.length<y.length) || decide (Builtin.Str.strKind x<Builtin.Str.strKind y)) with
 | true=>exact call_meets F.slot_str_split (typeIs_str _ _ _) F.entry_str_split (F.args_str_split_3 _ _ _) (meets_str_split_max_cannot_occur x y k t u v hk c1) (h [(x,t)] _ (if_pos c1).symm)
 | false =>
  cases c2:(Builtin.Str.occurrences x y 0 x.length (limitOf x k)).isEmpty with
  | true=>exact call_meets F.slot_str_split (typeIs_str _ _ _) F.entry_str_split (F.args_str_split_3 _ _ _) (meets_str_split_max_not_found x y k t u v hk c1 hy c2) (h [(x,t)] _ ((if_neg (ne_true_of_eq_false c1)).trans (if_pos c2)).symm)
  | false =>
   have es:Txt.splitMax x y k=Builtin.Str.partsBetween x (Builtin.Str.occurrences x y 0 x.length (limitOf x k)) y.length:=(if_neg (ne_true_of_eq_false c1)).trans (if_neg (ne_true_of_eq_false c2));have hl:=qj x y k;rw[es] at hl;refine call_meets F.slot_str_split (typeIs_str _ _ _) F.entry_str_split (F.args_str_split_3 _ _ _) (meets_str_split_sep_max x y k t u v hk c1 hy c2 (by omega) (by omega)) ?_;show wants Q E _ {s with toks:=_,heap:=s.heap.push {cls:=.type "list",data:=.seq (strsFrom s.toks (Builtin.Str.partsBetween x (Builtin.Str.occurrences x y 0 x.length (limitOf x k)) y.length)).toArray}};rw[strsFrom_eq];exact h (numbered s.toks _) _ ((numbered_texts _ _).trans es.symm)
end
section
variable {X:Cx}{K:FG}
def ahm:V->List V->Hp->VK->Prop:=λ x vs H Q=>∃ z y:Str,x=.str z/\vs=[.str y]/\(y.length==0)=false/\z.length<=sizeLine/\∀ p,H p=none->Q (.ref p) (upd H p (.tup ((part3 z y).map V.str)))
theorem wL(z y:Str):(part3 z y).length=3:=by unfold part3;split<;>rfl
theorem acz:MtM X "str.partition" ahm:=by
 intro pins s σ H x vs v us Q I rx rv h;obtain⟨z,y,rfl,rfl,hy,hz,q⟩:=h;obtain⟨t,rfl⟩:=rx;obtain⟨u,rfl,t',rfl⟩:=vals1 rv;refine aa0 hy hz λ l tk el=>?_;have I2:Inv X pins σ (upd H s.heap.objs.size (.tup ((part3 z y).map V.str))) {s with heap:=s.heap.push {cls:=.type "tuple",data:=.seq (strValues l).toArray},toks:=tk}:=
  I.laid (t':=tk) (λ b o e=>Heap.get?_push_of_some _ e) (Nat.le_refl _) (show cR X.prog X.w _ _ _ (.tup _) from⟨by rw[List.length_map,wL];decide,strValues l,by rw[<- el];exact hB l,_,Heap.get?_push_size _ rfl,rfl,rfl,_,rfl⟩)
 exact⟨.ref s.heap.objs.size,_,I2,rfl,q _ (I.hok.fresh (Nat.le_refl _))⟩
def ab4:V->List V->Hp->VK->Prop:=λ x vs H Q=>∃ z y:Str,∃ n:Int,x=.str z/\vs=[.str y,.int n]/\(y.length==0)=false/\z.length+2<=sizeLine/\0<=n/\n<1000/\∀ p,H p=none->Q (.ref p) (upd H p (.lst ((Txt.splitMax z y n).map V.str)))
theorem yE:MtM X "str.split" ab4:=by
 intro pins s σ H x vs v us Q I rx rv h;obtain⟨z,y,n,rfl,rfl,hy,hz,n0,n1,q⟩:=h;obtain⟨t,rfl⟩:=rx;obtain⟨u,u',rfl,⟨t',rfl⟩,t2,rfl⟩:=vals2 rv;have e63:(2:Int) ^ 63=9223372036854775808:=by decide
 refine vF (by simp;omega) hy hz λ l tk el=>?_;have hl:=qj z y n;have e2:=congrArg List.length el;simp only[List.length_map] at e2;have I2:Inv X pins σ (upd H s.heap.objs.size (.lst ((Txt.splitMax z y n).map V.str))) {s with heap:=s.heap.push {cls:=.type "list",data:=.seq (strValues l).toArray},toks:=tk}:=
  I.laid (t':=tk) (λ b o e=>Heap.get?_push_of_some _ e) (Nat.le_refl _) (show cR X.prog X.w _ _ _ (.lst _) from⟨by rw[List.length_map];omega,strValues l,0,by rw[<- el];exact hB l,Heap.get?_push_size _ rfl⟩)
 exact⟨.ref s.heap.objs.size,_,I2,rfl,q _ (I.hok.fresh (Nat.le_refl _))⟩
variable {o e e':Expr}{td te tn:TD}{apos cpos:Pos}
def ai2(td te:TD)(τ:DS)(M:MH)(Q:QD):Prop:=td τ M λ w M1=>∃ z,w=.d (.str z)/\te τ M1 λ v M2=>∃ y,v=.d (.str y)/\(y.length==0)=false/\z.length<=sizeLine/\Q (.d (.tuple ((part3 z y).map PyData.str))) M2
def yq(td te tn:TD)(τ:DS)(M:MH)(Q:QD):Prop:=td τ M λ w M1=>∃ z,w=.d (.str z)/\te τ M1 λ v M2=>tn τ M2 λ u M3=>∃ y,∃ n:Int,v=.d (.str y)/\u=.d (.int n)/\(y.length==0)=false/\z.length+2<=sizeLine/\0<=n/\n<1000/\Q (.d (.list ((Txt.splitMax z y n).map PyData.str))) M3
def two2(R:W->W->MH->Prop)(ws:List W)(M:MH):Prop:=match ws with
 | [y,z]=>R y z M
 | _=>False
theorem two2_of{R:W->W->MH->Prop}{ws:List W}{M:MH}(h:two2 R ws M):∃ y z,ws=[y,z]/\R y z M:=by
 match ws,h with
 | [y,z],h=>exact⟨y,z,rfl,h⟩
theorem aaI(ho:Jd (PD X o td))(he:Jd (PD X e te))
  (hbase:attributeBase o "partition" X.env (eval o X.env)=eval o X.env:=by rfl)
  (hfew:((backTo cpos (starEach [e] X.env)).all (λ x=>!x.1)&&(backToKw cpos (keywordEach [] X.env)).all (λ x=>x.1.isSome)
   && decide (([e]:List Expr).length+([]:List Keyword).length+(if ([]:List Keyword).isEmpty then 0 else 1)<30))=true:=by rfl)
  (hline:(apos.endLine==cpos.line)=true:=by rfl)(hs:fu e=false:=by rfl):Jd (PD X (.Call (.Attribute o "partition" apos) [e] [] cpos) (ai2 td te)):=⟨have ho:=ho.h;have he:=he.h;
 fS (sx PySem.F.plainAttrs_str PySem.F.slot_str_partition PySem.F.type_str_partition acz ho (pac he gv hs) hbase hfew hline (cq e [] X.env hs) rfl) λ σ H Q h=>by obtain⟨τ,M,Qd,A,h,k⟩:=h;refine⟨τ,M,_,A,h,λ x H1 w M1 kp1 r1 m1 hq94=>?_⟩;obtain⟨z,ew,q1⟩:=hq94;subst ew;simp only[aH,aB] at r1;subst r1;refine⟨rfl,τ,M1,aes (λ v M2=>∃ y,v=.d (.str y)/\(y.length==0)=false/\z.length<=sizeLine/\Qd (.d (.tuple ((part3 z y).map PyData.str))) M2),A.go kp1 m1,q1,λ ys H2 wys M2 kp2 r2 m2 q2=>?_⟩;obtain⟨w',ey,y,ed,hy,hz,q4⟩:=md q2;subst ey ed;obtain⟨v,ev,rv⟩:=da r2;simp only[aH,aB] at rv;subst ev rv;refine⟨z,y,rfl,rfl,hy,hz,λ p hp=>?_⟩;have kp:Kp H2 (upd H2 p (.tup ((part3 z y).map V.str))):=Kp.new hp;refine k _ _ (.d (.tuple ((part3 z y).map PyData.str))) M2 ((kp1.trans kp2).trans kp) ?_ (m2.new hp) q4;simp only[aH,aB];exact⟨p,_,rfl,.inl (.inl aP),iG _⟩⟩
theorem vd(ho:Jd (PD X o td))(he:Jd (PD X e te))(hn:Jd (PD X e' tn))
  (hbase:attributeBase o "split" X.env (eval o X.env)=eval o X.env:=by rfl)
  (hfew:((backTo cpos (starEach [e,e'] X.env)).all (λ x=>!x.1)&&(backToKw cpos (keywordEach [] X.env)).all (λ x=>x.1.isSome)
   && decide (([e,e']:List Expr).length+([]:List Keyword).length+(if ([]:List Keyword).isEmpty then 0 else 1)<30))=true:=by rfl)
  (hline:(apos.endLine==cpos.line)=true:=by rfl)(hs:fu e=false:=by rfl)(hs':fu e'=false:=by rfl)(hp:(backTo cpos (starEach [e'] X.env)).any (·.1)=false:=by rfl):Jd (PD X (.Call (.Attribute o "split" apos) [e,e'] [] cpos) (yq td te tn)):=⟨have ho:=ho.h;have he:=he.h;have hn:=hn.h;
 fS (iD (sx PySem.F.plainAttrs_str PySem.F.slot_str_split PySem.F.type_str_split yE ho (pac he (pac hn gv hs') hs) hbase hfew hline (cq e [e'] X.env hs) hp)) λ σ H Q h=>by obtain⟨τ,M,Qd,A,h,k⟩:=h;refine⟨τ,M,_,A,h,λ x H1 w M1 kp1 r1 m1 hq95=>?_⟩;obtain⟨z,ew,q1⟩:=hq95;subst ew;simp only[aH,aB] at r1;subst r1;refine⟨rfl,τ,M1,two2 (λ v u M3=>∃ y,∃ n:Int,v=.d (.str y)/\u=.d (.int n)/\(y.length==0)=false/\z.length+2<=sizeLine/\0<=n/\n<1000/\Qd (.d (.list ((Txt.splitMax z y n).map PyData.str))) M3),A.go kp1 m1,q1,λ ys H2 wys M2 kp2 r2 m2 q2=>?_⟩;obtain⟨w',w2,ey,y,n,ed,en,hy,hz,n0,n1,q4⟩:=two2_of q2;subst ey ed en;obtain⟨v,v',ev,rv,rv'⟩:=l3 r2;simp only[aH,aB] at rv rv';subst ev rv rv';exact⟨z,y,n,rfl,rfl,hy,hz,n0,n1,λ p hp=>ik hp (iG _) m2 q4 (kgo k (kp1.trans kp2))⟩⟩
end
section
variable {X:Cx}{e f:Expr}{a:Addr}{x:Str}{kvs:List (Str×PyData)}{pos p apos cpos:Pos}{ty tx:TE}{te tf:TD}
def agj(K:FG)(kvs:List (Str×PyData))(ty tx:TE):TE:=λ σ H Q=>ty σ H λ y H1=>tx σ H1 λ w H2=>∃ z,y=.str z/\∀ v,(match bY kvs z with | some d=>∀ H,aB K H d v | none=>v=w)->Q v H2
theorem aaM(hg:Gl X x)(hm:X.mg x=some (.ref a))(kd:gx X.w X.K a kvs)(he:PE X e ty)(hf:PE X f tx)(m:M2 X (.Name x p) "get" apos e f cpos)(hd:ND x:=by decide):PE X (.Call (.Attribute (.Name x p) "get" apos) [e,f] [] cpos) (agj X.K kvs ty tx):=by
 intro pins s σ H Q I h;refine wpAny_Call_method m.base m.few m.line PySem.F.plainAttrs_dict PySem.F.slot_dict_get PySem.F.type_dict_get (thn (fM (v:=.ref a) hg hm rfl hd pins s σ H (λ v H'=>v=.ref a/\H'=H) I ⟨rfl,rfl⟩) λ u s1 hq96=>?_);obtain⟨x1,H1,I1,rx,ex,eH⟩:=hq96;subst ex eH;obtain rfl:u=Value.ref a:=rx;obtain⟨L,vs,rel,dd,pr⟩:=kd.dd I1;refine⟨dd.typeIs,λ b q=>?_,?_⟩
 ·cases q;obtain⟨ob,_,_,h1,h2,_⟩:=dd;exact⟨ob,h1,h2.2.1⟩
 rw[m.trees];refine Calls.callWith_builtin rfl (Calls.evalArgs_plain (Calls.spliced_cons (thn (he pins s1 σ H1 _ I1 h) λ iv s2 ⟨y,H2,I2,ry,q2⟩=>Calls.spliced_cons (thn (hf pins s2 σ H2 _ I2 q2) λ fv s3 ⟨w0,H3,I3,rz,z,ey,q3⟩=>Calls.spliced_nil ?_))));subst ey;obtain⟨L,vs,rel,dd,pr⟩:=kd.dd I3;have lv:=gy z pr;refine call_meetsIn PySem.F.slot_dict_get dd.typeIs PySem.F.entry_dict_get (PySem.F.args_dict_get_3 _ _ _) (meets_dict_get_default (a9 X.prog X.w) a (oI (k:=.inr z) ry) kd.ns fv) ⟨_,dd.mapOf,?_⟩;refine⟨(mS L (.inr z)).getD w0,H3,I3.tok _,(rel.val (.inr z)).getD rz,q3 _ ?_⟩;cases q:bY kvs z with
 | none =>
  rw[q] at lv;rw[OR.none_of lv];rfl
 | some d =>
  rw[q] at lv;obtain⟨b,eb,rb⟩:=OR.some_of lv;rw[eb];exact λ H=>rb H
def abB(kvs:List (Str×PyData))(te tf:TD)(τ:DS)(M:MH)(Q:QD):Prop:=te τ M λ w M1=>tf τ M1 λ u M2=>∃ z d,w=.d (.str z)/\u=.d d/\Q (.d ((bY kvs z).getD d)) M2
theorem yY(hg:Gl X x)(hm:X.mg x=some (.ref a))(kd:gx X.w X.K a kvs)(he:Jd (PD X e te))(hf:Jd (PD X f tf))(m:M2 X (.Name x p) "get" apos e f cpos:=by exact⟨rfl,rfl,rfl,rfl⟩)(hd:ND x:=by decide):Jd (PD X (.Call (.Attribute (.Name x p) "get" apos) [e,f] [] cpos) (abB kvs te tf)):=⟨have he:=he.h;have hf:=hf.h;
 fS (aaM hg hm kd he hf m hd) λ σ H Q h=>by
  obtain⟨τ,M,Qd,A,h,k⟩:=h;refine⟨τ,M,_,A,h,λ y H1 w M1 kp r m1 h1=>⟨τ,M1,_,A.go kp m1,h1,λ u H2 w2 M2 kp2 r2 m2 hq97=>?_⟩⟩;obtain⟨z,d,ew,eu,q⟩:=hq97;subst ew eu;simp only[aH,aB] at r;refine⟨z,r,λ v hv=>k _ H2 (.d _) M2 (kp.trans kp2) ?_ m2 q⟩;cases l:bY kvs z with
  | none =>
   rw[l] at hv;subst hv;exact r2
  | some d' =>
   rw[l] at hv;exact hv H2⟩
end
end D
namespace XO
open PySem.W
section
variable {M:Model}{A:Around}{E:VP}{s:Shared}{base:Heap}{env:PySem.Env}{outer:List PySem.Env}{L e C T:Addr}{dct:Option Addr}{vs:Array Value}
theorem ais{Q:Unit->Shared->Prop}(hfr:A.frames=some (env::outer))(hl:s.heap.FunFrames base (env::outer))(hf:env.frame=some L)(he:s.heap.get? e=some (kh C dct vs))(tb:1<vs.size)
  (q:∀ h' vs',h'.get? e=some (kh C dct vs')->Tb h' e vs'->vs'[1]? ≠ some .none->vs'[2]? =vs[2]? -> Seen ((env::outer).filterMap (·.frame)) e s.heap h'->Q () {s with heap:=h'})(head:Value)(had:Bool) :
  wpAny M A (do let a <- frameOf env;let pl <- entryPlaceOf L had;let b <- EntryCells.newEntry head a .none (rawInt L) .none pl;setField (.ref e) 1 b) (λ _ s1=>wpAny M A (setFlight (.ref e) none) Q E s1) E s:=by
 have nfr:∀ b o us,s.heap.get? b=some o->o.data=.fields us->b ∉ (env::outer).filterMap (·.frame):=λ b o us z zd hm=>by obtain⟨_,o',ho,hn⟩:=hl.mem hm;rw[z] at ho;cases ho;exact hn us zd
 refine wpAny_bind (wpAny_frameOf_fun hfr hl hf λ h1 so=>wpAny_bind (wpAny_entryPlaceOf λ pl hpl=>?_));unfold EntryCells.newEntry newFields;refine wpAny_bind (wpAny_newObj_type ?_ (hpl.sizeOk5 _ _ _ _ _));have e1:h1.get? e=some (kh C dct vs):=(so.2.1 e (nfr e _ vs he rfl)).trans he;generalize hts:([head,Value.ref L,.none,rawInt L,.none]++(if pl.isEmpty then List.replicate 6 Value.none else pl)).toArray=ts;have hts3:3<ts.size:=by rw[<- hts];simp only[List.size_toArray,List.length_append,List.length_cons,List.length_nil]<;>omega
 have e2:=Heap.get?_push_of_some (h:=h1) {cls:=.type "traceback",dict:=none,data:=.fields ts} e1;refine wpAny_setField e2 rfl tb ?_;have ne:h1.objs.size≠e:=Nat.ne_of_gt (Heap.lt_size e1);have e3:((h1.push {cls:=.type "traceback",dict:=none,data:=.fields ts}).update e (Obj.mapFields (·.setIfInBounds 1 (Value.ref h1.objs.size)))).get? e=some (kh C dct (vs.setIfInBounds 1 (Value.ref h1.objs.size))):=
  Heap.get?_update_self _ e2 rfl
 have e4:((h1.push {cls:=.type "traceback",dict:=none,data:=.fields ts}).update e (Obj.mapFields (·.setIfInBounds 1 (Value.ref h1.objs.size)))).get? h1.objs.size=some {cls:=.type "traceback",dict:=none,data:=.fields ts}:=
  (Heap.get?_update_other _ _ (Ne.symm ne)).trans (Heap.get?_push_size h1 rfl)
 have v1:(vs.setIfInBounds 1 (Value.ref h1.objs.size))[1]? =some (Value.ref h1.objs.size):=by simp[tb]
 unfold setFlight;refine wpAny_bind (wpAny_field e3 rfl v1 ?_);rw[if_pos (show(Value.ref h1.objs.size != Value.none)=true from by simp)];refine wpAny_setField e4 rfl hts3 (q _ (vs.setIfInBounds 1 (Value.ref h1.objs.size)) ?_ (.inr ⟨h1.objs.size,_,ts.setIfInBounds 3 .none,v1,ne,Heap.get?_update_self _ e4 rfl,rfl,by simp[hts3]⟩) (by rw[v1];intro z;cases z) (by simp) ?_)
 ·rw[Heap.get?_update_other _ _ ne];exact e3
 ·have kp:∀ b o,b≠e->h1.get? b=some o->(((h1.push {cls:=.type "traceback",dict:=none,data:=.fields ts}).update e (Obj.mapFields (·.setIfInBounds 1 (Value.ref h1.objs.size)))).update h1.objs.size
    (Obj.mapFields (·.setIfInBounds 3 ((none:Option Addr).elim Value.none λ f=>rawInt f)))).get? b=some o:=λ b o hb z=>by
   rw[Heap.get?_update_other _ _ (Nat.ne_of_gt (Heap.lt_size z)),Heap.get?_update_other _ _ (Ne.symm hb)];exact Heap.get?_push_of_some _ z
  refine⟨λ b o hb hm z=>kp b o hb ((so.2.1 b hm).trans z),λ b o hm z=>?_⟩;obtain⟨sl,z2⟩:=so.2.2 b o z;exact⟨sl,kp b _ (λ w=>nfr e _ vs he rfl (w ▸ hm)) z2⟩
structure aeU(fs:List Addr)(e T:Addr)(h h':Heap):Prop where
 keep:∀ b o,b≠e->b≠T->b ∉ fs->h.get? b=some o->h'.get? b=some o
 slot:∀ b o,b∈fs->h.get? b=some o->∃ sl,h'.get? b=some {o with slots:=sl}
theorem acR{oT:Obj}{ts:Array Value}{Q:Unit->Shared->Prop}(hfr:A.frames=some (env::outer))(hl:s.heap.FunFrames base (env::outer))(hf:env.frame=some L)(he:s.heap.get? e=some (kh C dct vs))
  (z1:vs[1]? =some (.ref T))(z2:T≠e)(z3:s.heap.get? T=some oT)(z4:oT.data=.fields ts)(z5:3<ts.size)
  (q:∀ h' vs',h'.get? e=some (kh C dct vs')->Tb h' e vs'->vs'[2]? =vs[2]? -> (∃ o,h'.get? T=some o)->aeU ((env::outer).filterMap (·.frame)) e T s.heap h'->Q () {s with heap:=h'}) :
  wpAny M A (noteFrame (.ref e) env) (λ _ s1=>wpAny M A (setFlight (.ref e) none) Q E s1) E s:=by
 have hv:1<vs.size:=(Array.getElem?_eq_some_iff.mp z1).1;have nT:T ∉ (env::outer).filterMap (·.frame):=λ hm=>by obtain⟨_,o',ho,hn⟩:=hl.mem hm;rw[z3] at ho;cases ho;exact hn ts z4
 have hT:(s.heap.update T (Obj.mapFields (·.setIfInBounds 3 Value.none))).get? T=some {oT with data:=.fields (ts.setIfInBounds 3 .none)}:=by
  clear q;obtain⟨c,d,dt,sl⟩:=oT;subst z4;exact Heap.get?_update_self _ z3 rfl
 have ho:∀ b o,b≠T->s.heap.get? b=some o->(s.heap.update T (Obj.mapFields (·.setIfInBounds 3 Value.none))).get? b=some o:=λ b o n z=>(Heap.get?_update_other _ _ (Ne.symm n)).trans z;have h5:(ts.setIfInBounds 3 Value.none)[3]? =some .none:=by simp[z5]
 unfold noteFrame;simp only[hf];refine wpAny_bind (wpAny_field he rfl z1 ?_);rw[if_pos (show(Value.ref T != Value.none)=true from by simp)];refine wpAny_bind (wpAny_field z3 z4 (Array.getElem?_eq_getElem z5) ?_)
 by_cases hq:(ts[3]==rawInt L)=true
 ·rw[if_pos hq];refine wpAny_pure ?_;unfold setFlight;refine wpAny_bind (wpAny_field he rfl z1 ?_);rw[if_pos (show(Value.ref T != Value.none)=true from by simp)];exact wpAny_setField z3 z4 z5 (q _ vs (ho e _ (Ne.symm z2) he) (.inr ⟨T,_,_,z1,z2,hT,rfl,h5⟩) rfl ⟨_,hT⟩ ⟨λ b o hb ht _ z=>ho b o ht z,λ b o hm z=>⟨o.slots,ho b o (λ w=>nT (w ▸ hm)) z⟩⟩)
 ·rw[if_neg hq];refine wpAny_bind (wpAny_setField z3 z4 z5 ?_);have hl2:(s.heap.update T (Obj.mapFields (·.setIfInBounds 3 Value.none))).FunFrames base (env::outer):=hl.of_keeps λ b o z hn=>⟨o,ho b o (λ w=>by subst w;rw[z3] at z;cases z;exact hn ts z4) z,rfl⟩;exact ais (s:={s with heap:=s.heap.update T (Obj.mapFields (·.setIfInBounds 3 Value.none))}) hfr hl2 hf (ho e _ (Ne.symm z2) he) hv (λ h' vs' g1 g2 _ g4 g3=>q h' vs' g1 g2 g4 ⟨_,g3.keep T _ z2 nT hT⟩ ⟨λ b o hb ht hm z=>g3.keep b o hb hm (ho b o ht z),λ b o hm z=>g3.slot b o hm (ho b o (λ w=>nT (w ▸ hm)) z)⟩) _ _
theorem ahA{Q:Unit->Shared->Prop}(hfr:A.frames=some (env::outer))(hl:s.heap.FunFrames base (env::outer))(hf:env.frame=some L)(he:s.heap.get? e=some (kh C dct vs))(tb:Tb s.heap e vs)
  (q:∀ h' vs' T oT ts,h'.get? e=some (kh C dct vs')->vs'[1]? =some (.ref T)->T≠e->h'.get? T=some oT->oT.data=.fields ts->3<ts.size->vs'[2]? =vs[2]? -> s.heap.objs.size<=T->Seen ((env::outer).filterMap (·.frame)) e s.heap h'->Q () {s with heap:=h'}) :
  wpAny M A (noteFrame (.ref e) env) Q E s:=by
 have nfr:∀ b o us,s.heap.get? b=some o->o.data=.fields us->b ∉ (env::outer).filterMap (·.frame):=λ b o us z zd hm=>by obtain⟨_,o',ho,hn⟩:=hl.mem hm;rw[z] at ho;cases ho;exact hn us zd
 have main:∀ (head:Value) (had:Bool),wpAny M A (do let a <- frameOf env;let pl <- entryPlaceOf L had;let b <- EntryCells.newEntry head a .none (rawInt L) .none pl;setField (.ref e) 1 b) Q E s:=by
  intro head had;refine wpAny_bind (wpAny_frameOf_fun hfr hl hf λ h1 so=>wpAny_bind (wpAny_entryPlaceOf λ pl hpl=>?_));unfold EntryCells.newEntry newFields;refine wpAny_bind (wpAny_newObj_type ?_ (hpl.sizeOk5 _ _ _ _ _));have e1:h1.get? e=some (kh C dct vs):=(so.2.1 e (nfr e _ vs he rfl)).trans he;generalize hts:([head,Value.ref L,.none,rawInt L,.none]++(if pl.isEmpty then List.replicate 6 Value.none else pl)).toArray=ts;have hts3:3<ts.size:=by rw[<- hts];simp only[List.size_toArray,List.length_append,List.length_cons,List.length_nil]<;>omega
  have e2:=Heap.get?_push_of_some (h:=h1) {cls:=.type "traceback",dict:=none,data:=.fields ts} e1;refine wpAny_setField e2 rfl tb.size ?_;have ne:h1.objs.size≠e:=Nat.ne_of_gt (Heap.lt_size e1);have e3:((h1.push {cls:=.type "traceback",dict:=none,data:=.fields ts}).update e (Obj.mapFields (·.setIfInBounds 1 (Value.ref h1.objs.size)))).get? e=some (kh C dct (vs.setIfInBounds 1 (Value.ref h1.objs.size))):=
   Heap.get?_update_self _ e2 rfl
  have e4:((h1.push {cls:=.type "traceback",dict:=none,data:=.fields ts}).update e (Obj.mapFields (·.setIfInBounds 1 (Value.ref h1.objs.size)))).get? h1.objs.size=some {cls:=.type "traceback",dict:=none,data:=.fields ts}:=
   (Heap.get?_update_other _ _ (Ne.symm ne)).trans (Heap.get?_push_size h1 rfl)
  have v1:(vs.setIfInBounds 1 (Value.ref h1.objs.size))[1]? =some (Value.ref h1.objs.size):=by simp[tb.size]
  have kp:∀ b o,b≠e->h1.get? b=some o->((h1.push {cls:=.type "traceback",dict:=none,data:=.fields ts}).update e (Obj.mapFields (·.setIfInBounds 1 (Value.ref h1.objs.size)))).get? b=some o:=λ b o hb z=>by rw[Heap.get?_update_other _ _ (Ne.symm hb)];exact Heap.get?_push_of_some _ z
  refine q _ _ h1.objs.size _ ts e3 v1 ne e4 rfl hts3 (by simp) ?_ ⟨λ b o hb hm z=>kp b o hb ((so.2.1 b hm).trans z),λ b o hm z=>?_⟩
  ·exact Nat.le_of_eq so.1.symm
  ·obtain⟨sl,z2⟩:=so.2.2 b o z;exact⟨sl,kp b _ (λ w=>nfr e _ vs he rfl (w ▸ hm)) z2⟩
 unfold noteFrame;simp only[hf];rcases tb with z | ⟨T,oT,ts,z1,z2,z3,z4,z5⟩
 ·refine wpAny_bind (wpAny_field he rfl z ?_);rw[if_neg (by decide)];exact main _ _
 ·refine wpAny_bind (wpAny_field he rfl z1 ?_);rw[if_pos (show(Value.ref T != Value.none)=true from by simp)];refine wpAny_bind (wpAny_field z3 z4 z5 ?_);rw[if_neg (show ¬ ((Value.none==rawInt L)=true) from by simp[rawInt])];refine wpAny_bind (wpAny_setField z3 z4 (Array.getElem?_eq_some_iff.mp z5).1 ?_);rw[Heap.update_setField_same s.heap T oT ts 3 .none z3 z4 z5];exact main _ _
end
end XO
namespace D
open L2 XO
section
variable {X:Cx}{pins:PN}{σ:St}{H:Hp}{s:Shared}{a T:Addr}
theorem Inv.afl{C:Addr}{dct:Option Addr}{vs:Array Value}{h':Heap}{cc:Bool}(I:Inv X pins σ H s)(e:H a=some (.ext (XF a C dct cc)))(he:h'.get? a=some (kh C dct vs))(hc:cc=true->vs[2]? =some .none)(ft:sy X pins H T)(hT:∃ o,h'.get? T=some o)(sn:aeU (frs X.stack) a T s.heap h'):Inv X pins σ H {s with heap:=h'}:=by
 have nfs:∀ b u,H b=some u->b ∉ frs X.stack:=λ b u z hb=>by rw[I.nQ b hb] at z;cases z
 have nT:∀ b u,H b=some u->b≠T:=λ b u z w=>by rw[w,ft.1] at z;cases z
 refine I.call (g':=s.gens) (t':=s.toks) (d':=s.drawn) (ch:=[T]) ⟨λ b o z n hb ht=>sn.keep b o (λ w=>by rw[w,e] at n;cases n) (λ w=>ht (by rw[w];exact List.mem_singleton.mpr rfl)) hb z,λ b o z _ hb _=>sn.slot b o hb z,λ _ _ _ n _=>n,λ b o z _=>?_,λ _ _ z=>z,λ _ _ _ z=>z,λ _ ps z=>⟨#[],by rw[z];simp⟩⟩ (λ b o z=>?_) I.bare (λ b z=>?_)
 ·by_cases hb:b=a
  ·subst hb;exact⟨_,he⟩
  ·by_cases hm:b∈frs X.stack
   ·obtain⟨sl,q⟩:=sn.slot b o hm z;exact⟨_,q⟩
   ·by_cases ht:b=T
    ·subst ht;exact hT
    ·exact⟨o,sn.keep b o hb ht hm z⟩
 ·by_cases hb:b=a
  ·subst hb;rw[e] at z;cases z;exact ad1 he hc
  ·refine(I.hok b o z).vA (λ c u hc q=>sn.keep c u ?_ ?_ ?_ q) (λ _ q=>q) λ _ _ q=>q
   ·rcases hc with w | w
    ·rw[w];exact hb
    ·intro y;rw[y,e] at w;cases w
   ·rcases hc with w | w
    ·rw[w];exact nT b o z
    ·exact nT c _ w
   ·rcases hc with w | w
    ·rw[w];exact nfs b o z
    ·exact nfs c _ w
 ·have ez:b=T:=List.mem_singleton.mp z;subst ez;obtain⟨_,f1,f2,f3,f4,f5⟩:=ft;exact⟨f3,f1,f4,f5⟩
def afj(X:Cx)(pins:PN)(H:Hp)(h:Heap)(e:Addr):Prop:=∃ C dct vs cc T oT ts,H e=some (.ext (XF e C dct cc))/\h.get? e=some (kh C dct vs)/\vs[1]? =some (.ref T)/\T≠e/\h.get? T=some oT/\oT.data=.fields ts/\3<ts.size/\(cc=true->vs[2]? =some .none)/\sy X pins H T
theorem Inv.acR{Q:Unit->Shared->Prop}{E:VP}{A:Around}(I:Inv X pins σ H s)(hA:A.frames=some X.stack)(hst:X.stack=X.env::X.outer)(hf:X.env.frame=some X.env.locals)(air:afj X pins H s.heap a)
  (q:∀ s',Inv X pins σ H s'->Air H s'.heap a->Q () s'):wpAny (model X.prog X.w) A (noteFrame (.ref a) X.env) (λ _ s1=>wpAny (model X.prog X.w) A (setFlight (.ref a) none) Q E s1) E s:=by
 obtain⟨C,dct,vs,cc,T,oT,ts,e1,e2,e3,e4,e5,e6,e7,e8,ft⟩:=air;have st:=I.stack;rw[hst] at st hA;refine XO.acR hA st hf e2 e3 e4 e5 e6 e7 λ h' vs' g1 g2 g4 hT g3=>q _ (Inv.afl I e1 g1 (λ z=>by rw[g4];exact e8 z) ft hT ?_) ⟨C,dct,vs',cc,e1,g1,g2,λ z=>by rw[g4];exact e8 z⟩;rw[hst];exact g3
def Lk2(X:Cx)(E:XE):Prop:=∀ (pins:PN) (σ:St) (H:Hp) (s:Shared) (a:Addr) (τ:DS) (M:MH),Inv X pins σ H s->afj X pins H s.heap a->Abs X.K H σ τ M->E a τ M->X.xe (.ref a) s
end
section
variable {P:Program}{w:World}{K:FG}{mg:Str->Option Value}{base:Heap}
theorem acu{N:List Str}{qual:Str}{scope:Scope}{f:Addr}{cd:Value}{A:Around}{outer:List Env}{s:Shared}{H:Hp}{E:XK}{Ed:XQ}(he:∀ a H' M',Kp H H'->dJ K H' M'->Ed a M'->E (.ref a) none H') :
  Lk2 (rX (CXE P w) P w K mg base N qual scope f cd A outer s H E) λ a _ M=>Ed a M:=by
 intro pins σ H1 s1 a τ M I air ab e;show wpAny _ _ (leaving _ _) _ _ _;unfold leaving;refine wpAny_bind (Inv.acR I I.ok.frames rfl rfl air λ s2 J air2=>?_);exact⟨a,H1,rfl,J.os,J.bare,J.base,J.hok,air2,he a H1 M (Kp.un J.base) ab.mem e⟩
end
end D
namespace L2
open XO D
section
variable {prog:Program}{w:World}{A:Around}{E:VP}{R:Result->Shared->Prop}{s:Shared}
theorem oq{elt target iter:Expr}{ifs:List Expr}{scope:Scope}{pos:Pos}{it acc:Value}{env:Env}(I:Nat->Shared->Prop)(EE:VP)
  (hE:∀ e s',EE e s'->notedBy (model prog w) A env (λ x s''=>R (.error x) s'') e s')
  (turn:∀ n s,I n s->wpAny (model prog w) A (pyNext it) (λ r s₁=>match r with
   | none=>R (.ok .next) s₁
   | some v=>wpAny (model prog w) A (letOwnedTupleGo target it v) (λ _ s₁'=>wpAny (model prog w) A (assign target env v) (λ _ s₂ =>
     wpAny (model prog w) A (tq ifs env) (λ ok s₃ =>
      if ok=true then wpAny (model prog w) A (eval elt env) (λ x s₄ =>
       wpAny (model prog w) A (call (.builtin "list.append") [acc,x]) (λ _ s₅=>∃ m,m<n/\I m s₅) (λ _ _=>False) s₄) EE s₃
      else ∃ m,m<n/\I m s₃) (λ _ _=>False) s₂) (λ _ _=>False) s₁') (λ _ _=>False) s₁) (λ _ _=>False) s)
  (n:Nat)(h:I n s) :
  codeAny (model prog w) A (.compLoop (.ListComp elt [⟨target,iter,ifs,0⟩] scope pos) 0 it acc env) R s:=by
 refine codeAny_loop rfl I (λ n s hI=>?_) n h;show wpAny _ A ((compTurn (.ListComp elt [⟨target,iter,ifs,0⟩] scope pos) 0 it acc env).onRaise (λ x=>do noteFrame x env;theTreesLotGoes x)) _ _ s;refine wpAny_noted ?_;rw[compTurn_list];refine wpAny_bind (wpAny_standAt (wpAny_bind (wpAny_mono (turn n s hI) (λ r s₁ h₁=>?_) λ _ _ h'=>h'.elim)));cases r with
 | none=>exact wpAny_pure h₁
 | some v =>
  refine wpAny_bind (wpAny_mono h₁ (λ _ s₁' h₁'=>?_) λ _ _ h'=>h'.elim);refine wpAny_bind (wpAny_mono h₁' (λ _ s₂ h₂=>wpAny_bind (wpAny_mono h₂ (λ ok s₃ h₃=>?_) λ _ _ h'=>h'.elim)) λ _ _ h'=>h'.elim);cases ok with
  | false=>exact wpAny_pure ⟨rfl,h₃⟩
  | true =>
   exact wpAny_bind (wpAny_bind (wpAny_mono h₃ (λ x s₄ h₄=>wpAny_bind (wpAny_mono h₄ (λ _ s₅ h₅=>wpAny_pure (wpAny_pure ⟨rfl,h₅⟩)) λ _ _ h'=>h'.elim)) λ e s' h'=>hE e s' h'))
end
section
variable {X:Cx}{pins:PN}{σ:St}{H:Hp}{s:Shared}
theorem Inv.xe(I:Inv X pins σ H s)(xe:VP):Inv {X with xe:=xe} pins σ H s:=
 ⟨⟨I.ok.mod,I.ok.kind,I.ok.glob,I.ok.blt,I.ok.above,I.ok.inj,I.ok.has,I.ok.cab,I.ok.hd,I.ok.frames,I.ok.stk,I.ok.exf,I.ok.bs,I.ok.bsz,I.ok.noex,I.ok.exfs,I.ok.rK,I.ok.frf⟩,I.os,I.bare,I.base,I.loc,I.cell,I.free,I.freeC,I.pin,I.hok,I.len⟩
theorem Inv.aiU{xe:VP}(I:Inv {X with xe:=xe} pins σ H s):Inv X pins σ H s:=
 ⟨⟨I.ok.mod,I.ok.kind,I.ok.glob,I.ok.blt,I.ok.above,I.ok.inj,I.ok.has,I.ok.cab,I.ok.hd,I.ok.frames,I.ok.stk,I.ok.exf,I.ok.bs,I.ok.bsz,I.ok.noex,I.ok.exfs,I.ok.rK,I.ok.frf⟩,I.os,I.bare,I.base,I.loc,I.cell,I.free,I.freeC,I.pin,I.hok,I.len⟩
end
def ye(Y:Cx)(EX:Addr->St->Hp->Prop):VP:=λ v s'=>∃ a pl σ' H',v=.ref a/\Inv Y pl σ' H' s'/\Air H' s'.heap a/\EX a σ' H'
section
variable {X:Cx}{pins:PN}{σ:St}{H:Hp}{s:Shared}{sc:Scope}{own:List Str}{fr:List Nat}{cl:List (Str×Addr)}{fp:List Addr}{it:Addr}{J:It}{tn:Nat->Heap->Prop}{g:TG}{tt:TT}{te:TE}{W:LcW}{Fin:List V->Hp->Prop}
 {elt tg iter:Expr}{ifs:List Expr}{pos:Pos}{E:VP}
theorem zR{EX:Addr->St->Hp->Prop}{RR:Value->Addr->Result->Shared->Prop}(hc:X.calm=true)(L:vZ X sc own fr)(hcl1:∀ n c,cl.lookup n=some c->X.env.cells.lookup n=some c)(hcl2:∀ n,(n,NameKind.free)∈sc.names->∃ c,cl.lookup n=some c)
  (hg:∀ C s H ex pl,PG (blk X sc (lcN X own fr) cl C s H ex pl) tg g)(ht:∀ C s H ex pl,PTs (blk X sc (lcN X own fr) cl C s H ex pl) ifs tt)(he:∀ C s H ex pl,PE {blk X sc (lcN X own fr) cl C s H ex pl with xe:=ye (blk X sc (lcN X own fr) cl C s H ex pl) EX} elt te)(hst:X.stack=X.env::X.outer)(hfl:X.env.frame=some X.env.locals)
  (I:Inv X pins σ H s)(T:Turn X.prog X.w X.K tg J fp it tn)(st:tn 0 s.heap)(hf:∀ b∈fp,sy X pins H b)(w0:∃ m,W 0 m [] (lcS own.length fr σ) H)(turn:uc J g tt te W Fin)
  (hRR:∀ (D C:Addr) (s':Shared) (H':Hp) (ys:List V) (us:List Value) (n:Nat) (m:Str->Option Value),Inv X pins σ H' s'->s'.heap.get? D=some {cls:=.type "list",data:=.seq us.toArray n}->Vals ys us->ys.length<=sizeLine->H' D=none->H' C=none ->
   s.heap.objs.size<=D->s.heap.objs.size<=C->D≠C->s'.heap.Ns C m->Fin ys H'->RR (.ref D) C (.ok .next) s')
  (hRE:∀ (D C a:Addr) (s':Shared) (σ':St) (H':Hp) (m:Str->Option Value),Inv X pins σ H' s'->Kp H H'->H' C=none->s.heap.objs.size<=C->s'.heap.Ns C m->afj X pins H' s'.heap a->EX a σ' H'->RR (.ref D) C (.error (.ref a)) s') :
  wpAny (model X.prog X.w) X.A (newList []) (λ acc s₃=>wpAny (model X.prog X.w) X.A (newFunctionEnv sc X.env.globals cl [] X.env.qual none .none (some X.env)) (λ cenv s₄ =>
   codeAny (model X.prog X.w) X.A (.compStart (.ListComp elt [⟨tg,iter,ifs,0⟩] sc pos) 0 (.ref it) acc {cenv with scope:=relabel sc X.env}) (RR acc cenv.locals) s₄) E s₃) E s:=by
 refine wpAny_newObj_type (wpAny_newFunctionEnv L.cell (by intro y hy;simp at hy) (λ h₁ hns₁ hsb₁=>?_) L.kind);dsimp only at hns₁ hsb₁ ⊢;generalize hH2:s.heap.push {cls:=.type "list",dict:=none,data:=.seq ([]:List Value).toArray}=H2 at hns₁ hsb₁ ⊢;have hCs:H2.objs.size=s.heap.objs.size+1:=by rw[<- hH2,Heap.size_push]
 have hD0:s.heap.objs.size≠H2.objs.size:=by rw[hCs];exact Nat.ne_of_lt (Nat.lt_succ_self _)
 have hCle:s.heap.objs.size<=H2.objs.size:=by rw[hCs];exact Nat.le_succ _
 have below:∀ b,b<s.heap.objs.size->b≠H2.objs.size/\b≠s.heap.objs.size:=λ b hb=>⟨by rw[hCs];exact Nat.ne_of_lt (Nat.lt_succ_of_lt hb),Nat.ne_of_lt hb⟩;have old:∀ b o,s.heap.get? b=some o->h₁.get? b=some o:=λ b o e=>hsb₁.extBut b o (below b (Heap.lt_size e)).1 (Heap.get?_push_of_some _ (hH2 ▸ Heap.get?_push_of_some _ e));have hacc:h₁.get? s.heap.objs.size=some {cls:=.type "list",data:=.seq ([]:List Value).toArray 0}:=hsb₁.extBut _ _ hD0 (Heap.get?_push_of_some _ (hH2 ▸ Heap.get?_push_size _ rfl));have hfb:∀ b∈fp,b<s.heap.objs.size:=λ b hb=>by obtain⟨o,e,_⟩:=T.obj 0 _ st b hb;exact Heap.lt_size e
 have I1:Inv (blk X sc (lcN X own fr) cl H2.objs.size s H fp pins) [] (lcS own.length fr σ) H {s with heap:=h₁,toks:=s.toks+([]:List (Str×Value)).length}:=xu L I hf hfb hCle hcl1 hcl2 hns₁ old;have st1:tn 0 h₁:=T.keep 0 _ _ st λ b _ o e=>old b o e;generalize hY:blk X sc (lcN X own fr) cl H2.objs.size s H fp pins=Y at I1;have hYp:Y.prog=X.prog:=by rw[<- hY];rfl
 have hYw:Y.w=X.w:=by rw[<- hY];rfl
 have hYK:Y.K=X.K:=by rw[<- hY];rfl
 have hYA:Y.A=X.A:=by rw[<- hY];rfl
 have hYc:Y.calm=true:=by rw[<- hY];exact hc
 have hYe:Y.env=compEnvC sc cl H2.objs.size X.env:=by rw[<- hY];rfl
 have hYx:Y.xe=λ _ _=>False:=by rw[<- hY];rfl
 have hYpn:Y.pn=X.pn++pins:=by rw[<- hY];rfl
 have hYs:Y.s₀=s:=by rw[<- hY];rfl
 have hYH:Y.H₀=H:=by rw[<- hY];rfl
 have hYex:Y.ex=fp:=by rw[<- hY];rfl
 have hYfs:Y.fs=frs X.stack:=by rw[<- hY];rfl
 have gY:=hg H2.objs.size s H fp pins;have tY:=ht H2.objs.size s H fp pins;have eY:=he H2.objs.size s H fp pins;rw[hY] at gY tY eY;have eY':∀ (pl:PN) (s7:Shared) (σ6:St) (H7:Hp) (Q:VK),Inv Y pl σ6 H7 s7->te σ6 H7 Q->wpAny (model X.prog X.w) X.A (eval elt (compEnvC sc cl H2.objs.size X.env)) (λ v s8=>∃ y H8,Inv Y pl σ6 H8 s8/\RelV y v/\Q y H8) (ye Y EX) s7:=by intro pl s7 σ6 H7 Q J q;subst hY;exact wpAny_mono (eY pl s7 σ6 H7 Q (Inv.xe J _) q) (λ v s8 ⟨y,H8,J8,r8,q8⟩=>⟨y,H8,Inv.aiU (X:=blk X sc (lcN X own fr) cl H2.objs.size s H fp pins) J8,r8,q8⟩) λ _ _ z=>z
 have D_pin:∀ p∈Y.pn++([]:PN),p.1≠s.heap.objs.size:=λ p hp=>by rw[hYpn,List.append_nil] at hp;exact(below _ (Heap.lt_size (I.pin p hp).1)).2
 have D_cell:∀ x c,Y.env.cells.lookup x=some c->c≠s.heap.objs.size:=λ x c e=>by rw[hYe] at e;obtain⟨v,z⟩:=I.cell x c (hcl1 _ _ e);exact(below _ z.lt).2
 have D_loc:s.heap.objs.size≠Y.env.locals:=by rw[hYe];exact hD0
 have D_fs:s.heap.objs.size ∉ Y.fs:=by
  rw[hYfs];intro z;rcases List.mem_cons.mp (I.jO _ z) with e | e
  ·exact absurd I.lt (by rw[<- e];exact Nat.lt_irrefl _)
  ·exact I.ahO (Nat.le_refl _) e
 have fpY:∀ {H':Hp} (pl:PN),(∀ b∈fp,H' b=none)->(∀ p∈pl,p.1=s.heap.objs.size)->∀ b∈fp,sy Y pl H' b:=λ {H'} pl hn hp b hb=>by
  obtain⟨_,f1,f2,f3,f4,f5⟩:=hf b hb;refine⟨hn b hb,by rw[hYe];exact(below b (hfb b hb)).1,?_,.inl (by rw[hYex];exact hb),λ x c e=>?_,λ p q=>?_⟩
  ·rw[hYfs];intro z;rcases List.mem_cons.mp (I.jO _ z) with e | e
   ·exact f1 e
   ·exact f2 e
  ·rw[hYe] at e;exact f4 x c (hcl1 _ _ e)
  ·rcases List.mem_append.mp q with z | z
   ·rw[hYpn] at z;exact f5 p z
   ·rw[hp p z];exact Ne.symm (below b (hfb b hb)).2
 have hch:∀ b∈fp,(b∈X.ex\/X.s₀.heap.objs.size<=b)/\b≠X.env.locals/\(∀ x c,X.env.cells.lookup x=some c->c≠b)/\∀ p∈X.pn++pins,p.1≠b:=λ b hb=>by obtain⟨_,f1,f2,f3,f4,f5⟩:=hf b hb;exact⟨f3,f1,f4,f5⟩
 have erow:∀ e s',ye Y EX e s'->notedBy (model X.prog X.w) X.A (compEnvC sc cl H2.objs.size X.env) (λ x s''=>RR (.ref s.heap.objs.size) H2.objs.size (.error x) s'') e s':=by
  rintro e s' ⟨a,pl,σ',H',ee,J,air,ex⟩;subst ee;have un:Un (frs X.stack) fp H H' s.heap s'.heap:=by have z:=J.base;rw[hYfs,hYex,hYH,hYs] at z;exact z
  have os4:s'.os=s.os:=by have z:=J.os;rw[hYs] at z;exact z
  have hok4:HOk X.prog X.w H' s'.heap:=by have z:=J.hok;rw[hYp,hYw] at z;exact z
  have IX:Inv X pins σ H' s':=I.zH os4 un hok4 J.bare hch;show wpAny (model X.prog X.w) X.A (noteFrame (.ref a) X.env) _ _ s';obtain⟨Cx,dct,vs,cc,e1,e2,e3,e4⟩:=air;have st:=IX.stack;have hA:=IX.ok.frames;rw[hst] at st hA;refine XO.ahA hA st hfl e2 e3 λ h' vs' T oT ts g1 g2 g3 g5 g6 g7 g4 g8 sn=>?_;have sn':Seen (frs X.stack) a s'.heap h':=by rw[hst];exact sn
  have IX2:=IX.seen e1 g1 (λ z=>by rw[g4];exact e4 z) sn';have J2:=J.seen e1 g1 (λ z=>by rw[g4];exact e4 z) (by rw[show Y.stack=X.stack from by rw[<- hY];rfl];exact sn');obtain⟨mC,hmC,_⟩:=J2.loc;have hCf:=J2.free;rw[hYe] at hmC hCf;exact hRE _ _ a _ σ' H' mC IX2 (Kp.un un) hCf hCle hmC ⟨Cx,dct,vs',cc,T,oT,ts,e1,g1,g2,g3,g5,g6,g7,λ z=>by rw[g4];exact e4 z,IX.vX g8 (IX.hok.fresh g8)⟩ ex
 have loop:∀ s₃:Shared,s₃={s with heap:=h₁,toks:=s.toks+([]:List (Str×Value)).length} ->
   codeAny (model X.prog X.w) X.A (.compLoop (.ListComp elt [⟨tg,iter,ifs,0⟩] sc pos) 0 (.ref it) (.ref s.heap.objs.size) (compEnvC sc cl H2.objs.size X.env)) (RR (.ref s.heap.objs.size) H2.objs.size) s₃:=by
  rintro s₃ rfl;obtain⟨m0,w0⟩:=w0;refine oq (EE:=ye Y EX) (I:=λ n s'=>∃ i ys τ H' us k,Inv Y [] τ H' s'/\tn i s'.heap/\(∀ b∈fp,H' b=none)/\H' s.heap.objs.size=none/\s'.heap.get? s.heap.objs.size=some {cls:=.type "list",data:=.seq us.toArray k}/\Vals ys us/\ys.length<=sizeLine/\W i n ys τ H') (hE:=?_) (turn:=?_) (n:=m0) (h:=
   ⟨0,[],_,H,[],0,I1,st1,λ b hb=>(hf b hb).1,I.hok.fresh (Nat.le_refl _),hacc,.nil,Nat.zero_le _,w0⟩)
  ·exact erow
  rintro n s' ⟨i,ys,τ,H',us,k,I',st',hn',hD',ha',hv',hz',w'⟩;have Ip:Inv Y [(s.heap.objs.size,{cls:=.type "list",data:=.seq us.toArray k})] τ H' s':=I'.gq λ p hp=>by
   have e:p=(s.heap.objs.size,{cls:=.type "list",data:=.seq us.toArray k}):=by simpa using hp
   subst e;exact⟨ha',hD',D_loc,D_fs,λ v z=>nomatch (show Data.seq _ _=Data.cell v from z)⟩
  have onlyD:∀ p∈[((s.heap.objs.size,{cls:=.type "list",data:=.seq us.toArray k}):Addr×Obj)],p.1=s.heap.objs.size:=λ p hp=>by
   have e:p=(s.heap.objs.size,{cls:=.type "list",data:=.seq us.toArray k}):=by simpa using hp
   subst e;rfl
  rcases turn i n ys τ H' w' with ⟨stop,fin⟩ | ⟨go,hlen,step⟩
  ·have q:=T.done Y hYp hYw hYK hYc i _ s' τ H' (λ _ _=>False) Ip (fpY _ hn' onlyD) st' stop;rw[hYA] at q;refine thn q λ r s4 hq98=>?_;obtain⟨hr,I4⟩:=hq98;subst hr;have un:Un (frs X.stack) fp H H' s.heap s4.heap:=by have z:=I4.base;rw[hYfs,hYex,hYH,hYs] at z;exact z
   have os4:s4.os=s.os:=by have z:=I4.os;rw[hYs] at z;exact z
   have hok4:HOk X.prog X.w H' s4.heap:=by have z:=I4.hok;rw[hYp,hYw] at z;exact z
   have IX:Inv X pins σ H' s4:=I.zH os4 un hok4 I4.bare hch;obtain⟨mC,hmC,_⟩:=I4.loc;have hCf:=I4.free;rw[hYe] at hmC hCf;have pD:=I4.pin (s.heap.objs.size,{cls:=.type "list",data:=.seq us.toArray k}) (List.mem_append_right _ (List.mem_singleton.mpr rfl));exact hRR _ _ s4 H' ys us k mC IX pD.1 hv' hz' pD.2.1 hCf (Nat.le_refl _) hCle hD0 hmC fin
  ·have q:=T.item Y hYp hYw hYK hYc i _ s' τ H' (λ _ _=>False) Ip (fpY _ hn' onlyD) st' go;rw[hYA] at q;refine thn q λ r s4 hq99=>?_;obtain⟨u,hr,h4⟩:=hq99;subst hr;refine thn h4 λ _ s5 hq100=>?_;obtain⟨x,H5,I5,r5,y5,st5,fr5⟩:=hq100;have I5':=I5.pinned (fpY _ fr5 onlyD) (T.obj _ _ st5);have g5:=gY _ s5 τ H5 x u _ I5' r5 (step x H5 y5);rw[hYp,hYw,hYA,hYe,hYx] at g5;refine thn g5 λ _ s6 hq101=>?_;obtain⟨σ6,H6,I6,q6⟩:=hq101;have t6:=tY _ s6 σ6 H6 _ I6 q6;rw[hYp,hYw,hYA,hYe,hYx] at t6;refine thn t6 λ ok s7 hq102=>?_;obtain⟨H7,I7,q7⟩:=hq102;have keepD:∀ {σ8:St} {H8:Hp} {s8:Shared},Inv Y ([(s.heap.objs.size,{cls:=.type "list",data:=.seq us.toArray k})]++jQ fp s5.heap) σ8 H8 s8->s8.heap.get? s.heap.objs.size=some {cls:=.type "list",data:=.seq us.toArray k}/\H8 s.heap.objs.size=none:=
    λ {σ8 H8 s8} I8=>by have pD:=I8.pin (s.heap.objs.size,{cls:=.type "list",data:=.seq us.toArray k}) (List.mem_append_right _ (List.mem_append_left _ (List.mem_singleton.mpr rfl)));exact⟨pD.1,pD.2.1⟩
   have keepI:∀ {σ8:St} {H8:Hp} {s8:Shared},Inv Y ([(s.heap.objs.size,{cls:=.type "list",data:=.seq us.toArray k})]++jQ fp s5.heap) σ8 H8 s8->tn (i+1) s8.heap/\∀ b∈fp,H8 b=none:=
    λ {σ8 H8 s8} I8=>by refine⟨T.keep _ _ _ st5 λ b hb o e=>(I8.pin (b,o) (List.mem_append_right _ (List.mem_append_right _ (eB hb e)))).1,λ b hb=>?_⟩;obtain⟨o,e,d⟩:=T.obj _ _ st5 b hb;exact(I8.pin (b,o) (List.mem_append_right _ (List.mem_append_right _ (eB hb e)))).2.1
   cases ok with
   | false =>
    rw[if_neg Bool.false_ne_true] at q7 ⊢;obtain⟨m',hm',w7⟩:=q7;obtain⟨a7,b7⟩:=keepD I7;obtain⟨c7,d7⟩:=keepI I7;exact⟨m',hm',i+1,ys,σ6,H7,us,k,I7.gq (λ p hp=>(nomatch hp)),c7,d7,b7,a7,hv',hz',w7⟩
   | true =>
    rw[if_pos rfl] at q7 ⊢;refine wpAny_mono (eY' _ s7 σ6 H7 _ I7 q7) (λ v s8 ⟨y,H8,I8,r8,m',hm',w8⟩=>?_) λ _ _ z=>z;obtain⟨a8,b8⟩:=keepD I8;obtain⟨c8,d8⟩:=keepI I8;have hl:=hv'.length;refine call_meets F.slot_list_append ⟨_,a8,rfl⟩ F.entry_list_append (F.args_list_append_2 _ _) (PySem.list_append s.heap.objs.size us.toArray k v (by rw[List.size_toArray];omega)) ⟨a8,?_⟩;have qu:=PySem.IsL.update a8 (λ xs=>xs.push v);have I9:=(I8.gq (pins':=[]) λ p hp=>nomatch hp).turned (it:=s.heap.objs.size) (t':=s8.toks) (h':=s8.heap.update s.heap.objs.size (Obj.mapSeq λ xs=>xs.push v)) (λ b o hb e=>(Heap.get?_update_other s8.heap _ (Ne.symm hb)).trans e) b8 D_loc (.inr (by rw[hYs];exact Nat.le_refl _)) D_cell D_pin;have ep:us.toArray.push v=(us++[v]).toArray:=by simp
    rw[ep] at qu;refine⟨m',hm',i+1,ys++[y],σ6,H8,us++[v],(if (us++[v]).toArray.size==us.toArray.size then k else k+1),I9,T.keep _ _ _ c8 λ b hb o e=>(Heap.get?_update_other s8.heap _ (Ne.symm (below b (hfb b hb)).2)).trans e,d8,b8,?_,hv'.append (.cons r8 .nil),?_,w8⟩
    ·exact qu
    ·rw[List.length_append,List.length_singleton];omega
 exact codeAny_compStart_list (loop _ rfl) (T.self _ 0 _ _ _ st1 (loop _ rfl))
def LkA(X:Cx)(EO:Addr->St->Hp->Prop):Prop:=∀ (pins:PN) (σ:St) (H:Hp) (s:Shared) (a:Addr),Inv X pins σ H s->afj X pins H s.heap a->EO a σ H->X.xe (.ref a) s
theorem adh{a:Addr}{what:String}{cenv:Env}{EO:Addr->St->Hp->Prop}(lk:LkA X EO)(I:Inv X pins σ H s)(air:afj X pins H s.heap a)(eo:EO a σ H):wpAny (model X.prog X.w) X.A (PySem.passOn what (.ref a) cenv:Sem Value) (λ _ _=>False) X.xe s:=by
 obtain⟨Cx,dct,vs,cc,T,oT,ts,e1,e2,e3,e4,e5,e6,e7,e8,ft⟩:=air;have go:∀ v:Value,X.xe (.ref a) {s with heap:=s.heap.update T (Obj.mapFields (·.setIfInBounds 3 v))}:=λ v=>by
  have hT:(s.heap.update T (Obj.mapFields (·.setIfInBounds 3 v))).get? T=some {oT with data:=.fields (ts.setIfInBounds 3 v)}:=by
   clear e8 e7 ft;obtain⟨c,d,dt,sl⟩:=oT;subst e6;exact Heap.get?_update_self _ e5 rfl
  have ho:∀ b o,b≠T->s.heap.get? b=some o->(s.heap.update T (Obj.mapFields (·.setIfInBounds 3 v))).get? b=some o:=λ b o n z=>(Heap.get?_update_other _ _ (Ne.symm n)).trans z;have nT:T ∉ frs X.stack:=λ hm=>by obtain⟨_,o',ho',hn⟩:=I.stack.mem hm;rw[e5] at ho';cases ho';exact hn ts e6
  refine lk pins σ H _ a (D.Inv.afl I e1 (ho a _ (Ne.symm e4) e2) e8 ft ⟨_,hT⟩ ⟨λ b o hb ht _ z=>ho b o ht z,λ b o hm z=>⟨o.slots,ho b o (λ w=>nT (w ▸ hm)) z⟩⟩) ⟨Cx,dct,vs,cc,T,_,ts.setIfInBounds 3 v,e1,ho a _ (Ne.symm e4) e2,e3,e4,hT,rfl,by simpa using e7,e8,ft⟩ eo
 unfold PySem.passOn;refine wpAny_bind (wpAny_field e2 rfl e3 ?_);rw[if_neg (show ¬ ((Value.ref T==Value.none)=true) from by simp)];have fl:wpAny (model X.prog X.w) X.A (setFlight (.ref a) cenv.frame) (λ _ s'=>wpAny (model X.prog X.w) X.A (throw (.ref a):Sem Value) (λ _ _=>False) X.xe s') X.xe s:=by
  unfold setFlight;refine wpAny_bind (wpAny_field e2 rfl e3 ?_);rw[if_pos (show(Value.ref T != Value.none)=true from by simp)];exact wpAny_setField e5 e6 e7 (wpAny_throw (go _))
 first
  | exact wpAny_bind (wpAny_pure (wpAny_bind fl))
  | exact wpAny_bind fl
def ai0(wi:TI)(g:TG)(tt:TT)(te:(Addr->Hp->Prop)->TE)(EO:Addr->St->Hp->Prop)(k:Nat)(fr:List Nat):TE:=λ σ H Q=>wi σ H λ J H1=>∃ (W:LcW) (EX:Addr->Hp->Prop),(∀ a H',Kp H1 H'->EX a H'->EO a σ H')/\(∃ m,W 0 m [] (lcS k fr σ) H1)/\uc J g tt (te EX) W λ ys H2=>∀ p,H2 p=none->Q (.ref p) (upd H2 p (.lst ys))
theorem af1{wi:TI}{te:(Addr->Hp->Prop)->TE}{EO:Addr->St->Hp->Prop}(hc:X.calm=true)(L:vZ X sc own fr)(hi:PI X tg iter wi)
  (hg:∀ cl C s H ex pl,PG (blk X sc (lcN X own fr) cl C s H ex pl) tg g)(ht:∀ cl C s H ex pl,PTs (blk X sc (lcN X own fr) cl C s H ex pl) ifs tt)
  (he:∀ EX cl C s H ex pl,PE {blk X sc (lcN X own fr) cl C s H ex pl with xe:=ye (blk X sc (lcN X own fr) cl C s H ex pl) (λ a _ H'=>EX a H')} elt (te EX))
  (hst:X.stack=X.env::X.outer)(hfl:X.env.frame=some X.env.locals)(lk:LkA X EO)
  (hs:∀ x,foldedSetIterable iter X.env x=pure x:=by intro _;rfl):PE X (.ListComp elt [⟨tg,iter,ifs,0⟩] sc pos) (ai0 wi g tt te EO own.length fr):=by
 intro pins s σ H Q I h;obtain⟨cl,hcl,c1,c2⟩:=mX L I.ok;rw[eval_ListComp];refine wpAny_comprehension_free (use:=none) (g:=⟨tg,iter,ifs,0⟩) (gs:=[]) rfl hs hcl L.kind L.names ?_;refine thn (hi pins s σ H _ I h) λ v s1 h1=>thn h1 λ itv s2 h2=>?_;obtain⟨it,fp,tn,J,H2,e,I2,T,st2,f2,W,EX,hEX,w0,turn⟩:=h2;subst e;have far:∀ b,s2.heap.objs.size<=b->(X.s₀.heap.objs.size<=b)/\b≠X.env.locals/\(∀ x c,X.env.cells.lookup x=some c->c≠b)/\∀ p∈X.pn++pins,p.1≠b:=λ b hb=>by obtain⟨_,f1,_,f3,f4,f5⟩:=I2.vX (H':=λ _=>none) hb rfl;refine⟨Nat.le_trans I2.sz hb,f1,f4,f5⟩
 refine zR (EX:=λ a _ H'=>EX a H') (cl:=cl) hc L c1 c2 (hg cl) (ht cl) (he EX cl) hst hfl I2 T st2 f2 w0 turn (λ D C s' H' ys us n m I' a' hv hz hD hC dD dC hDC hns fin=>?_) (λ D C a s' σ' H' m I' kp hC dC hns air ex=>?_)
 ·refine⟨m,hns,λ h' sb=>?_⟩;obtain⟨z1,z2,z3,z4⟩:=far C dC;obtain⟨y1,y2,y3,y4⟩:=far D dD;have I3:Inv X pins σ H' {s' with heap:=h'}:=I'.turned (t':=s'.toks) (λ b o hb e=>sb.extBut b o hb e) hC z2 (.inr z1) z3 z4;exact⟨.ref D,_,I3.ags (sb.extBut _ _ hDC a') hD hv hz y1 y2 y3 y4,rfl,fin D hD⟩
 ·refine⟨m,hns,λ h' sb cenv _=>?_⟩;obtain⟨z1,z2,z3,z4⟩:=far C dC;have I3:Inv X pins σ H' {s' with heap:=h'}:=I'.turned (t':=s'.toks) (λ b o hb e=>sb.extBut b o hb e) hC z2 (.inr z1) z3 z4;obtain⟨Cx,dct,vs,cc,T',oT,ts,e1,e2,e3,e4,e5,e6,e7,e8,ft⟩:=air;have na:a≠C:=λ z=>by rw[z,hC] at e1;cases e1
  have nT:T'≠C:=λ z=>by obtain⟨oC,es,ep,k1,k2,_⟩:=hns;rw[z,k1] at e5;cases e5;rw[k2] at e6;cases e6
  exact adh lk I3 ⟨Cx,dct,vs,cc,T',oT,ts,e1,sb.extBut _ _ na e2,e3,e4,sb.extBut _ _ nT e5,e6,e7,e8,ft⟩ (hEX a H' kp ex)
end
end L2
namespace D
open L2 XO
def ahc(di:TId)(g:TGd)(tt:TTd)(te:XE->TD)(k:Nat)(fr:List Nat)(E:XE)(τ:DS)(M:MH)(Q:QD):Prop:=di τ M λ ws M1=>∃ P:Nat->List PyData->DS->MH->Prop,P 0 [] (aeq k fr τ) M1 /\
 (∀ i w acc τ' M,ws[i]? =some w->P i acc τ' M->acc.length<sizeLine/\g w τ' M λ τ2 M2=>tt τ2 M2 λ b M3=>if b=true then te (λ a _ M'=>E a τ M') τ2 M3 λ y M4=>∃ d,y=.d d/\P (i+1) (acc++[d]) τ2 M4 else P (i+1) acc τ2 M3) /\
 ∀ acc τ M,P ws.length acc τ M->Q (.d (.list acc)) M
section
variable {K:FG}
def upX(K:FG)(te:XE->TD)(EX:Addr->Hp->Prop):TE:=λ σ H Q=>∃ E':Addr->MH->Prop,(∀ a H' M',dJ K H' M'->E' a M'->EX a H')/\up K (te λ a _ M=>E' a M) σ H Q
def aiX(K:FG)(E:XE)(a:Addr)(σ:St)(H:Hp):Prop:=∃ τ M,Abs K H σ τ M/\E a τ M
theorem ab7{di:TId}{g:TGd}{tt:TTd}{te:XE->TD}{k:Nat}{fr:List Nat}{E:XE}{σ:St}{H:Hp}{Q:VK}(h:up K (ahc di g tt te k fr E) σ H Q) :
  ain (ai0 (upI K di) (upG K g) (upT K tt) (upX K te) (aiX K E) k fr) σ H Q:=by
 obtain⟨τ,M,Qd,A,h,kk⟩:=h;refine⟨τ,M,_,A,h,λ J H1 ws M1 kp m1 it hq103=>?_⟩;obtain⟨P,p0,pt,pe⟩:=hq103;refine⟨λ i n ys σ' H'=>n=ws.length-i/\i<=ws.length/\Kp H1 H'/\∃ acc τ M,bD K H' acc ys/\Abs K H' σ' τ M/\P i acc τ M,λ a H'=>∃ M',dJ K H' M'/\E a τ M',λ a H' kp' ⟨M',m',e'⟩=>⟨τ,M',A.go (kp.trans kp') m',e'⟩,⟨ws.length,by simp,Nat.zero_le _,Kp.refl _,[],_,M1,by simp[bD],abR (A.go kp m1) k fr,p0⟩,?_⟩;rintro i n ys σ2 H2 ⟨rfl,hi,kp2,acc,τ2,M2,ra,A2,p2⟩;obtain⟨go,stop,yld⟩:=it H2 kp2 i
 by_cases hlt:i<ws.length
 ·have hlen:=ra.length;refine .inr ⟨go hlt,?_,λ x H3 y=>?_⟩
  ·obtain⟨w,hw⟩:∃ w,ws[i]? =some w:=⟨ws[i],by simp[hlt]⟩;have:=(pt i w acc τ2 M2 hw p2).1;omega
  obtain⟨kp3,mk,w,ew,rw⟩:=yld x H3 hlt y;refine⟨w,τ2,M2,_,rw,A2.go kp3 (mk _ A2.mem),(pt i w acc τ2 M2 ew p2).2,λ σ4 H4 τ4 M4 kp4 A4 q4=>⟨τ4,M4,_,A4,q4,λ b H5 M5 kp5 m5 q5=>?_⟩⟩;have kq:=(kp3.trans kp4).trans kp5;cases b with
  | false =>
   rw[if_neg Bool.false_ne_true] at q5;show(if false=true then _ else _);rw[if_neg Bool.false_ne_true];exact⟨ws.length-(i+1),by omega,rfl,hlt,kp2.trans kq,acc,τ4,M5,ra.keep kq,A4.go kp5 m5,q5⟩
  | true =>
   rw[if_pos rfl] at q5;show(if true=true then _ else _);rw[if_pos rfl];refine⟨λ a M'=>E a τ M',λ a H' M' m' e'=>⟨M',m',e'⟩,τ4,M5,_,A4.go kp5 m5,q5,λ v H6 wv M6 kp6 r6 m6 hq104=>?_⟩;obtain⟨d,e6,q6⟩:=hq104;subst e6;refine⟨ws.length-(i+1),by omega,rfl,hlt,kp2.trans (kq.trans kp6),acc++[d],τ4,M6,bD.append (ra.keep (kq.trans kp6)) ?_,A4.go (kp5.trans kp6) m6,q6⟩;simp only[bD];exact⟨v,[],rfl,r6,rfl⟩
 ·have hl:i=ws.length:=by omega
  subst hl;exact .inl ⟨stop (Nat.le_refl _),λ p hp=>ik hp ra A2.mem (pe acc τ2 M2 p2) (kgo kk (kp.trans kp2))⟩
end
section
variable {X:Cx}{sc:Scope}{own:List Str}{fr:List Nat}{tg elt iter:Expr}{ifs:List Expr}{pos:Pos}{di:TId}{g:TGd}{tt:TTd}{te:XE->TD}{E:XE}
theorem acO(hc:X.calm=true)(L:vZ X sc own fr)(hi:PId X tg iter di)
  (hg:∀ cl C s H ex pl,PGd (blk X sc (lcN X own fr) cl C s H ex pl) tg g)(ht:∀ cl C s H ex pl,afa (blk X sc (lcN X own fr) cl C s H ex pl) ifs tt)
  (he:∀ cl C s H ex pl xe (E:XE),Lk {blk X sc (lcN X own fr) cl C s H ex pl with xe:=xe} E->PD {blk X sc (lcN X own fr) cl C s H ex pl with xe:=xe} elt (te E))
  (hst:X.stack=X.env::X.outer)(hfl:X.env.frame=some X.env.locals)(lk:Lk2 X E)
  (hs:∀ x,foldedSetIterable iter X.env x=pure x:=by intro _;rfl):PD X (.ListComp elt [⟨tg,iter,ifs,0⟩] sc pos) (ahc di g tt te own.length fr E):=
 fS (iD (af1 (te:=upX X.K te) (EO:=aiX X.K E) hc L hi hg ht (λ EX cl C s H ex pl pins' s' σ' H' Q' I' ⟨E',hE',h'⟩=>he cl C s H ex pl _ (λ a _ M=>E' a M) (λ p2 σ2 H2 s2 a τ2 M2 J air ab e=>⟨a,p2,σ2,H2,rfl,Inv.aiU (X:=blk X sc (lcN X own fr) cl C s H ex pl) J,air,hE' a H2 M2 ab.mem e⟩) pins' s' σ' H' Q' I' h') hst hfl (λ pins σ H s a I air ⟨τ,M,ab,e⟩=>lk pins σ H s a τ M I air ab e) hs)) λ σ H Q h=>ab7 h
end
section
variable {P:Program}{w:World}{K:FG}{mg:Str->Option Value}{base:Heap}
theorem aaB{x qual:Str}{st:Stmt}{f:Addr}{fd:FuncData}{N ps:List Str}{k:Nat}{sp:SpX}{t:XE->TSd}(F:Fun K x qual st f fd)(S:aQ N ps (ao st))(len:∀ ws M Q E,sp ws M Q E->ws.length=ps.length)
  (hbody:∀ (cdv:Value) (A:Around) (outer:List Env) (s:Shared) (H:Hp) (E:XK) (Ed:XE),gm k (A.deeper (envOfC qual (ao st) s.heap.objs.size f cdv))->Lk (rX (CXE P w) P w K mg base N qual (ao st) f cdv A outer s H E) Ed->Lk2 (rX (CXE P w) P w K mg base N qual (ao st) f cdv A outer s H E) Ed ->
   PassesOwn (model P w) (A.deeper (envOfC qual (ao st) s.heap.objs.size f cdv)) (envOfC qual (ao st) s.heap.objs.size f cdv) (rX (CXE P w) P w K mg base N qual (ao st) f cdv A outer s H E).xe ->
   mP (rX (CXE P w) P w K mg base N qual (ao st) f cdv A outer s H E) (bU st) (t Ed))
  (read:∀ ws M Q E,sp ws M Q E->t (λ a _ M=>E a M) {nx:=λ _ M'=>Q (.d .none) M',rt:=Q} (dQ N ws) M):cU P w K mg base (CXE P w) (k+1) f fd ps (oz K sp):=by
 obtain⟨oc,od,kV,doc,pm,an,cdv,ct,osl,rfl,lk,hcd⟩:=F.ex;refine adz lk hcd S (λ vs H Q E h=>?_) λ A outer s H vs Q E hr h=>?_
 ·obtain⟨ws,M,Qd,Ed,r,_,q,_⟩:=h;rw[<- r.length];exact len _ _ _ _ q
 ·obtain⟨ws,M,Qd,Ed,r,m,q,kk,ke⟩:=h;refine⟨_,hbody cdv A outer s H E (λ a _ M=>Ed a M) hr (abX ke) (acu ke) PassesOwn.leaving,dQ N ws,M,_,kQ r m,read ws M Qd Ed q,λ σ' H' τ' M' kp A' q'=>?_,λ v H' w' M' kp r' m' q'=>?_,λ σ' H' τ' M' kp A' q'=>q'.elim,λ σ' H' τ' M' kp A' q'=>q'.elim⟩
  ·exact kk _ H' _ M' kp (by simp[aH,aB]) A'.mem q'
  ·exact kk v H' w' M' kp r' m' q'
end
variable {X:Cx}{sc:Scope}{own:List Str}{fr:List Nat}{tg elt iter:Expr}{ifs:List Expr}{pos:Pos}{di:TId}{g:TGd}{tt:TTd}{te:XE->TD}{E:XE}
theorem acn(hc:X.calm=true)(L:vZ X sc own fr)(hi:Jd (PId X tg iter di))
  (hg:∀ cl C s H ex pl,Jd (PGd (blk X sc (lcN X own fr) cl C s H ex pl) tg g))(ht:∀ cl C s H ex pl,Jd (afa (blk X sc (lcN X own fr) cl C s H ex pl) ifs tt))
  (he:∀ cl C s H ex pl xe (E:XE),Lk {blk X sc (lcN X own fr) cl C s H ex pl with xe:=xe} E->Jd (PD {blk X sc (lcN X own fr) cl C s H ex pl with xe:=xe} elt (te E)))
  (hst:X.stack=X.env::X.outer)(hfl:X.env.frame=some X.env.locals)(lk:Lk2 X E)
  (hs:∀ x,foldedSetIterable iter X.env x=pure x:=by intro _;rfl):Jd (PD X (.ListComp elt [⟨tg,iter,ifs,0⟩] sc pos) (ahc di g tt te own.length fr E)):=
 ⟨D.acO hc L hi.h (λ cl C s H ex pl=>(hg cl C s H ex pl).h) (λ cl C s H ex pl=>(ht cl C s H ex pl).h) (λ cl C s H ex pl xe E l=>(he cl C s H ex pl xe E l).h) hst hfl lk hs⟩
end D
namespace K40
open L2 D Rc Stc
abbrev fi:Addr:=24
abbrev aD:Addr:=37
abbrev iH:Addr:=49
abbrev iI:Addr:=61
abbrev kX:Addr:=80
abbrev lI:Addr:=102
abbrev iC:Addr:=115
abbrev dH:Addr:=123
abbrev kL:Addr:=145
abbrev iV:Addr:=159
abbrev iU:Addr:=209
def fE:List (Str×PyData):=[("share",.tuple [.int (1),.int (9)]),("copies",.tuple [.int (0),.int (6)]),("keep",.tuple [.int (0),.int (5)]),("start",.tuple [.int (0),.int (2)]),("hands",.tuple [.int (1),.int (3)]),("place",.tuple [.int (0),.int (7)]),("asks",.tuple [.int (1),.int (20)])]
def fk:List (Str×PyData):=[("rise",.tuple [.str "machine"]),("fall",.tuple [.str "machine"]),("cut",.tuple [.str "machine"]),("join",.tuple [.str "machine"]),("late",.tuple [.str "machine",.str "late"]),("twice",.tuple [.str "machine",.str "yes"]),("fail",.tuple [.str "number"]),("ask",.tuple [.str "word",.str "word",.str "many"]),("write",.tuple [.str "word",.str "letters"]),("deed",.tuple [.str "deed"]),("down",.tuple []),("up",.tuple []),("again",.tuple [])]
def gw:List (Str×PyData):=[("group",.tuple [.str "word",.str "share"]),("wish",.tuple [.str "word",.str "word",.str "copies",.str "keep",.str "start",.str "hands"]),("copies",.tuple [.str "word",.str "copies",.str "keep"]),("edition",.tuple [.str "word",.str "start",.str "hands"]),("back",.tuple [.str "word"]),("rank",.tuple [.str "word",.str "place"]),("store",.tuple [.str "word",.str "word"]),("door",.tuple [.str "word",.str "word"]),("rule",.tuple [.str "word",.str "word",.str "asks",.str "copies",.str "keep"]),("empty",.tuple [.str "word"]),("fill",.tuple [.str "word"]),("end",.tuple [.str "sort",.str "word"])]
def fe:List (Str×PyData):=[("late",.tuple [.int (0),.int (2)]),("number",.tuple [.int (0),.int (1000000000)]),("many",.tuple [.int (1),.int (40)])]
def bT:List (Str×PyData):=[("yes",.bool true),("no",.bool false)]
abbrev h7:List Str:=["_law_bag_here", "_law_letters"]
def hV(aA:SpD):TSd:=
  bc (cE (dS "abcdefghijklmnopqrstuvwxyz") (gN 1)) <|
  bc (dIf (aE (dOp cG (aW aA (ae (aj 0) (ae (dI 6) (av)))) (dI 0)))
   (bK (dOp cH (dq (ae (dS "turn") (ae (dS "yes") (ae (dS "no") (ae (dS "write") (ae (dS "deed") (ae (dS "none") (av)))))))) (aW aA (ae (aj 0) (ae (dI 6) (av))))))
   (bj)) <|
  bK (dMS gg (dS "") (ae (dLC (sL (ae (dOp cu (dI 1) (aW aA (ae (aj 0) (ae (dI 8) (av))))) (av))) (gN 0) (pz) (dOp cH (aj 1) (aW aA (ae (aj 2) (ae (dI 26) (av))))) 1 [1,0]) av))
abbrev qI:List Str:=["_law_bag_here", "_law_forms_here", "_law_word_here", "_law_found", "_law_sort", "_law_low", "_law_high", "_law_some"]
def pR(aA:SpD)(aG:SpD):TSd:=
  bc (cE (dOp cH (adQ (dCB wG (ae (aj 1) (av)))) (aW aA (ae (aj 0) (ae (dCB abV (ae (aj 1) (av))) (av))))) (gN 2)) <|
  bc (cE (xO (ae (aj 2) (av))) (gN 3)) <|
  bc (abY (fY (adx (aj 1) (aj 2))) (gN 4)
   (dIf (aE (dOp cG (aj 4) (dS "w")))
    (jW (fI (aj 3) (aW aG (ae (aj 0) (av)))))
    (dIf (aE (dOp cG (aj 4) (dS "e")))
     (jW (fI (aj 3) (dOp cH (dq (ae (dS "wish") (ae (dS "store") (ae (dS "door") (ae (dS "rule") (av)))))) (aW aA (ae (aj 0) (ae (dI 4) (av)))))))
     (dIf (aE (dOp cG (aj 4) (dS "y")))
      (jW (fI (aj 3) (dOp cG (aW aA (ae (aj 0) (ae (dI 2) (av)))) (dI 0))))
      (bc (cE (aj 4) (gT 2 (cV (gN 5) (cV (gN 6) (mK))))) <|
      bc (cE (dq (ae (aj 5) (ae (aj 6) (ae (dOp cu (aj 5) (aW aA (ae (aj 0) (ae (dOp cu (dOp sj (aj 6) (aj 5)) (dI 1)) (av))))) (av))))) (gN 7)) <|
      jW (fI (aj 3) (dOp cH (aj 7) (aW aA (ae (aj 0) (ae (dI 3) (av))))))))))) <|
  bK (dCB gp (ae (aj 3) (av)))
abbrev qS:List Str:=["_law_forms_here"]
def pI:TSd:=
  bc (cE (lB [(dS "rise",dq (ae (dS "w") (av))),(dS "fall",dq (ae (dS "w") (av))),(dS "cut",dq (ae (dS "w") (av))),(dS "join",dq (ae (dS "w") (av))),(dS "late",dq (ae (dS "w") (ae (eX (ae (dI 0) (ae (dI 2) (av)))) (av)))),(dS "twice",dq (ae (dS "w") (ae (dS "y") (av))))]) (gN 0)) <|
  bc (jW (aaP (aj 0) (xr [(dS "fail",dq (ae (eX (ae (dI 0) (ae (dOp ad0 (dI 10) (dI 9)) (av)))) (av))),(dS "ask",dq (ae (dS "w") (ae (dS "w") (ae (eX (ae (dI 1) (ae (dI 40) (av)))) (av))))),(dS "down",dq (av)),(dS "up",dq (av)),(dS "again",dq (av))]))) <|
  bK (aj 0)
abbrev hJ:List Str:=["_law_copies", "_law_wish", "_law_forms_here"]
def h9:TSd:=
  bc (ahy 0 1 (ae (dq (ae (eX (ae (dI 0) (ae (dI 6) (av)))) (ae (eX (ae (dI 0) (ae (dI 5) (av)))) (av)))) (ae (dq (ae (dS "w") (ae (dS "w") (ae (eX (ae (dI 0) (ae (dI 6) (av)))) (ae (eX (ae (dI 0) (ae (dI 5) (av)))) (ae (eX (ae (dI 0) (ae (dI 2) (av)))) (ae (eX (ae (dI 1) (ae (dI 3) (av)))) (av)))))))) (av)))) <|
  bc (cE (lB [(dS "group",dq (ae (dS "w") (ae (eX (ae (dI 1) (ae (dI 9) (av)))) (av)))),(dS "wish",aj 1),(dS "copies",vB (dq (ae (dS "w") (av))) (aj 0)),(dS "edition",dq (ae (dS "w") (ae (eX (ae (dI 0) (ae (dI 2) (av)))) (ae (eX (ae (dI 1) (ae (dI 3) (av)))) (av)))))]) (gN 2)) <|
  bc (jW (aaP (aj 2) (xr [(dS "back",dq (ae (dS "w") (av))),(dS "rank",dq (ae (dS "w") (ae (eX (ae (dI 0) (ae (dI 7) (av)))) (av)))),(dS "store",dq (ae (dS "w") (ae (dS "w") (av)))),(dS "door",dq (ae (dS "w") (ae (dS "w") (av))))]))) <|
  bc (jW (aaP (aj 2) (xr [(dS "rule",vB (dq (ae (dS "w") (ae (dS "w") (ae (eX (ae (dI 1) (ae (dI 20) (av)))) (av))))) (aj 0)),(dS "empty",dq (ae (dS "w") (av))),(dS "fill",dq (ae (dS "w") (av))),(dS "end",dq (ae (dS "e") (ae (dS "w") (av))))]))) <|
  bK (aj 2)
abbrev iT:List Str:=["_law_bag_here", "_law_way", "_law_signs", "_law_letters", "_law_deed", "_law_at"]
def iy(aA:SpD)(cA:SpD)(bz:SpD)(aG:SpD)(aN:SpD):TSd:=
  bc (cE (aW aA (ae (aj 0) (ae (dI 3) (av)))) (gN 1)) <|
  bc (dIf (aE (dOp cG (aj 1) (dI 0)))
   (bK (aW cA (ae (aj 0) (ae (aW bz av) (av)))))
   (bj)) <|
  bc (dIf (aE (dOp cG (aj 1) (dI 1)))
   (bc (cE (dS " !\"#&'()*+,-./0123456789:;<=>?\x40AZ[\\]^_`az{|}~") (gN 2)) <|
   bc (cE (dMS gg (dS "") (ae (dLC (sL (ae (aW aA (ae (aj 0) (ae (dI 13) (av)))) (av))) (gN 0) (pz) (dOp cH (aj 1) (aW aA (ae (aj 2) (ae (dCB eO (ae (aj 1) (av))) (av))))) 1 [2, 0]) av)) (gN 3)) <|
   bK (eX (ae (dS "write") (ae (aW aG (ae (aj 0) (av))) (ae (dOp cH (dq (ae (dSl (dS "  ") (bt) (cX (aW aA (ae (aj 0) (ae (dI 3) (av)))))) (ae (aj 3) (av)))) (aW aA (ae (aj 0) (ae (dI 2) (av))))) (av))))))
   (bj)) <|
  bc (cE (aW cA (ae (aj 0) (ae (aW aN av) (av)))) (gN 4)) <|
  bc (cE (xq (lB [(dS "wish", dI 3), (dS "copies", dI 2), (dS "rule", dI 4)]) (dOp cH (aj 4) (dI 0)) (dI 0)) (gN 5)) <|
  bc (dIf (aE (dOp uL (aj 5) (dI 0)))
   (cE (dOp qX (dOp qX (dSl (aj 4) (bt) (cX (dOp cu (aj 5) (dI 1)))) (eX (ae (dCB abA (ae (dOp cH (aj 4) (dOp cu (aj 5) (dI 1))) (ae (dCB ql (ae (dI 0) (ae (dOp sj (dOp cH (aj 4) (aj 5)) (dI 1)) (av)))) (av)))) (av)))) (dSl (aj 4) (cX (dOp cu (aj 5) (dI 2))) (bt))) (gN 4))
   (bj)) <|
  bK (eX (ae (dS "deed") (ae (aj 4) (av))))
abbrev jL:List Str:=["parts"]
def jT:TSd:=
  bK (dMS gg (dS " ") (ae (dLC (fY (aj 0)) (gN 0) (pz) (dCB aaF (ae (aj 0) (av))) 1 []) av))
abbrev lb:List Str:=["deed"]
def lH(bb:SpD):TSd:=
  bK (aW bb (ae (aj 0) (av)))
abbrev oF:List Str:=["form", "part"]
def yG(bP:SpD):TSd:=
  bc (dIf (aE (dOp cG (aj 0) (dS "deed")))
   (bK (aW bP (ae (aj 1) (av))))
   (bj)) <|
  bc (dIf (aE (dOp cG (aj 0) (dS "yes")))
   (bK (abN (aeB (aj 1)) (dS "yes") (dS "no")))
   (bj)) <|
  bK (aj 1)
abbrev gf:List Str:=["row"]
def f9(bb:SpD)(fg:SpD):TSd:=
  bK (aW bb (ae (vB (dq (ae (dOp cH (aj 0) (dI 0)) (av))) (dLC (aa7 (ae (agQ fk (dOp cH (aj 0) (dI 0))) (ae (dSl (aj 0) (cX (dI 1)) (bt)) (av)))) (gT 2 (cV (gN 0) (cV (gN 1) (mK)))) (pz) (aW fg (ae (aj 0) (ae (aj 1) (av)))) 2 [])) (av)))
abbrev lO:List Str:=["_law_row", "_law_parts_here"]
def ma:TSd:=
  bc (cE (aj 0) (gN 1)) <|
  bc (dIf (aE (dOp cG (dOp cH (aj 0) (dI 0)) (dS "deed")))
   (cE (dOp qX (eX (ae (dS "deed") (av))) (dOp cH (aj 0) (dI 1))) (gN 1))
   (bj)) <|
  bc (dIf (aE (dOp cG (dOp cH (aj 0) (dI 0)) (dS "twice")))
   (cE (dOp qX (dSl (aj 0) (bt) (cX (dI 2))) (eX (ae (dOp cH (dq (ae (dS "no") (ae (dS "yes") (av)))) (dCB afY (ae (dOp cH (aj 0) (dI 2)) (av)))) (av)))) (gN 1))
   (bj)) <|
  bK (dMS gg (dS " ") (ae (dLC (fY (aj 1)) (gN 0) (pz) (dCB aaF (ae (aj 0) (av))) 1 []) av))
abbrev iW:List Str:=["text"]
def iP:TSd:=
  bc (dIf (kZ (aE (eE lp lp (dI 1) (dCB eO (ae (aj 0) (av))) (dI 10))))
   (bK (dC (.d .none)))
   (bj)) <|
  bc (dIf (kZ (aE (dCB qi (ae (dLC (fY (aj 0)) (gN 0) (pz) (dOp aaZ (aj 0) (dS "0123456789")) 1 []) (av)))))
   (bK (dC (.d .none)))
   (bj)) <|
  bc (dIf (qb (aE (dOp cG (dOp cH (aj 0) (dI 0)) (dS "0"))) (aE (dOp lU (aj 0) (dS "0"))))
   (bK (dC (.d .none)))
   (bj)) <|
  bK (dCB hZ (ae (aj 0) (av)))
abbrev lV:List Str:=["form", "text"]
def me(aV:SpD):TSd:=
  bK (abN (aE (agm fE (aj 0))) (aW aV (ae (aj 1) (av))) (aj 1))
abbrev pV:List Str:=["thing"]
def qz:TSd:=
  bc (dIf (dOr (kZ (aE (dCB fh (ae (aj 0) (ae (dC (.t "str")) (av)))))) (kZ (aE (eE lp lp (dI 1) (dCB eO (ae (aj 0) (av))) (dI 8)))))
   (bK (dC (.d (.bool false))))
   (bj)) <|
  bK (dCB qi (ae (dLC (fY (aj 0)) (gN 0) (pz) (eE lp lp (dS "a") (aj 0) (dS "z")) 1 []) (av)))
abbrev nv:List Str:=["thing"]
def nE:TSd:=
  bK (tU (dCB fh (ae (aj 0) (ae (dC (.t "int")) (av)))) (adv (dCB fh (ae (aj 0) (ae (dC (.t "bool")) (av))))))
abbrev lN:List Str:=["thing", "low", "high"]
def k9(cv:SpD):TSd:=
  bK (tU (aW cv (ae (aj 0) (av))) (eE lp lp (aj 1) (aj 0) (aj 2)))
abbrev qy:List Str:=["form", "part", "low", "high"]
def qx(bN:SpD)(bu:SpD):TSd:=
  bc (dIf (aE (dOp cG (aj 0) (dS "word")))
   (bK (aW bN (ae (aj 1) (av))))
   (bj)) <|
  bc (dIf (aE (dOp cG (aj 0) (dS "sort")))
   (bK (tU (dCB fh (ae (aj 1) (ae (dC (.t "str")) (av)))) (dOp (aac false) (aj 1) (dC (.d (.tuple [.str "wish", .str "store", .str "door", .str "rule"]))))))
   (bj)) <|
  bc (cE (agQ fE (aj 0)) (gT 2 (cV (gN 2) (cV (gN 3) (mK))))) <|
  bK (aW bu (ae (aj 1) (ae (aj 2) (ae (aj 3) (av)))))
abbrev lA:List Str:=["forms", "deed", "copies", "keep"]
def lQ:TSd:=
  bc (cE (dOp cH (aj 1) (dOp cu (xB (aj 0) (dS "copies")) (dI 1))) (gN 2)) <|
  bc (cE (dOp cH (aj 1) (dOp cu (xB (aj 0) (dS "keep")) (dI 1))) (gN 3)) <|
  bK (dOp lp (aj 3) (dCB ql (ae (dOp sj (aj 2) (dI 1)) (ae (dI 0) (av)))))
abbrev pU:List Str:=["thing", "forms", "form", "part"]
def rg(cW:SpD)(cm:SpD):TSd:=
  bc (dIf (dOr (kZ (aE (dCB fh (ae (aj 0) (ae (dC (.t "tuple")) (av)))))) (dOr (kZ (aeB (aj 0))) (kZ (aE (dCB fh (ae (dOp cH (aj 0) (dI 0)) (ae (dC (.t "str")) (av))))))))
   (bK (dC (.d (.bool false))))
   (bj)) <|
  bc (cE (vy gw (dOp cH (aj 0) (dI 0))) (gN 1)) <|
  bc (dIf (dOr (aE (dOp (mn false) (aj 1) (dC (.d .none)))) (aE (dOp lU (dCB eO (ae (aj 0) (av))) (dOp cu (dCB eO (ae (aj 1) (av))) (dI 1)))))
   (bK (dC (.d (.bool false))))
   (bj)) <|
  bc (abY (aa7 (ae (aj 1) (ae (dSl (aj 0) (cX (dI 1)) (bt)) (av)))) (gT 2 (cV (gN 2) (cV (gN 3) (mK))))
   (dIf (kZ (aE (aW cW (ae (aj 2) (ae (aj 3) (av))))))
    (bK (dC (.d (.bool false))))
    (bj))) <|
  bK (aih (dOp (aac true) (dS "keep") (aj 1)) (aW cm (ae (aj 1) (ae (aj 0) (av)))))
abbrev k7:List Str:=["text", "parts", "forms", "deed"]
def lK(Ex:XE)(ck:SpD)(bG:SpD):TSd:=
  bc (dIf (kZ (aE (dCB fh (ae (aj 0) (ae (dC (.t "str")) (av))))))
   (jB aD Ex (ae (dS "this is no text") (av)))
   (bj)) <|
  bc (cE (t9 (aj 0) (dS " ")) (gN 1)) <|
  bc (cE (vy gw (dOp cH (aj 1) (dI 0))) (gN 2)) <|
  bc (dIf (dOr (aE (dOp (mn false) (aj 2) (dC (.d .none)))) (aE (dOp lU (dCB eO (ae (aj 1) (av))) (dOp cu (dCB eO (ae (aj 2) (av))) (dI 1)))))
   (jB aD Ex (ae (dS "this has not the parts of a deed") (av)))
   (bj)) <|
  bc (cE (dCB gp (ae (vB (dSl (aj 1) (bt) (cX (dI 1))) (dLC (xj (ae (aj 2) (ae (dSl (aj 1) (cX (dI 1)) (bt)) (av)))) (gT 2 (cV (gN 0) (cV (gN 1) (mK)))) (pz) (aW ck (ae (aj 0) (ae (aj 1) (av)))) 2 [])) (av))) (gN 3)) <|
  bc (dIf (kZ (aE (aW bG (ae (aj 3) (av)))))
   (jB aD Ex (ae (dS "this is no deed's text") (av)))
   (bj)) <|
  bK (aj 3)
abbrev kJ:List Str:=["form", "text"]
def kY(Ex:XE)(aV:SpD)(cf:SpX):TSd:=
  bc (dIf (aE (agm fe (aj 0)))
   (bK (aW aV (ae (aj 1) (av))))
   (bj)) <|
  bc (dIf (aE (dOp cG (aj 0) (dS "yes")))
   (bK (vy bT (aj 1)))
   (bj)) <|
  bc (dIf (aE (dOp cG (aj 0) (dS "deed")))
   (bK (u7 cf Ex (ae (aj 1) (av))))
   (bj)) <|
  bK (aj 1)
abbrev i8:List Str:=["thing"]
def iX:TSd:=
  bc (dIf (dOr (kZ (aE (dCB fh (ae (aj 0) (ae (dC (.t "str")) (av)))))) (aE (dOp uL (dCB eO (ae (aj 0) (av))) (dI 12))))
   (bK (dC (.d (.bool false))))
   (bj)) <|
  bK (dCB qi (ae (dLC (fY (aj 0)) (gN 0) (pz) (eE lp lp (dS " ") (aj 0) (dS "~")) 1 []) (av)))
abbrev abJ:List Str:=["form", "part", "low", "high"]
def abn(bu:SpD)(bG:SpD)(bE:SpD)(bN:SpD):TSd:=
  bc (dIf (aE (agm fe (aj 0)))
   (bc (cE (agQ fe (aj 0)) (gT 2 (cV (gN 2) (cV (gN 3) (mK))))) <|
   bK (aW bu (ae (aj 1) (ae (aj 2) (ae (aj 3) (av))))))
   (bj)) <|
  bc (dIf (aE (dOp cG (aj 0) (dS "yes")))
   (bK (dCB fh (ae (aj 1) (ae (dC (.t "bool")) (av)))))
   (bj)) <|
  bc (dIf (aE (dOp cG (aj 0) (dS "deed")))
   (bK (aW bG (ae (aj 1) (av))))
   (bj)) <|
  bc (dIf (aE (dOp cG (aj 0) (dS "letters")))
   (bK (aW bE (ae (aj 1) (av))))
   (bj)) <|
  bK (aW bN (ae (aj 1) (av)))
abbrev hW:List Str:=["thing", "forms"]
def hU(gA:SpD):TSd:=
  bc (dIf (dOr (kZ (aE (dCB fh (ae (aj 0) (ae (dC (.t "tuple")) (av)))))) (dOr (kZ (aeB (aj 0))) (kZ (aE (dCB fh (ae (dOp cH (aj 0) (dI 0)) (ae (dC (.t "str")) (av))))))))
   (bK (dC (.d (.bool false))))
   (bj)) <|
  bc (cE (vy fk (dOp cH (aj 0) (dI 0))) (gN 1)) <|
  bc (dIf (dOr (aE (dOp (mn false) (aj 1) (dC (.d .none)))) (aE (dOp lU (dCB eO (ae (aj 0) (av))) (dOp cu (dCB eO (ae (aj 1) (av))) (dI 1)))))
   (bK (dC (.d (.bool false))))
   (bj)) <|
  bK (dCB qi (ae (dLC (aa7 (ae (aj 1) (ae (dSl (aj 0) (cX (dI 1)) (bt)) (av)))) (gT 2 (cV (gN 0) (cV (gN 1) (mK)))) (pz) (aW gA (ae (aj 0) (ae (aj 1) (av)))) 2 []) (av)))
abbrev gc:List Str:=["text", "forms", "parts", "row"]
def f6(Ex:XE)(b9:SpX)(bx:SpD):TSd:=
  bc (dIf (kZ (aE (dCB fh (ae (aj 0) (ae (dC (.t "str")) (av))))))
   (jB aD Ex (ae (dS "this is no text") (av)))
   (bj)) <|
  bc (cE (abB fk (dOp cH (ai2 (aj 0) (dS " ")) (dI 0)) (eX (av))) (gN 1)) <|
  bc (cE (yq (aj 0) (dS " ") (dCB eO (ae (aj 1) (av)))) (gN 2)) <|
  bc (cE (dCB gp (ae (vB (dSl (aj 2) (bt) (cX (dI 1))) (ahc (xj (ae (aj 1) (ae (dSl (aj 2) (cX (dI 1)) (bt)) (av)))) (gT 2 (cV (gN 0) (cV (gN 1) (mK)))) (pz) (λ Ex=>u7 b9 Ex (ae (aj 0) (ae (aj 1) (av)))) 2 [] Ex)) (av))) (gN 3)) <|
  bc (dIf (kZ (aE (aW bx (ae (aj 3) (av)))))
   (jB aD Ex (ae (dS "this is no happening's text") (av)))
   (bj)) <|
  bK (aj 3)
abbrev uM:List Str:=["_law_thing", "e"]
def uE(bf:SpX):TSd:=
  bc (ah6 (λ Ex =>
   bK (eX (ae (dS "told") (ae (u7 bf Ex (ae (aj 0) (av))) (av))))) (adE (zu [(aD, true)]) 1
   (dIf (qb (aE (ab3 (zu [(aD, true)]) (aj 1))) (qb (aE (ab3 (zu [(aD, true)]) (aj 1))) (kZ (aE (ab3 (zu [(aD, false)]) (aj 1))))))
     (bK (eX (ae (dS "refused") (ae (dC (.d .none)) (av)))))
     (bj)) (λ _ _ _ _=>False))) <|
  bK (eX (ae (dS "odd") (ae (dC (.d .none)) (av))))
abbrev nu:List Str:=["_law_bag_here", "_law_text", "_law_at", "_law_way", "_law_sign", "_law_words", "_law_k"]
def nF(aA:SpD)(aG:SpD):TSd:=
  bc (cE (aW aA (ae (aj 0) (ae (dOp cu (dCB eO (ae (aj 1) (av))) (dI 1)) (av)))) (gN 2)) <|
  bc (cE (aW aA (ae (aj 0) (ae (dI 8) (av)))) (gN 3)) <|
  bc (cE (dOp cH (dq (ae (dS "0") (ae (dS "1") (ae (dS " ") (ae (dS "a") (ae (dS "z") (ae (dS "-") (ae (dS "A") (ae (dS "9") (ae (dS "  ") (ae (dS " no") (ae (dS " yes") (ae (dS " 3") (ae (dS "\n") (ae (dS "~") (av)))))))))))))))) (aW aA (ae (aj 0) (ae (dI 14) (av))))) (gN 4)) <|
  bc (cE (t9 (aj 1) (dS " ")) (gN 5)) <|
  bc (cE (aW aA (ae (aj 0) (ae (dCB eO (ae (aj 5) (av))) (av)))) (gN 6)) <|
  bc (dIf (aE (dOp ahp (aj 3) (dI 3)))
   (bK (dOp cu (dOp cu (dSl (aj 1) (bt) (cX (aj 2))) (aj 4)) (dSl (aj 1) (cX (aj 2)) (bt))))
   (bj)) <|
  bc (dIf (aE (dOp cG (aj 3) (dI 3)))
   (bK (dOp cu (dOp cu (dSl (aj 1) (bt) (cX (aj 2))) (aj 4)) (dSl (aj 1) (cX (dOp cu (aj 2) (dI 1))) (bt))))
   (bj)) <|
  bc (dIf (aE (dOp cG (aj 3) (dI 4)))
   (bK (dOp cu (dSl (aj 1) (bt) (cX (aj 2))) (dSl (aj 1) (cX (dOp cu (aj 2) (dI 1))) (bt))))
   (bj)) <|
  bc (dIf (aE (dOp cG (aj 3) (dI 5)))
   (bK (dMS gg (dS " ") (ae (vB (dSl (aj 5) (bt) (cX (aj 6))) (dSl (aj 5) (cX (dOp cu (aj 6) (dI 1))) (bt))) av)))
   (bj)) <|
  bc (dIf (aE (dOp cG (aj 3) (dI 6)))
   (bK (dMS gg (dS " ") (ae (vB (dSl (aj 5) (bt) (cX (dOp cu (aj 6) (dI 1)))) (dSl (aj 5) (cX (aj 6)) (bt))) av)))
   (bj)) <|
  bK (dMS gg (dS " ") (ae (vB (vB (dSl (aj 5) (bt) (cX (aj 6))) (dq (ae (aW aG (ae (aj 0) (av))) (av)))) (dSl (aj 5) (cX (dOp cu (aj 6) (dI 1))) (bt))) av))
abbrev ud:List Str:=["_law_text"]
def uo:TSd:=
  bK (tU (eE lp lp (dI 1) (dCB eO (ae (aj 0) (av))) (dI 8)) (dCB qi (ae (dLC (fY (aj 0)) (gN 0) (pz) (dOp aaZ (aj 0) (dS "abcdefghijklmnopqrstuvwxyz")) 1 []) (av))))
abbrev jq:List Str:=["_law_text", "_law_least", "_law_most"]
def nz:TSd:=
  bc (dIf (dOr (kZ (aE (eE lp lp (dI 1) (dCB eO (ae (aj 0) (av))) (dI 10)))) (kZ (aE (dCB qi (ae (dLC (fY (aj 0)) (gN 0) (pz) (dOp aaZ (aj 0) (dS "0123456789")) 1 []) (av))))))
   (bK (dC (.d .none)))
   (bj)) <|
  bc (dIf (dOr (qb (aE (dOp cG (dOp cH (aj 0) (dI 0)) (dS "0"))) (aE (dOp lU (aj 0) (dS "0")))) (kZ (aE (eE lp lp (aj 1) (dCB hZ (ae (aj 0) (av))) (aj 2)))))
   (bK (dC (.d .none)))
   (bj)) <|
  bK (dCB hZ (ae (aj 0) (av)))
abbrev rR:List Str:=["_law_forms_here", "_law_words", "_law_sorts", "_law_found", "_law_sort", "_law_text"]
def qC(bZ:SpD)(cw:SpD):TSd:=
  bc (cE (adp (aj 0) (dOp cH (aj 1) (dI 0))) (gN 2)) <|
  bc (dIf (dOr (aE (dOp (mn false) (aj 2) (dC (.d .none)))) (aE (dOp lU (dCB eO (ae (aj 2) (av))) (dOp sj (dCB eO (ae (aj 1) (av))) (dI 1)))))
   (bK (dC (.d .none)))
   (bj)) <|
  bc (cE (xO (ae (dOp cH (aj 1) (dI 0)) (av))) (gN 3)) <|
  bc (abY (aiS (ae (aj 2) (ae (dSl (aj 1) (cX (dI 1)) (bt)) (av)))) (gT 2 (cV (gN 4) (cV (gN 5) (mK))))
   (dIf (dOr (qb (aE (dOp cG (aj 4) (dS "w"))) (aE (aW bZ (ae (aj 5) (av))))) (qb (aE (dOp cG (aj 4) (dS "e"))) (aE (dOp (acV false) (aj 5) (eX (ae (dS "wish") (ae (dS "store") (ae (dS "door") (ae (dS "rule") (av))))))))))
    (jW (fI (aj 3) (aj 5)))
    (dIf (qb (aE (dOp cG (aj 4) (dS "y"))) (aE (dOp (acV false) (aj 5) (eX (ae (dS "yes") (ae (dS "no") (av)))))))
     (jW (fI (aj 3) (dOp cG (aj 5) (dS "yes"))))
     (dIf (qb (aE (dCB fh (ae (aj 4) (ae (dC (.t "tuple")) (av))))) (aE (dOp (mn true) (aW cw (ae (aj 5) (ae (dOp cH (aj 4) (dI 0)) (ae (dOp cH (aj 4) (dI 1)) (av))))) (dC (.d .none)))))
      (jW (fI (aj 3) (dCB hZ (ae (aj 5) (av)))))
      (bK (dC (.d .none))))))) <|
  bK (dCB gp (ae (aj 3) (av)))
abbrev pX:List Str:=["_law_text", "_law_words", "_law_letters", "_law_good", "_law_found", "_law_at"]
def qB(bZ:SpD)(bO:SpD)(aN:SpD)(bz:SpD):TSd:=
  bc (cE (t9 (aj 0) (dS " ")) (gN 1)) <|
  bc (dIf (qb (aE (dOp cG (dOp cH (aj 1) (dI 0)) (dS "write"))) (aE (dOp uL (dCB eO (ae (aj 1) (av))) (dI 2))))
   (bc (cE (dMS gg (dS " ") (ae (dSl (aj 1) (cX (dI 2)) (bt)) av)) (gN 2)) <|
   bc (cE (tU (dOp lp (dCB eO (ae (aj 2) (av))) (dI 12)) (dCB qi (ae (dLC (fY (aj 2)) (gN 0) (pz) (eE lp lp (dS " ") (aj 0) (dS "~")) 1 []) (av)))) (gN 3)) <|
   bK (abN (qb (aE (aj 3)) (aE (aW bZ (ae (dOp cH (aj 1) (dI 1)) (av))))) (eX (ae (dS "write") (ae (dOp cH (aj 1) (dI 1)) (ae (aj 2) (av))))) (dC (.d .none))))
   (bj)) <|
  bc (dIf (qb (aE (dOp cG (dOp cH (aj 1) (dI 0)) (dS "deed"))) (aE (dOp uL (dCB eO (ae (aj 1) (av))) (dI 1))))
   (bc (cE (aW bO (ae (aW aN av) (ae (dSl (aj 1) (cX (dI 1)) (bt)) (av)))) (gN 4)) <|
   bc (dIf (aE (dOp (mn false) (aj 4) (dC (.d .none))))
    (bK (dC (.d .none)))
    (bj)) <|
   bc (cE (xq (lB [(dS "wish", dI 3), (dS "copies", dI 2), (dS "rule", dI 4)]) (dOp cH (aj 4) (dI 0)) (dI 0)) (gN 5)) <|
   bc (dIf (qb (aE (dOp uL (aj 5) (dI 0))) (aE (dOp uL (dOp cH (aj 4) (dOp cu (aj 5) (dI 1))) (dCB ql (ae (dI 0) (ae (dOp sj (dOp cH (aj 4) (aj 5)) (dI 1)) (av)))))))
    (bK (dC (.d .none)))
    (bj)) <|
   bK (eX (ae (dS "deed") (ae (aj 4) (av)))))
   (bj)) <|
  bK (aW bO (ae (aW bz av) (ae (aj 1) (av))))
abbrev yX:List Str:=["_law_text", "_law_found"]
def yB(cS:SpD):TSd:=
  bc (cE (aW cS (ae (aj 0) (av))) (gN 1)) <|
  bK (abN (aE (dOp (mn false) (aj 1) (dC (.d .none)))) (eX (ae (dS "refused") (ae (dC (.d .none)) (av)))) (eX (ae (dS "told") (ae (aj 1) (av)))))
abbrev afQ:List Str:=["_law_script", "_law_bag_here", "_law_turn", "_law_row", "_law_text", "_law_k", "_law_again", "_law_odd"]
def afy(eU:SpD)(bF:SpD)(bh:SpD)(cb:SpD)(cL:SpD)(aA:SpD)(cx:SpD)(eV:SpD):TSd:=
  bc (cE (aW eU (ae (aj 0) (av))) (gN 1)) <|
  bc (abY (sL (ae (dI 14) (av))) (gN 2)
   (bc (cE (aW bF (ae (aj 1) (av))) (gN 3)) <|
   bc (cE (aW bh (ae (aj 3) (av))) (gN 4)) <|
   bc (dIf (dOr (aE (dOp lU (aj 4) (aW cb (ae (aj 3) (av))))) (aE (dOp lU (dCB l5 (ae (aW cL (ae (aj 4) (av))) (av))) (dCB l5 (ae (eX (ae (dS "told") (ae (aj 3) (av)))) (av))))))
    (bK (dC (.d (.bool false))))
    (bj)) <|
   bc (abY (sL (ae (dOp cu (dI 1) (aW aA (ae (aj 1) (ae (dI 3) (av))))) (av))) (gN 5)
    (cE (aW cx (ae (aj 1) (ae (aj 4) (av)))) (gN 4))) <|
   bc (abY (sL (ae (dI 2) (av))) (gN 6)
    (dIf (aE (dOp lU (dCB l5 (ae (aW cL (ae (aj 4) (av))) (av))) (dCB l5 (ae (aW eV (ae (aj 4) (av))) (av)))))
     (bK (dC (.d (.bool false))))
     (bj))) <|
   bc (cE (dq (ae (dC (.d .none)) (ae (dI 5) (ae (dC (.d (.bool true))) (ae (dq (ae (dS "up") (av))) (ae (eX (ae (dS "up") (av))) (ae (abv) (ae (aj 3) (ae (dS "") (ae (dS " ") (ae (dS "up ") (ae (dS "turn") (ae (dOp cu (dS "fail ") (dOp abC (dS "9") (dI 4400))) (av)))))))))))))) (gN 7)) <|
   dIf (aE (dOp lU (aW cL (ae (dOp cH (aj 7) (aW aA (ae (aj 1) (ae (dI 12) (av))))) (av))) (eX (ae (dS "refused") (ae (dC (.d .none)) (av))))))
    (bK (dC (.d (.bool false))))
    (bj))) <|
  bK (dC (.d (.bool true)))
def btw(i lo hi:Int):Bool:=decide (lo<=i)&&decide (i<=hi)
def sorts:List Str:=["wish", "store", "door", "rule"]
def tX(z:Str):Bool:=decide (z∈sorts)
theorem acS{z:Str}:inA (.str z) (sorts.map PyData.str)=tX z:=by
 unfold inA tX;rw[List.any_map]
 by_cases h:z∈sorts
 ·rw[decide_eq_true h];exact List.any_eq_true.mpr ⟨z, h, by show PyData.eqv (.str z) (.str z)=true;rw[aR, decide_eq_true rfl]⟩
 ·rw[decide_eq_false h];refine List.any_eq_false.mpr λ y hy=>?_;show ¬ PyData.eqv (.str y) (.str z)=true;rw[aR];simp only[decide_eq_true_eq];intro e;exact h (e ▸ hy)
theorem acU{z:Str}(h:dU z=true):sU (.str z) (sorts.map PyData.str)=true:=by
 have e1:okD 1 (.str z)=true:=by simp only[okD];exact h
 have e2:okD 1 (.list (sorts.map PyData.str))=true:=by decide +kernel
 unfold sU;rw[nO (by decide) e1, nO (by decide) e2];rfl
theorem m7:∀ (cs:List Nat) (acc:Array Nat), ((cs.map λ c=>(⟨#[c]⟩:Str)).foldl (λ acc p=>acc++("" : Str).cps++p.cps) acc).toList=acc.toList++cs
 | [], acc=>by simp
 | c::cs, acc=>by
  have e:("" : Str).cps = #[]:=by decide +kernel
  rw[List.map_cons, List.foldl_cons, m7 cs];rw[e];simp
theorem nG(cs:List Nat):(Txt.join "" (cs.map λ c=>(⟨#[c]⟩:Str))).cps.toList=cs:=by
 cases cs with
 | nil=>simp[Txt.join, Builtin.Str.glued, Str.empty]
 | cons c cs =>
  show(((cs.map λ c=>(⟨#[c]⟩:Str)).foldl (λ acc p=>acc++("" : Str).cps++p.cps) #[c])).toList=_;rw[m7];rfl
theorem aeh{cs:List Nat}(h0:1<=cs.length)(h1:cs.length<=8)(h:∀ c∈cs, eF c=true):wd (Txt.join "" (cs.map λ c=>(⟨#[c]⟩:Str)))=true:=by
 have e:=nG cs;have el:(Txt.join "" (cs.map λ c=>(⟨#[c]⟩:Str))).length=cs.length:=by rw[<- str_len, e]
 unfold wd;rw[el, e, decide_eq_true h0, decide_eq_true h1]
 simpa using h
theorem tT:∀ c∈uF.cps.toList, eF c=true:=by decide +kernel
theorem qK(cs:List Nat):((cs.map λ c=>(⟨#[c]⟩:Str)).map (·.length)).sum=cs.length:=by
 induction cs with
 | nil=>rfl
 | cons c cs ih =>
  simp only[List.map_cons, List.sum_cons, ih, List.length_cons];show 1+cs.length=_;omega
def w5:List Str:=["turn", "yes", "no", "write", "deed", "none"]
theorem zh:∀ z∈w5,wd z=true:=by decide +kernel
def aG:SpD:=λ ws M Q=>∃ p:Addr,ws=[.m p]/\Bag M p/\∀ (z:Str) M',wd z=true->Bag M' p->(∀ q,q≠p->M' q=M q)->Q (.d (.str z)) M'
theorem jV:Ln aG 1:=by rintro ws M Q ⟨p,rfl,_⟩;rfl
theorem jA:Rd aG (hV aA) h7:=by
 rintro ws M Q ⟨p,rfl,hb,k⟩;have s16':=s16;refine⟨_,rfl,p,6,rfl,hb,by decide,by decide,λ x M1 _ _ b1 f1=>⟨_,_,.d,.d,rfl,_,rfl,eI (λ _=>?_) (λ _=>?_)⟩⟩
 ·refine⟨_,rfl,few (by simp),_,rfl,p,6,rfl,b1,by decide,by decide,λ r M2 r0 r1 b2 f2=>?_⟩;obtain⟨z,ez,hz⟩:=gB (M:=M2) (zs:=w5) r0 (by simpa [w5] using r1);exact⟨r,_,rfl,ez,rfl,k z M2 (zh z hz) b2 λ q hq=>(f2 q hq).trans (f1 q hq)⟩
 ·refine⟨⟨_,rfl⟩,_,rfl,p,8,rfl,b1,by decide,by decide,λ n M2 n0 n1 b2 f2=>.inl ⟨_,_,rfl,rfl,1+n,rfl,by omega,by omega,?_⟩⟩;dsimp only;refine⟨λ i acc τ M'=>Bag M' p/\(∀ q,q≠p->M' q=M q)/\(∃ cs:List Nat,acc=cs.map (λ c=>PyData.str ⟨#[c]⟩)/\cs.length=i/\∀ c∈cs,eF c=true)/\∃ x,τ=[x,some (.d (.str uF)),some (.m p)],⟨b2,λ q hq=>(f2 q hq).trans (f1 q hq),⟨[],rfl,rfl,λ _ h=>nomatch h⟩,_,rfl⟩,?_,?_⟩
  ·rintro i w acc τ M' hw ⟨b,f,⟨cs,rfl,hl,hc⟩,x,rfl⟩;obtain⟨hi,rfl⟩:=zc hw;refine⟨by rw[List.length_map];omega,_,rfl,_,rfl,p,26,rfl,b,by decide,by decide,λ r M3 r0 r1 b3 f3=>?_⟩;obtain⟨c,hc1,hm⟩:=rq (M:=M3) (z:=uF) r0 (by rw[afC];exact r1);refine⟨r,_,rfl,hc1,by decide +kernel,_,rfl,b3,λ q hq=>(f3 q hq).trans (f q hq),⟨cs++[c],by simp,by simp[hl],λ c' h'=>?_⟩,_,rfl⟩;rcases List.mem_append.mp h' with h' | h'
   ·exact hc c' h'
   ·rw[List.mem_singleton.mp h'];exact tT c hm
  ·rintro acc τ M' ⟨b,f,⟨cs,rfl,hl,hc⟩,x,rfl⟩;simp only[kS,List.length_map,List.length_range] at hl;refine⟨"",cs.map λ c=>⟨#[c]⟩,rfl,by rw[List.map_map];rfl,?_,k _ M' (aeh (by omega) (by omega) hc) b f⟩;rw[qK];have e0:("" : Str).length=0:=by decide +kernel
   rw[e0];omega
inductive Cd | w | e | s | c | k | t | h | p | a
deriving DecidableEq
def cdF:Cd->Str
 | .w => "word" | .e => "sort" | .s => "share" | .c => "copies" | .k => "keep" | .t => "start" | .h => "hands" | .p => "place" | .a => "asks"
def cdL:Cd->Int
 | .s=>1 | .h=>1 | .a=>1 | _=>0
def cdH:Cd->Int
 | .s=>9 | .c=>6 | .k=>5 | .t=>2 | .h=>3 | .p=>7 | .a=>20 | _=>0
def tabS:List (Str×Str×List Cd):=[("group", "",[.w,.s]),("wish", "wwckth",[.w,.w,.c,.k,.t,.h]),("copies", "wck",[.w,.c,.k]),("edition", "wth",[.w,.t,.h]),("back", "w",[.w]),("rank", "wp",[.w,.p]),("store", "ww",[.w,.w]),("door", "ww",[.w,.w]),("rule", "wwack",[.w,.w,.a,.c,.k]),("empty", "w",[.w]),("fill", "w",[.w]),("end", "ew",[.e,.w])]
theorem jr:∀ x∈tabS,x.2.2.length<=6/\1<=x.2.2.length:=by decide +kernel
theorem yx:∀ x∈tabS,bY gw x.1=some (.tuple (x.2.2.map λ c=>.str (cdF c))):=by intro x hx;simp only[tabS,List.mem_cons,List.not_mem_nil,or_false] at hx;rcases hx with rfl | rfl | rfl | rfl | rfl | rfl | rfl | rfl | rfl | rfl | rfl | rfl<;>rfl
theorem gX:∀ x∈tabS,wd x.1=true:=by decide +kernel
theorem wF(c:Cd):c ≠ .w->c ≠ .e->0<=cdL c/\cdL c<=cdH c/\cdH c<=1000:=by cases c<;>decide +kernel
def six:List Str:=["wish", "store", "door", "rule", "group", "copies"]
theorem ady:∀ z∈six,dU z=true:=by decide +kernel
def Pt(c:Cd)(d:PyData):Prop:=(c=.w/\∃ y:Str,d=.str y/\wd y=true)\/(c=.e/\∃ y:Str,d=.str y/\y∈six)\/(c ≠ .w/\c ≠ .e/\∃ i:Int,d=.int i/\-1<=i/\i<=1001)
def Pts(cs:List Cd)(ds:List PyData):Prop:=∀ (j:Nat) c d,cs[j]? =some c->ds[j]? =some d->Pt c d
def dd(z:Str)(ds:List PyData):PyData:=.tuple (.str z::ds)
theorem ag8(zs:List Str):qJ zs=(zs.map PyData.str).map W.d:=by rw[List.map_map];rfl
def isW:PyData->Bool
 | .str z=>wd z
 | _=>false
def inB(lo hi:Int):PyData->Bool
 | .int i=>btw i lo hi
 | _=>false
def Fl(d:PyData):Prop:=(∃ y:Str,d=.str y/\dU y=true/\y.length<=100000)\/(∃ i:Int,d=.int i)\/d=.none
def aeK:PyData->Bool
 | .int _=>true
 | _=>false
def cv:SpD:=λ ws M Q=>∃ d,ws=[.d d]/\Fl d/\Q (.d (.bool (aeK d))) M
theorem rN:Ln cv 1:=by rintro ws M Q ⟨d,rfl,_⟩;rfl
theorem oZ:Rd cv nE nv:=by
 rintro ws M Q ⟨d,rfl,hf,k⟩;refine⟨_,rfl,_,_,_,rfl,.d,.int,_,rfl,?_⟩;rcases hf with ⟨y,rfl,_⟩ | ⟨i,rfl⟩ | rfl
 ·exact bR k
 ·exact dg ⟨_,rfl,_,_,_,rfl,.d,.bool,_,rfl,k⟩
 ·exact bR k
def bu:SpD:=λ ws M Q=>∃ (d:PyData) (lo hi:Int),ws=[.d d,.d (.int lo),.d (.int hi)]/\Fl d/\Q (.d (.bool (inB lo hi d))) M
theorem n8:Ln bu 3:=by rintro ws M Q ⟨i,lo,hi,rfl,_⟩;rfl
theorem mr:Rd bu (k9 cv) lN:=by
 rintro ws M Q ⟨d,lo,hi,rfl,hf,k⟩;refine⟨_,rfl,d,rfl,hf,_,rfl,?_⟩;rcases hf with ⟨y,rfl,_⟩ | ⟨i,rfl⟩ | rfl
 ·exact bR k
 ·refine dg ⟨_,rfl,_,rfl,.inl ⟨_,_,rfl,rfl,_,rfl,?_⟩⟩;have k':Q (.d (.bool (btw i lo hi))) M:=k;unfold btw at k'
  by_cases h:lo<=i
  ·rw[decide_eq_true h] at k' ⊢;exact dg ⟨_,rfl,.inl ⟨_,_,rfl,rfl,k'⟩⟩
  ·rw[decide_eq_false h] at k' ⊢;exact bR k'
 ·exact bR k
def bN:SpD:=λ ws M Q=>∃ d,ws=[.d d]/\Fl d/\Q (.d (.bool (isW d))) M
theorem si:Ln bN 1:=by rintro ws M Q ⟨d,rfl,_⟩;rfl
theorem ahF(c:Nat):(!decide ((⟨#[c]⟩:Str).cps.toList<("a" : Str).cps.toList))=decide (97<=c)/\(!decide (("z" : Str).cps.toList<(⟨#[c]⟩:Str).cps.toList))=decide (c<=122):=by
 have ea:("a" : Str).cps.toList=[97]:=by decide +kernel
 have ez:("z" : Str).cps.toList=[122]:=by decide +kernel
 have ec:(⟨#[c]⟩:Str).cps.toList=[c]:=rfl;rw[ea,ez,ec,lt1,lt1];constructor
 ·by_cases h:c<97
  ·rw[decide_eq_true h,decide_eq_false (by omega)];rfl
  ·rw[decide_eq_false h,decide_eq_true (by omega)];rfl
 ·by_cases h:122<c
  ·rw[decide_eq_true h,decide_eq_false (by omega)];rfl
  ·rw[decide_eq_false h,decide_eq_true (by omega)];rfl
theorem rh:Rd bN qz pV:=by
 rintro ws M Q ⟨d,rfl,hf,k⟩;have s16':=s16;refine⟨_,rfl,_,_,_,rfl,.d,.str,_,rfl,?_⟩;rcases hf with ⟨z,rfl,_,hl⟩ | ⟨i,rfl⟩ | rfl
 ·have hfit:tK (.d (.str z))=true:=decide_eq_true (by omega);have k':Q (.d (.bool (wd z))) M:=k;refine dw (by rw[vI];rfl) ⟨_,rfl,_,_,rfl,rfl,hfit,.inl ⟨_,_,rfl,rfl,_,rfl,?_⟩⟩;have no:¬ (1<=z.length/\z.length<=8)->Q (.d (.bool false)) M:=λ h=>by
   have e:wd z=false:=by
    unfold wd
    by_cases h1:1<=z.length
    ·rw[decide_eq_false (show ¬ z.length<=8 from λ h2=>h ⟨h1,h2⟩)];simp
    ·rw[decide_eq_false h1];simp
   rw[e] at k';exact k'
  by_cases h1:1<=z.length
  ·refine dr (decide_eq_true (show(1:Int)<=(z.length:Nat) by omega)) (.inl ⟨_,_,rfl,rfl,_,rfl,?_⟩)
   by_cases h2:z.length<=8
   ·refine dw (by rw[decide_eq_true (show((z.length:Nat):Int)<=8 by omega)];rfl) ⟨_,rfl,_,rfl,?_⟩;dsimp only;refine iw z.cps.toList (λ c=>W.d (.str ⟨#[c]⟩)) (λ c=>.bool (eF c)) (λ τ=>∃ x,τ=[x]) (by rw[str_len];omega) ⟨_,rfl⟩ (λ c hc τ hτ R h=>?_) (λ τ=>?_)
    ·obtain⟨x,rfl⟩:=hτ;obtain⟨q1,q2⟩:=ahF c;have go:=h [some (.d (.str ⟨#[c]⟩))] ⟨_,rfl⟩;unfold eF at go;refine⟨_,rfl,.inr ⟨_,_,rfl,rfl,_,rfl,?_⟩⟩;refine eI (λ h0=>?_) (λ h0=>?_)
     ·rw[q1.symm.trans h0,Bool.true_and,<- q2] at go;exact .inr ⟨_,_,rfl,rfl,_,rfl,go⟩
     ·rw[q1.symm.trans h0,Bool.false_and] at go;exact⟨_,rfl,go⟩
    ·refine⟨z.cps.toList.map eF,by rw[List.map_map];rfl,?_⟩;have e:wd z=(z.cps.toList.map eF).all id:=by
      unfold wd;rw[decide_eq_true h1,decide_eq_true h2,List.all_map];rfl
     rw[e] at k';exact k'
   ·refine dr (by rw[decide_eq_false (show ¬ ((z.length:Nat):Int)<=8 by omega)];rfl) (no λ h=>h2 h.2)
  ·refine dw (decide_eq_false (show ¬ (1:Int)<=(z.length:Nat) by omega)) ?_;exact⟨_,rfl,dr rfl (no λ h=>h1 h.1)⟩
 ·exact dr rfl k
 ·exact dr rfl k
def pG(c:Cd)(d:PyData):Bool:=if c=.w then isW d else if c=.e then (match d with | .str y=>tX y | _=>false) else inB (cdL c) (cdH c) d
theorem abd(c:Cd):c ≠ .w->c ≠ .e->bY fE (cdF c)=some (.tuple [.int (cdL c),.int (cdH c)])/\cdF c ≠ "word" /\ cdF c ≠ "sort":= by intro h1 h2;cases c<;>first | exact absurd rfl h1 | exact absurd rfl h2 | exact⟨rfl,by decide +kernel,by decide +kernel⟩
def cW:SpD:=λ ws M Q=>∃ (c:Cd) (d:PyData),ws=[.d (.str (cdF c)),.d d]/\Fl d/\Q (.d (.bool (pG c d))) M
theorem sf:Ln cW 2:=by rintro ws M Q ⟨c,d,rfl,_⟩;rfl
theorem qR:Rd cW (qx bN bu) qy:=by
 rintro ws M Q ⟨c,d,rfl,hf,k⟩
 by_cases h1:c=.w
 ·subst h1;refine⟨_,rfl,_,_,.d,.d,rfl,_,rfl,?_⟩;rw[aR,decide_eq_true (show cdF .w = "word" from rfl)];exact dg ⟨_,rfl,d,rfl,hf,k⟩
 by_cases h2:c=.e
 ·subst h2;refine⟨_,rfl,_,_,.d,.d,rfl,_,rfl,?_⟩;rw[aR,decide_eq_false (show ¬ cdF .e = "word" by decide +kernel)];refine bR ⟨_,rfl,_,_,.d,.d,rfl,_,rfl,?_⟩;rw[aR,decide_eq_true (show cdF .e = "sort" from rfl)];refine dg ⟨_,rfl,_,_,_,rfl,.d,.str,_,rfl,?_⟩;rcases hf with ⟨y,rfl,ha,_⟩ | ⟨i,rfl⟩ | rfl
  ·refine dg ⟨_,rfl,_,sorts.map PyData.str,.d,.inr rfl,acU ha,?_⟩;rw[Bool.false_xor,acS];exact k
  ·exact bR k
  ·exact bR k
 ·obtain⟨g1,g2,g3⟩:=abd c h1 h2;refine⟨_,rfl,_,_,.d,.d,rfl,_,rfl,?_⟩;rw[aR,decide_eq_false g2];refine bR ⟨_,rfl,_,_,.d,.d,rfl,_,rfl,?_⟩;rw[aR,decide_eq_false g3];refine bR ⟨_,rfl,cdF c,_,rfl,g1,_,rfl,rfl,_,_,rfl,_,_,rfl,rfl,?_⟩;have e:pG c d=inB (cdL c) (cdH c) d:=by unfold pG;rw[if_neg h1,if_neg h2]
  rw[e] at k;exact⟨_,rfl,_,rfl,_,rfl,d,cdL c,cdH c,rfl,hf,k⟩
theorem iY{M:MH}{z:Str}{ds:List PyData}{j:Nat}{d:PyData}(h:((.str z:PyData)::ds)[j]? =some d):ixW M (.d (dd z ds)) (j:Int)=some (.d d):=by simp only[dd,ixW,sX h,Option.map_some]
theorem vY{M:MH}{z:Str}{ds:List PyData}:ixW M (.d (dd z ds)) 0=some (.d (.str z)):=iY (j:=0) rfl
def ahd(ds:List PyData)(d:PyData)(j:Nat):Bool:=decide (j<ds.length)&&PyData.eqv (ds.getD j .none) d&&(List.range j).all λ m=>!PyData.eqv (ds.getD m .none) d
theorem yR{ds:List PyData}{d:PyData}{j:Nat}(h:ahd ds d j=true):zT ds d j:=by
 simp only[ahd,Bool.and_eq_true,decide_eq_true_eq,List.all_eq_true,List.mem_range,Bool.not_eq_true'] at h;obtain⟨⟨h1,h2⟩,h3⟩:=h;refine⟨h1,λ y e=>?_,λ m y hm e=>?_⟩
 ·simpa [List.getD,e] using h2
 ·simpa [List.getD,e] using h3 m hm
def bW(x:Str×Str×List Cd):List PyData:=x.2.2.map λ c=>.str (cdF c)
def kC(x:Str×Str×List Cd):Nat:=x.2.2.idxOf .c
def kK(x:Str×Str×List Cd):Nat:=x.2.2.idxOf .k
theorem k_is:∀ x∈tabS,Cd.k∈x.2.2->ahd (bW x) (.str "copies") (kC x)=true/\ahd (bW x) (.str "keep") (kK x)=true/\x.2.2[kC x]? =some .c/\x.2.2[kK x]? =some .k/\kC x+1=kK x:=by decide +kernel
theorem ag1:∀ x∈tabS,∀ j<x.2.2.length,x.2.2[j]? =some .k->j=kK x:=by decide +kernel
theorem aiT:∀ x∈tabS,sU (.str "copies") (bW x)=true/\sU (.str "keep") (bW x)=true/\inA (.str "keep") (bW x)=decide (Cd.k∈x.2.2):=by decide +kernel
def leK(a i:Int):Bool:=decide (i<=if 0 > a-1 then 0 else a-1)
def cm:SpD:=λ ws M Q=>∃ x∈tabS,Cd.k∈x.2.2/\∃ (ds:List PyData) (a i:Int),ws=[.d (.tuple (bW x)),.d (dd x.1 ds)]/\ds[kC x]? =some (.int a)/\ds[kK x]? =some (.int i)/\Q (.d (.bool (leK a i))) M
theorem o8:Ln cm 2:=by rintro ws M Q ⟨x,_,_,ds,a,i,rfl,_⟩;rfl
theorem mB:Rd cm lQ lA:=by
 rintro ws M Q ⟨x,hx,hk,ds,a,i,rfl,ha,hi,k⟩;obtain⟨h1,h2,_⟩:=k_is x hx hk;obtain⟨o1,o2,_⟩:=aiT x hx;have e1:ixW M (.d (dd x.1 ds)) (((kC x:Nat):Int)+1)=some (.d (.int a)):=iY (j:=kC x+1) (by simpa using ha);have e2:ixW M (.d (dd x.1 ds)) (((kK x:Nat):Int)+1)=some (.d (.int i)):=iY (j:=kK x+1) (by simpa using hi);refine⟨_,rfl,_,rfl,_,rfl,_,_,rfl,o1,yR h1,.inl ⟨_,_,rfl,rfl,_,_,rfl,e1,rfl,?_⟩⟩;refine⟨_,rfl,_,rfl,_,rfl,_,_,rfl,o2,yR h2,.inl ⟨_,_,rfl,rfl,_,_,rfl,e2,rfl,?_⟩⟩;exact⟨_,rfl,_,rfl,_,_,rfl,rfl,_,_,rfl,.inl ⟨_,_,rfl,rfl,k⟩⟩
def oU(x:Str×Str×List Cd)(ds:List PyData):Bool:=match ds.getD (kC x) .none,ds.getD (kK x) .none with
 | .int a,.int i=>leK a i
 | _,_=>false
def pJ(x:Str×Str×List Cd)(ds:List PyData)(j:Nat):Bool:=pG (x.2.2.getD j .w) (ds.getD j .none)
def iS(x:Str×Str×List Cd)(ds:List PyData):Bool:=(List.range x.2.2.length).all (pJ x ds)&&(!decide (Cd.k∈x.2.2) || oU x ds)
def bG:SpD:=λ ws M Q=>∃ x∈tabS,∃ ds:List PyData,ws=[.d (dd x.1 ds)]/\ds.length=x.2.2.length/\(∀ d∈ds,Fl d)/\Q (.d (.bool (iS x ds))) M
theorem tL:Ln bG 1:=by rintro ws M Q ⟨x,_,ds,rfl,_⟩;rfl
theorem af2{n j:Nat}{f:Nat->Bool}(hj:j<n)(h:f j=false):(List.range n).all f=false:=by rw[List.all_eq_false];exact⟨j,List.mem_range.mpr hj,by simp[h]⟩
theorem uw{x:Str×Str×List Cd}{ds:List PyData}{j:Nat}{c:Cd}(hl:ds.length=x.2.2.length)(h:pJ x ds j=true)(hc:x.2.2[j]? =some c)(h1:c ≠ .w)(h2:c ≠ .e):∃ i:Int,ds[j]? =some (.int i):=by
 have hj:j<ds.length:=by rw[hl];exact(List.getElem?_eq_some_iff.mp hc).1
 have hd:ds[j]? =some ds[j]:=List.getElem?_eq_getElem hj;have e:pJ x ds j=inB (cdL c) (cdH c) ds[j]:=by simp only[pJ,List.getD,hc,hd,Option.getD_some];unfold pG;rw[if_neg h1,if_neg h2]
 rw[e] at h;rw[hd];cases hq:ds[j] with
 | int i=>exact⟨i,rfl⟩
 | _=>rw[hq] at h;cases h
theorem rm:Rd bG (rg cW cm) pU:=by
 rintro ws M Q ⟨x,hx,ds,rfl,hl,hfl,k⟩;have s16':=s16;obtain⟨n6,n1⟩:=jr x hx;refine⟨_,rfl,_,_,_,rfl,.d,.tuple,_,rfl,?_⟩;rw[show jR (dd x.1 ds) "tuple" = true from af0 _];refine bR ⟨_,rfl,_,.t,bR ?_⟩;refine⟨_,rfl,_,_,rfl,vY,rfl,_,_,_,rfl,.d,.str,_,rfl,?_⟩;rw[show jR (.str x.1) "str" = true from vI _];refine bR ⟨_,rfl,_,_,rfl,vY,rfl,x.1,rfl,?_⟩;rw[yx x hx];have hfm:(bW x).length=x.2.2.length:=by simp[bW]
 have z2:(!PyData.eqv (.int ((ds.length+1:Nat):Int)) (.int (((bW x).length:Int)+1)))=false:=by rw[fV,decide_eq_true (by omega)];rfl
 refine⟨_,rfl,rfl,_,rfl,bR ⟨_,rfl,_,_,rfl,rfl,rfl,_,rfl,_,_,rfl,rfl,rfl,.inl ⟨_,_,rfl,rfl,_,_,.d,.d,rfl,_,rfl,dw (c:=!PyData.eqv (.int ((ds.length+1:Nat):Int)) (.int (((bW x).length:Int)+1))) z2 ?_⟩⟩⟩;have hs:slW (.d (dd x.1 ds)) (some 1) none=some (.d (.tuple ds)):=by
  have e1:HT.sIx (ds.length+1) 0 (some 1)=1:=by
   simp only[HT.sIx]
   split<;>omega
  have e2:HT.sIx (ds.length+1) (ds.length+1) none=ds.length+1:=rfl;simp only[slW,dd,ng,D.cutD,List.length_cons,e1,e2];simp
 refine⟨_,rfl,_,rfl,_,rfl,_,hs,rfl,bW x,ds,rfl,?_⟩;refine⟨λ i τ M'=>M'=M/\(∀ j<i,pJ x ds j=true)/\∃ y1 y2,τ=[some (.d (dd x.1 ds)),some (.d (.tuple (bW x))),y1,y2],⟨rfl,λ j h=>by omega,_,_,rfl⟩,?_,?_⟩
 ·rintro i w τ M' hw ⟨rfl,hall,y1,y2,rfl⟩;obtain⟨j,hj,rfl⟩:=jN hw;obtain⟨hlt,hj2⟩:=List.getElem?_eq_some_iff.mp hj;rw[List.getElem_range] at hj2;subst hj2;have hi:i<x.2.2.length:=by simpa [hfm,hl] using hlt
  obtain⟨c,hc⟩:∃ c,x.2.2[i]? =some c:=⟨_,List.getElem?_eq_getElem hi⟩;obtain⟨d',hd'⟩:∃ d',ds[i]? =some d':=⟨_,List.getElem?_eq_getElem (by omega)⟩;have ef:(bW x).getD i .none=.str (cdF c):=by simp[bW,List.getD,hc]
  have ed:ds.getD i .none=d':=by simp[List.getD,hd']
  rw[ef,ed];have hpj:pJ x ds i=pG c d':=by simp only[pJ,List.getD,hc,hd',Option.getD_some]
  refine⟨_,rfl,rfl,_,_,rfl,_,_,rfl,rfl,_,rfl,_,rfl,c,d',rfl,hfl d' (List.mem_of_getElem? hd'),_,rfl,?_⟩;cases hb:pG c d' with
  | true =>
   refine bR ⟨rfl,λ j hj=>?_,_,_,rfl⟩
   by_cases hji:j=i
   ·rw[hji,hpj,hb]
   ·exact hall j (by omega)
  | false =>
   refine dg ?_;have:iS x ds=false:=by
    unfold iS;rw[af2 hi (by rw[hpj,hb])];rfl
   rw[this] at k;exact k
 ·rintro τ M' ⟨rfl,hall,y1,y2,rfl⟩;have hlen:(mi (bW x) ds).length=x.2.2.length:=by simp[mi,hfm,hl]
  rw[hlen] at hall;have hA:(List.range x.2.2.length).all (pJ x ds)=true:=by rw[List.all_eq_true];intro j hj;exact hall j (List.mem_range.mp hj)
  obtain⟨_,o2,o3⟩:=aiT x hx;refine⟨_,rfl,_,_,.d,.inr rfl,o2,_,rfl,?_⟩;rw[o3,Bool.true_xor];unfold iS at k;rw[hA,Bool.true_and] at k
  by_cases hk:Cd.k∈x.2.2
  ·rw[decide_eq_true hk] at k ⊢;obtain⟨_,_,c1,c2,_⟩:=k_is x hx hk;obtain⟨a,ea⟩:=uw hl (hall _ (List.getElem?_eq_some_iff.mp c1).1) c1 (by decide) (by decide);obtain⟨i,ei⟩:=uw hl (hall _ (List.getElem?_eq_some_iff.mp c2).1) c2 (by decide) (by decide);refine bR ⟨_,rfl,_,rfl,x,hx,hk,ds,a,i,rfl,ea,ei,?_⟩;have:oU x ds=leK a i:=by simp only[oU,List.getD,ea,ei,Option.getD_some]
   rw[this] at k;exact k
  ·rw[decide_eq_false hk] at k ⊢;exact dg k
def Vp(c:Cd)(d:PyData):Prop:=(c=.w/\∃ y:Str,d=.str y/\wd y=true)\/(c=.e/\∃ y:Str,d=.str y/\y∈sorts)\/(c ≠ .w/\c ≠ .e/\∃ i:Int,d=.int i/\cdL c<=i/\i<=cdH c)
theorem zt:∀ y∈sorts,y∈six:=by decide +kernel
theorem Vp.pt{c:Cd}{d:PyData}(h:Vp c d):Pt c d:=by
 rcases h with ⟨h,y,e,hy⟩ | ⟨h,y,e,hy⟩ | ⟨h1,h2,i,e,i0,i1⟩
 ·exact .inl ⟨h,y,e,hy⟩
 ·exact .inr (.inl ⟨h,y,e,zt y hy⟩)
 ·obtain⟨a,b,c'⟩:=wF c h1 h2;exact .inr (.inr ⟨h1,h2,i,e,by omega,by omega⟩)
def aij(a:Int):Int:=if 0 > a-1 then 0 else a-1
structure Vd(cs:List Cd)(ds:List PyData):Prop where
 part:∀ (j:Nat) c d,cs[j]? =some c->ds[j]? =some d->Vp c d
 keep:∀ j,cs[j]? =some .k->∀ i:Int,ds[j]? =some (.int i)->∃ a:Int,ds[j-1]? =some (.int a)/\i<=aij a
theorem Vd.pts{cs:List Cd}{ds:List PyData}(h:Vd cs ds):Pts cs ds:=λ j c d h1 h2=>(h.part j c d h1 h2).pt
theorem adX{α:Type}{ds:List α}{d d':α}{j:Nat}(h:(ds++[d])[j]? =some d'):(j<ds.length/\ds[j]? =some d')\/(j=ds.length/\d'=d):=by
 by_cases hj:j<ds.length
 ·rw[List.getElem?_append_left hj] at h;exact .inl ⟨hj,h⟩
 ·have hlt:=(List.getElem?_eq_some_iff.mp h).1;simp at hlt;have e:j=ds.length:=by omega
  subst e;simp at h;exact .inr ⟨rfl,h.symm⟩
def jX(i:Int):Str:=Str.ofString (toString i)
def dtx:PyData->Str
 | .str y=>y
 | .int i=>jX i
 | _ => ""
def txD(x:Str×Str×List Cd)(ds:List PyData):Str:=Txt.join " " (x.1::ds.map dtx)
theorem vP:∀ n<21,(jX ((n:Nat):Int)).length<=2/\1<=(jX ((n:Nat):Int)).length/\dU (jX ((n:Nat):Int))=true/\(32 ∉ (jX ((n:Nat):Int)).cps.toList):=by decide +kernel
theorem uy(c:Cd):cdH c<=20:=by cases c<;>decide
theorem uu:∀ y∈sorts,wd y=true:=by decide +kernel
theorem aau:∀ c,eF c=true->c≠32:=λ c h e=>by subst e;revert h;decide
theorem pf{z:Str}(h:wd z=true):32 ∉ z.cps.toList:=λ hm=>aau 32 (abP h 32 hm) rfl
theorem sJ{c:Cd}{d:PyData}(h:Vp c d):(dtx d).length<=8/\dU (dtx d)=true/\32 ∉ (dtx d).cps.toList:=by
 rcases h with ⟨_,y,rfl,hy⟩ | ⟨_,y,rfl,hy⟩ | ⟨h1,h2,i,rfl,i0,i1⟩
 ·exact⟨(fB hy).2,gz hy,pf hy⟩
 ·have hy:=uu y hy;exact⟨(fB hy).2,gz hy,pf hy⟩
 ·have c0:=(wF c h1 h2).1;have c1:=uy c;obtain⟨n,rfl⟩:=Int.eq_ofNat_of_zero_le (show 0<=i by omega);obtain⟨a,_,b,d'⟩:=vP n (by omega);exact⟨by show(jX (n:Int)).length<=8;omega,b,d'⟩
theorem pP{cs:List Cd}{ds:List PyData}(h:Vd cs ds)(hl:ds.length=cs.length){d:PyData}(hd:d∈ds):∃ c,Vp c d:=by obtain⟨j,hj,e⟩:=List.mem_iff_getElem.mp hd;exact⟨cs[j]'(by omega),h.part j _ d (List.getElem?_eq_getElem (by omega)) (by rw[<- e];exact List.getElem?_eq_getElem hj)⟩
theorem ai7:∀ (ys:List Str),(∀ y∈ys,y.length<=8)->(ys.map (·.length)).sum<=8 * ys.length
 | [],_=>by simp
 | y::ys,h=>by have h1:=h y (by simp);have h2:=ai7 ys λ z hz=>h z (by simp[hz]);simp only[List.map_cons,List.sum_cons,List.length_cons];omega
theorem yZ(z:Str)(ds:List PyData):slW (.d (dd z ds)) (some 1) none=some (.d (.tuple ds)):=by
 have e1:HT.sIx (ds.length+1) 0 (some 1)=1:=by
  simp only[HT.sIx]
  split<;>omega
 have e2:HT.sIx (ds.length+1) (ds.length+1) none=ds.length+1:=rfl;simp only[slW,dd,ng,D.cutD,List.length_cons,e1,e2];simp
theorem ag4{x:Str×Str×List Cd}{ds:List PyData}(hx:x∈tabS)(hl:ds.length<=x.2.2.length)(hv:Vd x.2.2 ds):(txD x ds).length<=100:=by
 obtain⟨n6,n1⟩:=jr x hx;have hw:=gX x hx;have h:=StrLaws.join_length_le " " (x.1::ds.map dtx);have e1:(" " : Str).length=1:=by decide +kernel
 have hs:=ai7 (x.1::ds.map dtx) λ y hy=>by
  rcases List.mem_cons.mp hy with rfl | hy
  ·exact(fB hw).2
  ·obtain⟨d,hd,rfl⟩:=List.mem_map.mp hy;obtain⟨j,hj,e⟩:=List.mem_iff_getElem.mp hd;exact(sJ (hv.part j (x.2.2[j]'(by omega)) d (List.getElem?_eq_getElem (by omega)) (by rw[<- e];exact List.getElem?_eq_getElem hj))).1
 have eg:txD x ds=Str.join " " (x.1::ds.map dtx):=StrLaws.glued_eq_join " " _;rw[eg];rw[e1] at h;simp only[List.length_cons,List.length_map] at h hs;omega
theorem apart{c:Nat}:∀ {a b r q:List Nat},c ∉ a->c ∉ b->a++c::r=b++c::q->a=b/\r=q
 | [],[],r,q,_,_,h=>⟨rfl,(List.cons.inj h).2⟩
 | [],y::b,r,q,_,hb,h=>absurd (by rw[(List.cons.inj h).1];simp) hb
 | x::a,[],r,q,ha,_,h=>absurd (by rw[<- (List.cons.inj h).1];simp) ha
 | x::a,y::b,r,q,ha,hb,h=>by obtain⟨e1,e2⟩:=List.cons.inj h;obtain⟨e3,e4⟩:=apart (λ z=>ha (by simp[z])) (λ z=>hb (by simp[z])) e2;exact⟨by rw[e1,e3],e4⟩
theorem s9{x y:Str}(h:x.cps.toList=y.cps.toList):x=y:=by
 cases x with
 | mk a =>
  cases y with
  | mk b=>exact congrArg Str.mk (Array.toList_inj.mp h)
theorem join_cons{c:Nat}(x y:Str)(r:List Str):(Str.join ⟨#[c]⟩ (x::y::r)).cps.toList=x.cps.toList++c::(Str.join ⟨#[c]⟩ (y::r)).cps.toList:=by show((x.cps ++ #[c])++(Str.join ⟨#[c]⟩ (y::r)).cps).toList=_;simp
theorem uJ{c:Nat}:∀ {l q:List Str},l≠[]->q≠[]->(∀ p∈l,c ∉ p.cps.toList)->(∀ p∈q,c ∉ p.cps.toList)->(Str.join ⟨#[c]⟩ l).cps.toList=(Str.join ⟨#[c]⟩ q).cps.toList->l=q
 | [],_,h,_,_,_,_=>absurd rfl h
 | _,[],_,h,_,_,_=>absurd rfl h
 | [x],[y],_,_,_,_,e=>by rw[s9 (x:=x) (y:=y) e]
 | [x],y::y2::r,_,_,h1,_,e=>by rw[join_cons] at e;exact absurd (by show c∈(Str.join ⟨#[c]⟩ [x]).cps.toList;rw[e];simp) (h1 x (by simp))
 | x::x2::r,[y],_,_,_,h2,e=>by rw[join_cons] at e;exact absurd (by show c∈(Str.join ⟨#[c]⟩ [y]).cps.toList;rw[<- e];simp) (h2 y (by simp))
 | x::x2::r,y::y2::r',_,_,h1,h2,e=>by rw[join_cons,join_cons] at e;obtain⟨e1,e2⟩:=apart (h1 x (by simp)) (h2 y (by simp)) e;rw[s9 e1,uJ (l:=x2::r) (q:=y2::r') (by simp) (by simp) (λ p hp=>h1 p (by simp[hp])) (λ p hp=>h2 p (by simp[hp])) e2]
theorem adB:∀ z∈six,z.length<=8:=by decide +kernel
theorem ahN{c:Cd}{d:PyData}(h:Pt c d):okD 1 d=true/\big d<=2000:=by
 rcases h with ⟨_,y,rfl,hy⟩ | ⟨_,y,rfl,hy⟩ | ⟨_,_,i,rfl,h0,h1⟩
 ·have:=(fB hy).2;exact⟨by simp only[okD];exact gz hy,by simp only[big];omega⟩
 ·have:=adB y hy;exact⟨by simp only[okD];exact ady y hy,by simp only[big];omega⟩
 ·exact⟨by simp only[okD]<;>(first | rfl | simp[small] | (simp only[decide_eq_true_eq];omega) | skip),by simp only[big];omega⟩
theorem aid{x:Str×Str×List Cd}{ds:List PyData}(hx:x∈tabS)(hl:ds.length=x.2.2.length)(hp:Pts x.2.2 ds):okD 2 (dd x.1 ds)=true/\big (dd x.1 ds)<=20000:=by
 obtain⟨n6,n1⟩:=jr x hx;have hw:=gX x hx;have h8:=(fB hw).2;have each:∀ d∈(.str x.1:PyData)::ds,okD 1 d=true/\big d<=2000:=by
  intro d hd;rcases List.mem_cons.mp hd with rfl | hd
  ·exact⟨by simp only[okD];exact gz hw,by simp only[big];omega⟩
  ·obtain⟨j,hj,e⟩:=List.mem_iff_getElem.mp hd;exact ahN (hp j (x.2.2[j]'(by omega)) d (List.getElem?_eq_getElem (by omega)) (by rw[<- e];exact List.getElem?_eq_getElem hj))
 refine⟨by simp only[dd,okD];exact ue λ d hd=>(each d hd).1,?_⟩;have:=su (c:=2000) λ d hd=>(each d hd).2;simp only[dd,big];simp only[List.length_cons] at this;omega
theorem agG{x:Str×Str×List Cd}{ds:List PyData}(hx:x∈tabS)(hl:ds.length=x.2.2.length)(hv:Vd x.2.2 ds):dU (txD x ds)=true:=by
 refine lC (oQ (kE (by decide +kernel)) λ y hy=>?_).1;rcases List.mem_cons.mp hy with rfl | hy
 ·exact cn (gz (gX x hx))
 ·obtain⟨d,hd,rfl⟩:=List.mem_map.mp hy;obtain⟨c,hc⟩:=pP hv hl hd;exact cn (sJ hc).2.1
theorem sR(z:Str):(!PyData.eqv (.str z) (.str z))=false:=by rw[aR,decide_eq_true rfl];rfl
theorem sQ{c:Nat}{l:List Str}(h0:l≠[])(h:∀ p∈l,c ∉ p.cps.toList):Txt.split (Txt.join ⟨#[c]⟩ l) ⟨#[c]⟩=l:=by
 refine uJ ?_ h0 (StrLaws.split_free _ c) h ?_
 ·intro e;have:=split_pos (Txt.join ⟨#[c]⟩ l) ⟨#[c]⟩;rw[e] at this;simp at this
 ·rw[StrLaws.join_split];show(Builtin.Str.glued ⟨#[c]⟩ l).cps.toList=_;rw[StrLaws.glued_eq_join]
theorem uk:(" " : Str)=⟨#[32]⟩:=by decide +kernel
theorem fw{l:List Str}(h0:l≠[])(h:∀ p∈l,32 ∉ p.cps.toList):Txt.split (Txt.join " " l) " " = l:=by rw[uk];exact sQ h0 h
theorem aaK{x:Str×Str×List Cd}{ds:List PyData}(hx:x∈tabS)(hl:ds.length=x.2.2.length)(hv:Vd x.2.2 ds):Txt.split (txD x ds) " " = x.1::ds.map dtx:=
 fw (by simp) λ p hp=>by
  rcases List.mem_cons.mp hp with rfl | hp
  ·exact pf (gX x hx)
  ·obtain⟨d,hd,rfl⟩:=List.mem_map.mp hp;obtain⟨c,hc⟩:=pP hv hl hd;exact(sJ hc).2.2
theorem kl{c:Nat}:∀ {l:List Str} {p:Str},p∈l->p.length<=(Str.join ⟨#[c]⟩ l).length/\∀ x∈p.cps.toList,x∈(Str.join ⟨#[c]⟩ l).cps.toList
 | [],p,h=>nomatch h
 | [y],p,h=>by rw[List.mem_singleton.mp h];exact⟨Nat.le_refl _,λ x hx=>hx⟩
 | y::y2::r,p,h=>by
  have e:=join_cons (c:=c) y y2 r;have el:(Str.join ⟨#[c]⟩ (y::y2::r)).length=y.length+1+(Str.join ⟨#[c]⟩ (y2::r)).length:=by rw[<- str_len,e,<- str_len y,<- str_len (Str.join _ (y2::r))];simp;omega
  rcases List.mem_cons.mp h with rfl | h
  ·exact⟨by omega,λ x hx=>by rw[e];simp[hx]⟩
  ·obtain⟨h1,h2⟩:=kl (c:=c) h;exact⟨by omega,λ x hx=>by rw[e];simp[h2 x hx]⟩
theorem part_of{z p:Str}{c:Nat}(h:p∈Txt.split z ⟨#[c]⟩):p.length<=z.length/\(dU z=true->dU p=true):=by obtain⟨h1,h2⟩:=kl (c:=c) h;rw[StrLaws.join_split] at h1 h2;exact⟨h1,λ ha=>lC λ x hx=>cn ha x (h2 x hx)⟩
def rY(c:Nat):Bool:=decide (48<=c)&&decide (c<=57)
theorem abW:∀ c<128,inS ⟨#[c]⟩ "0123456789" = rY c:=by decide +kernel
def fm(y:Str):Bool:=decide ((⟨#[y.cps.toList.headD 0]⟩:Str) = "0")&&!decide (y = "0")
def dX(y:Str):Bool:=decide (1<=y.length)&&(decide (y.length<=10)&&(y.cps.toList.all rY&&!fm y))
def rn(y:Str):PyData:=if dX y=true then .int ((NumText.digitsVal y.cps.toList:Nat):Int) else .none
theorem kI{cs:List Nat}(h:cs.all rY=true):NumText.AllDigits cs:=λ c hc=>by
 have:=List.all_eq_true.mp h c hc
 simpa [rY] using this
def aV:SpD:=λ ws M Q=>∃ y:Str,ws=[.d (.str y)]/\dU y=true/\y.length<=100000/\Q (.d (rn y)) M
theorem mh:Ln aV 1:=by rintro ws M Q ⟨y,rfl,_⟩;rfl
theorem jZ:Rd aV iP iW:=by
 rintro ws M Q ⟨y,rfl,ha,hl,k⟩;have s16':=s16;have hfit:tK (.d (.str y))=true:=decide_eq_true (by omega);have no:dX y=false->Q (.d .none) M:=λ h=>by
  unfold rn at k;rw[h] at k;exact k
 refine⟨_,rfl,_,_,rfl,rfl,hfit,.inl ⟨_,_,rfl,rfl,_,rfl,?_⟩⟩
 by_cases h1:1<=y.length
 ·refine dr (decide_eq_true (show(1:Int)<=(y.length:Nat) by omega)) (.inl ⟨_,_,rfl,rfl,_,rfl,?_⟩)
  by_cases h2:y.length<=10
  ·refine dw (by rw[decide_eq_true (show((y.length:Nat):Int)<=10 by omega)];rfl) ⟨_,rfl,_,rfl,?_⟩;dsimp only;refine iw y.cps.toList (λ c=>W.d (.str ⟨#[c]⟩)) (λ c=>.bool (rY c)) (λ τ=>∃ x,τ=[x]) (by rw[str_len];omega) ⟨_,rfl⟩ (λ c hc τ hτ R h=>?_) (λ τ=>?_)
   ·obtain⟨x,rfl⟩:=hτ;have go:=h [some (.d (.str ⟨#[c]⟩))] ⟨_,rfl⟩;rw[<- abW c (cn ha c hc)] at go;exact⟨_,rfl,_,_,rfl,rfl,_,rfl,go⟩
   ·refine⟨y.cps.toList.map rY,by rw[List.map_map];rfl,_,rfl,?_⟩;have eA:(y.cps.toList.map rY).all id=y.cps.toList.all rY:=by rw[List.all_map];rfl
    rw[eA];cases hA:y.cps.toList.all rY with
    | false =>
     refine dg (no ?_);unfold dX;rw[hA];simp
    | true =>
     refine bR ?_;obtain⟨c,r,ec⟩:∃ c r,y.cps.toList=c::r:=by
      cases hq:y.cps.toList with
      | nil =>
       have:=str_len y;rw[hq] at this;simp at this;omega
      | cons c r=>exact⟨c,r,rfl⟩
     have e0:ixW M (.d (.str y)) 0=some (.d (.str ⟨#[c]⟩)):=by show(atI y.cps.toList ((0:Nat):Int)).map (λ c=>W.d (.str ⟨#[c]⟩))=_;rw[sX (v:=c) (by rw[ec];rfl)];rfl
     have eh:y.cps.toList.headD 0=c:=by rw[ec];rfl
     refine⟨_,rfl,_,_,rfl,e0,hfit,_,_,.d,.d,rfl,_,rfl,?_⟩;rw[aR];have last:fm y=false->hZ [W.d (PyData.str y)] M Q:=λ hn=>by
      have hf:dX y=true:=by
       unfold dX;rw[hA,hn,decide_eq_true h1,decide_eq_true h2];rfl
      unfold rn at k;rw[if_pos hf] at k;exact⟨_,_,rfl,PySem.intText_digits (kI hA) (by rw[ec];simp) (by omega),by omega,k⟩
     have bad:fm y=true->Q (.d .none) M:=λ hn=>no (by unfold dX;rw[hn];simp);unfold fm at last bad;rw[eh] at last bad;refine eI (λ h=>?_) (λ h=>?_)
     ·refine⟨_,rfl,_,_,.d,.d,rfl,_,rfl,?_⟩;rw[aR];rw[h,Bool.true_and] at last bad;exact eI (λ h=>bad h) (λ h=>⟨_,rfl,last h⟩)
     ·rw[h,Bool.false_and] at last;exact bR ⟨_,rfl,last rfl⟩
  ·refine dr (by rw[decide_eq_false (show ¬ ((y.length:Nat):Int)<=10 by omega)];rfl) (no ?_);unfold dX;rw[decide_eq_false h2];simp
 ·refine dw (decide_eq_false (show ¬ (1:Int)<=(y.length:Nat) by omega)) ?_;refine⟨_,rfl,dr rfl (no ?_)⟩;unfold dX;rw[decide_eq_false h1];simp
theorem adD:∀ n<21,dX (jX ((n:Nat):Int))=true/\NumText.digitsVal (jX ((n:Nat):Int)).cps.toList=n:=by decide +kernel
theorem afB{n:Nat}(h:n<21):rn (jX (n:Int))=.int (n:Int):=by obtain⟨h1,h2⟩:=adD n h;unfold rn;rw[if_pos h1,h2]
theorem acL{y:Str}{i:Int}(h:rn y=.int i):y=jX i:=by
 unfold rn at h
 split at h
 ·rename_i hf
  injection h with h
  subst h;unfold dX at hf;simp only[Bool.and_eq_true,decide_eq_true_eq,Bool.not_eq_true'] at hf;obtain⟨h1,h2,h3,h4⟩:=hf;have hd:=kI h3;refine s9 ?_;unfold jX;rw[W.KIN.signs_num];obtain⟨n,en⟩:∃ n,y.cps.toList.length=n+1:=⟨y.length-1,by rw[str_len];omega⟩;rw[NumText.toDigits_digitsVal n _ en hd ?_,List.map_map]
  ·refine(List.map_id _).symm.trans (List.map_congr_left λ c hc=>?_);have:=hd c hc;have q:∀ c<58,(Char.ofNat c).toNat=c:=by decide
   exact(q c (by omega)).symm
  ·cases hq:y.cps.toList with
   | nil=>rw[hq] at en;simp at en
   | cons c r =>
    have hc:=hd c (by rw[hq];simp)
    by_cases e:c=48
    ·unfold fm at h4;rw[hq] at h4;have e0:("0" : Str)=⟨#[48]⟩:=by decide +kernel
     have ey:y = "0":= by
      subst e;have:decide ((⟨#[(48::r).headD 0]⟩:Str) = "0")=true:=decide_eq_true (by rw[e0];rfl);rw[this,Bool.true_and] at h4
      simpa using h4
     rw[ey] at en;have:("0" : Str).cps.toList.length=1:=by decide +kernel
     exact .inl (by omega)
    ·exact .inr ⟨c,r,rfl,by omega⟩
 ·cases h
theorem xS(c:Cd):(bY fE (cdF c)).isSome=(decide (c ≠ .w)&&decide (c ≠ .e)):=by cases c<;>decide +kernel
def rp(c:Cd)(y:Str):PyData:=if (decide (c ≠ .w)&&decide (c ≠ .e))=true then rn y else .str y
def ck:SpD:=λ ws M Q=>∃ (c:Cd) (y:Str),ws=[.d (.str (cdF c)),.d (.str y)]/\dU y=true/\y.length<=100000/\Q (.d (rp c y)) M
theorem nZ:Ln ck 2:=by rintro ws M Q ⟨c,d,rfl,_⟩;rfl
theorem mG:Rd ck (me aV) lV:=by
 rintro ws M Q ⟨c,y,rfl,ha,hl,k⟩;refine⟨_,rfl,_,rfl,_,rfl,?_⟩;rw[xS c];unfold rp at k;refine eI (λ h=>?_) (λ h=>?_)
 ·rw[h,if_pos rfl] at k;exact⟨_,rfl,y,rfl,ha,hl,k⟩
 ·rw[h,if_neg Bool.false_ne_true] at k;exact⟨_,rfl,k⟩
theorem agi(y:Str):Fl (rn y):=by
 unfold rn
 split
 ·exact .inr (.inl ⟨_,rfl⟩)
 ·exact .inr (.inr rfl)
theorem ahT{c:Cd}{y:Str}(ha:dU y=true)(hl:y.length<=100000):Fl (rp c y):=by
 unfold rp
 split
 ·exact agi y
 ·exact .inl ⟨y,rfl,ha,hl⟩
def vU(y:Str):Option (Str×Str×List Cd):=tabS.find? λ x=>decide (x.1=y)
theorem xP:gw=tabS.map λ x=>(x.1,.tuple (bW x)):=rfl
theorem zP(y:Str):bY gw y=(vU y).map λ x=>.tuple (bW x):=by rw[xP];unfold bY vU;rw[List.find?_map,Option.map_map];rfl
theorem iZ{y:Str}{x:Str×Str×List Cd}(h:vU y=some x):x∈tabS/\x.1=y:=by
 unfold vU at h;have h2:=List.find?_some h;exact⟨List.mem_of_find?_eq_some h,of_decide_eq_true h2⟩
theorem xt:∀ x∈tabS,vU x.1=some x:=by decide +kernel
def rps(cs:List Cd)(ys:List Str):List PyData:=List.zipWith rp cs ys
theorem abu{cs:List Cd}{ys:List Str}{j:Nat}{d:PyData}(h:(rps cs ys)[j]? =some d):∃ c y,cs[j]? =some c/\ys[j]? =some y/\d=rp c y:=by
 unfold rps at h;rw[List.getElem?_zipWith] at h
 split at h
 ·rename_i c y e1 e2
  exact⟨c,y,e1,e2,(Option.some.inj h).symm⟩
 ·cases h
theorem kG{cs:List Cd}{ys:List Str}{j:Nat}{c:Cd}{y:Str}(h1:cs[j]? =some c)(h2:ys[j]? =some y):(rps cs ys)[j]? =some (rp c y):=by
 unfold rps;rw[List.getElem?_zipWith,h1,h2]
def res(z:Str):Option PyData:=match Txt.split z " " with
 | []=>none
 | y0::ys=>match vU y0 with
  | none=>none
  | some x=>if ys.length=x.2.2.length/\iS x (rps x.2.2 ys)=true then some (dd x.1 (rps x.2.2 ys)) else none
theorem dA(z:Str):∃ y0 ys,Txt.split z " " = y0::ys:=by
 have:=split_pos z " ";cases h:Txt.split z " " with
 | nil=>rw[h] at this;simp at this
 | cons y0 ys=>exact⟨y0,ys,rfl⟩
def cf:SpX:=λ ws M Q E=>∃ d0:PyData,ws=[.d d0]/\(jR d0 "str" = false->∀ a,M a=none->E a (dR M a (.exc aD [])))/\(jR d0 "str" = true->∃ z:Str,d0=.str z/\dU z=true/\z.length<=50000/\(∀ d,res z=some d->Q (.d d) M)/\(res z=none->∀ a,M a=none->E a (dR M a (.exc aD []))))
theorem nU:LnX cf 1:=by rintro ws M Q E ⟨d0,rfl,_⟩;rfl
theorem gM{α:Type}(z:α)(ys:List α):D.cutD (z::ys) (some 1) none=ys/\D.cutD (z::ys) none (some 1)=[z]:=by
 have e1:HT.sIx (ys.length+1) 0 (some 1)=1:=by
  simp only[HT.sIx]
  split<;>omega
 have e2:HT.sIx (ys.length+1) (ys.length+1) none=ys.length+1:=rfl;have e3:HT.sIx (ys.length+1) (ys.length+1) (some 1)=1:=by
  simp only[HT.sIx]
  split<;>omega
 have e4:HT.sIx (ys.length+1) 0 none=0:=rfl;constructor
 ·simp only[D.cutD,List.length_cons,e1,e2];simp
 ·simp only[D.cutD,List.length_cons,e3,e4];simp
theorem my:RdX cf (λ Ex=>lK Ex ck bG) k7:=by
 rintro ws M Q E ⟨d0,rfl,hodd,hstr⟩;have s16':=s16;refine⟨_,rfl,_,_,_,rfl,.d,.str,_,rfl,?_⟩;cases hty:jR d0 "str" with
 | false=>exact dg ⟨by simp,hodd hty⟩
 | true =>
 obtain⟨z,rfl,ha,hzl,ky,kn⟩:=hstr hty;refine bR ⟨_,rfl,z,rfl, " ",rfl,by decide +kernel,by omega,?_⟩;obtain⟨y0,ys,es⟩:=dA z;have hpart:∀ p∈y0::ys,p.length<=z.length/\dU p=true:=λ p hp=>by have:=part_of (z:=z) (p:=p) (c:=32) (by rw[<- uk,es];exact hp);exact⟨this.1,this.2 ha⟩
 rw[es];have hp0:ixW M (.d (.list ((y0::ys).map PyData.str))) 0=some (.d (.str y0)):=uA (i:=0) (f:=PyData.str) rfl rfl;refine⟨_,rfl,_,_,rfl,hp0,rfl,y0,rfl,?_⟩;rw[zP];cases ht:vU y0 with
 | none =>
  refine⟨_,rfl,rfl,_,rfl,dg (dg ⟨by simp,kn ?_⟩)⟩;unfold res;rw[es];simp only[ht]
 | some x =>
  obtain⟨hx,ey⟩:=iZ ht;obtain⟨n6,n1⟩:=jr x hx;have eres:res z=if ys.length=x.2.2.length/\iS x (rps x.2.2 ys)=true then some (dd x.1 (rps x.2.2 ys)) else none:=by
   unfold res;rw[es];simp only[ht]
  have hfl:(bW x).length=x.2.2.length:=by simp[bW]
  have hpl:((y0::ys).map PyData.str).length=ys.length+1:=by simp
  refine⟨_,rfl,rfl,_,rfl,bR ⟨_,rfl,_,_,rfl,rfl,rfl,_,rfl,_,_,rfl,rfl,rfl,.inl ⟨_,_,rfl,rfl,_,_,.d,.d,rfl,_,rfl,?_⟩⟩⟩
  by_cases hn:ys.length=x.2.2.length
  ·have z2:(!PyData.eqv (.int (((y0::ys).map PyData.str).length:Int)) (.int (((bW x).length:Int)+1)))=false:=by rw[fV,decide_eq_true (by omega)];rfl
   refine dw (c:=!PyData.eqv (.int (((y0::ys).map PyData.str).length:Int)) (.int (((bW x).length:Int)+1))) z2 ?_;have hc1:slW (.d (.list ((y0::ys).map PyData.str))) none (some 1)=some (.d (.list [.str y0])):=by simp only[slW,List.map_cons,(gM _ _).2]
   have hc2:slW (.d (.list ((y0::ys).map PyData.str))) (some 1) none=some (.d (.list (ys.map PyData.str))):=by simp only[slW,List.map_cons,(gM _ _).1]
   refine⟨_,rfl,_,rfl,_,hc1,rfl,_,rfl,_,rfl,_,rfl,_,hc2,rfl,bW x,ys.map PyData.str,rfl,?_⟩;dsimp only;have hrl:(rps x.2.2 ys).length=ys.length:=by simp[rps,hn]
   have hzl2:(mi (bW x) (ys.map PyData.str)).length=(rps x.2.2 ys).length:=by simp[mi,rps,hfl,hn]
   refine⟨λ i acc τ M'=>M'=M/\acc=(rps x.2.2 ys).take i/\∃ y1 y2,τ=[y1,y2],⟨rfl,rfl,_,_,rfl⟩,?_,?_⟩
   ·rintro i w acc τ M' hw ⟨rfl,rfl,y1,y2,rfl⟩;obtain⟨j,hj,rfl⟩:=jN hw;obtain⟨hlt,hj2⟩:=List.getElem?_eq_some_iff.mp hj;rw[List.getElem_range] at hj2;subst hj2;have hi:i<x.2.2.length:=by simpa [hfl,hn] using hlt
    obtain⟨c,hc⟩:∃ c,x.2.2[i]? =some c:=⟨_,List.getElem?_eq_getElem hi⟩;obtain⟨y,hy⟩:∃ y,ys[i]? =some y:=⟨_,List.getElem?_eq_getElem (by omega)⟩;have ef:(bW x).getD i .none=.str (cdF c):=by simp[bW,List.getD,hc]
    have ed:(ys.map PyData.str).getD i .none=.str y:=by simp[List.getD,hy]
    rw[ef,ed];obtain⟨p1,p2⟩:=hpart y (List.mem_cons_of_mem _ (List.mem_of_getElem? hy));refine⟨by rw[List.length_take];omega,_,rfl,rfl,_,_,rfl,_,_,rfl,rfl,_,rfl,_,rfl,c,y,rfl,p2,by omega,_,rfl,rfl,?_,_,_,rfl⟩;rw[List.take_succ,kG hc hy];rfl
   ·rintro acc τ M' ⟨rfl,rfl,y1,y2,rfl⟩;rw[hzl2,List.take_length];refine⟨[.str y0],rps x.2.2 ys,.d,.d,by simp;omega,_,_,rfl,.l,?_⟩;rw[<- ey];refine⟨_,rfl,x,hx,rps x.2.2 ys,rfl,by omega,λ d hd=>?_,_,rfl,?_⟩
    ·obtain⟨j,hj,e⟩:=List.mem_iff_getElem.mp hd;obtain⟨c,y,_,hy,rfl⟩:=abu (d:=d) (by rw[<- e];exact List.getElem?_eq_getElem hj);obtain⟨p1,p2⟩:=hpart y (List.mem_cons_of_mem _ (List.mem_of_getElem? hy));exact ahT p2 (by omega)
    ·cases hG:iS x (rps x.2.2 ys) with
     | true =>
      refine bR ⟨_,rfl,ky _ ?_⟩;rw[eres,if_pos ⟨hn,hG⟩];rfl
     | false =>
      refine dg ⟨by simp,kn ?_⟩;rw[eres,if_neg λ h=>by rw[hG] at h;exact absurd h.2 Bool.false_ne_true]
  ·have z2:(!PyData.eqv (.int (((y0::ys).map PyData.str).length:Int)) (.int (((bW x).length:Int)+1)))=true:=by rw[fV,decide_eq_false (by omega)];rfl
   refine dr (c:=!PyData.eqv (.int (((y0::ys).map PyData.str).length:Int)) (.int (((bW x).length:Int)+1))) z2 ⟨by simp,kn ?_⟩;rw[eres,if_neg λ h=>hn h.1]
theorem qM{x:Str×Str×List Cd}{ds:List PyData}(hx:x∈tabS)(hl:ds.length=x.2.2.length)(hv:Vd x.2.2 ds):iS x ds=true:=by
 unfold iS;simp only[Bool.and_eq_true,List.all_eq_true,List.mem_range,Bool.or_eq_true,Bool.not_eq_true',decide_eq_false_iff_not];have hp:∀ j<x.2.2.length,pJ x ds j=true:=by
  intro j hj;have hc:x.2.2[j]? =some x.2.2[j]:=List.getElem?_eq_getElem hj;have hd:ds[j]? =some (ds[j]'(by omega)):=List.getElem?_eq_getElem (by omega);have hp:=hv.part j _ _ hc hd;have e:pJ x ds j=pG x.2.2[j] (ds[j]'(by omega)):=by simp only[pJ,List.getD,hc,hd,Option.getD_some]
  rw[e];rcases hp with ⟨h,z,ez,hz⟩ | ⟨h,z,ez,hz⟩ | ⟨h1,h2,v,ev,v0,v1⟩
  ·rw[h,ez];exact hz
  ·rw[h,ez]
   simpa [pG,tX] using hz
  ·rw[ev];simp only[pG,if_neg h1,if_neg h2];simp[inB,btw,v0,v1]
 refine⟨hp,?_⟩
 by_cases hk:Cd.k∈x.2.2
 ·obtain⟨_,_,c1,c2,c3⟩:=k_is x hx hk;obtain⟨i,ei⟩:=uw hl (hp _ (List.getElem?_eq_some_iff.mp c2).1) c2 (by decide) (by decide);obtain⟨a,ea,hi⟩:=hv.keep (kK x) c2 i ei;have ec:kK x-1=kC x:=by omega
  rw[ec] at ea;refine .inr ?_;have ek:oU x ds=leK a i:=by simp only[oU,List.getD,ea,ei,Option.getD_some]
  rw[ek];exact decide_eq_true hi
 ·exact .inl hk
theorem ahM{c:Cd}{d:PyData}(h:Vp c d):rp c (dtx d)=d:=by
 rcases h with ⟨rfl,z,rfl,hz⟩ | ⟨rfl,z,rfl,hz⟩ | ⟨h1,h2,v,rfl,v0,v1⟩
 ·rfl
 ·rfl
 ·unfold rp;rw[decide_eq_true h1,decide_eq_true h2,Bool.and_self,if_pos rfl];have c0:=(wF c h1 h2).1;have c1:=uy c;obtain⟨n,rfl⟩:=Int.eq_ofNat_of_zero_le (show 0<=v by omega);exact afB (by omega)
theorem agu{cs:List Cd}{ds:List PyData}(hl:ds.length=cs.length)(hv:Vd cs ds):rps cs (ds.map dtx)=ds:=by
 refine List.ext_getElem? λ j=>?_
 by_cases hj:j<ds.length
 ·have hd:ds[j]? =some ds[j]:=List.getElem?_eq_getElem hj;have hc:cs[j]? =some (cs[j]'(by omega)):=List.getElem?_eq_getElem (by omega);rw[kG (y:=dtx ds[j]) hc (by rw[List.getElem?_map,hd];rfl),ahM (hv.part j _ _ hc hd),hd]
 ·rw[List.getElem?_eq_none (by simp[rps];omega),List.getElem?_eq_none (by omega)]
theorem ae1{x:Str×Str×List Cd}{ds:List PyData}(hx:x∈tabS)(hl:ds.length=x.2.2.length)(hv:Vd x.2.2 ds):res (txD x ds)=some (dd x.1 ds):=by
 unfold res;rw[aaK hx hl hv];simp only[xt x hx,agu hl hv];rw[if_pos ⟨by rw[List.length_map];exact hl,qM hx hl hv⟩]
theorem ac1{c:Cd}{y:Str}(h:pG c (rp c y)=true):Vp c (rp c y)/\dtx (rp c y)=y:=by
 by_cases h1:c=.w
 ·subst h1;exact⟨.inl ⟨rfl,y,rfl,h⟩,rfl⟩
 by_cases h2:c=.e
 ·subst h2;exact⟨.inr (.inl ⟨rfl,y,rfl,of_decide_eq_true h⟩),rfl⟩
 have e:rp c y=rn y:=by
  unfold rp;rw[decide_eq_true h1,decide_eq_true h2,Bool.and_self,if_pos rfl]
 rw[e] at h ⊢;unfold pG at h;rw[if_neg h1,if_neg h2] at h;cases hq:rn y with
 | int i =>
  rw[hq] at h;simp only[inB,btw,Bool.and_eq_true,decide_eq_true_eq] at h;exact⟨.inr (.inr ⟨h1,h2,i,rfl,h.1,h.2⟩),(acL hq).symm⟩
 | _=>rw[hq] at h;cases h
theorem aaH{z:Str}{d:PyData}(h:res z=some d):∃ x∈tabS,∃ ds:List PyData,d=dd x.1 ds/\ds.length=x.2.2.length/\Vd x.2.2 ds/\z=txD x ds:=by
 obtain⟨y0,ys,es⟩:=dA z;unfold res at h;rw[es] at h;simp only at h;cases ht:vU y0 with
 | none=>rw[ht] at h;cases h
 | some x =>
  rw[ht] at h;simp only at h;obtain⟨hx,ey⟩:=iZ ht
  split at h
  ·rename_i hh
   obtain⟨hn,hG⟩:=hh
   injection h with h
   have hrl:(rps x.2.2 ys).length=x.2.2.length:=by simp[rps,hn]
   have hG':=hG;unfold iS at hG';simp only[Bool.and_eq_true,List.all_eq_true,List.mem_range,Bool.or_eq_true,Bool.not_eq_true',decide_eq_false_iff_not] at hG';obtain⟨hall,hkeep⟩:=hG';have each:∀ (j:Nat) c y,x.2.2[j]? =some c->ys[j]? =some y->Vp c (rp c y)/\dtx (rp c y)=y:=λ j c y hc hy=>by
    have hp:=hall j (List.getElem?_eq_some_iff.mp hc).1;refine ac1 ?_;have e:pJ x (rps x.2.2 ys) j=pG c (rp c y):=by simp only[pJ,List.getD,hc,kG hc hy,Option.getD_some]
    rw[<- e];exact hp
   have hv:Vd x.2.2 (rps x.2.2 ys):=by
    refine⟨λ j c d' hc hd=>?_,λ j hj i hi=>?_⟩
    ·obtain⟨c',y,hc',hy,rfl⟩:=abu hd;rw[hc] at hc';cases hc';exact(each j c y hc hy).1
    ·have hk:Cd.k∈x.2.2:=List.mem_of_getElem? hj;obtain⟨_,_,c1,c2,c3⟩:=k_is x hx hk;have ej:j=kK x:=ag1 x hx j (List.getElem?_eq_some_iff.mp hj).1 hj;obtain⟨a,ea⟩:=uw (by omega) (hall _ (List.getElem?_eq_some_iff.mp c1).1) c1 (by decide) (by decide);have ec:j-1=kC x:=by omega
     refine⟨a,by rw[ec];exact ea,?_⟩;rcases hkeep with hk' | hk'
     ·exact absurd hk hk'
     ·rw[ej] at hi;have ek:oU x (rps x.2.2 ys)=leK a i:=by simp only[oU,List.getD,ea,hi,Option.getD_some]
      rw[ek] at hk';exact of_decide_eq_true hk'
   refine⟨x,hx,rps x.2.2 ys,h.symm,hrl,hv,?_⟩;have ed:(rps x.2.2 ys).map dtx=ys:=by
    refine List.ext_getElem? λ j=>?_
    by_cases hj:j<ys.length
    ·have hy:ys[j]? =some ys[j]:=List.getElem?_eq_getElem hj;have hc:x.2.2[j]? =some (x.2.2[j]'(by omega)):=List.getElem?_eq_getElem (by omega);rw[List.getElem?_map,kG hc hy,hy];exact congrArg some (each j _ _ hc hy).2
    ·rw[List.getElem?_eq_none (by simp[rps];omega),List.getElem?_eq_none (by omega)]
   have ej:=StrLaws.join_split z " ";rw[es,<- ey] at ej;unfold txD;rw[ed];show z=Builtin.Str.glued " " (x.1::ys);rw[StrLaws.glued_eq_join,ej]
  ·cases h
theorem uN(s sub:Str)(hi m:Nat):∀ (l:List Nat) (st:Array Nat×Nat),m<=st.fst.size->(forIn l st (StrLaws.occBody s sub hi m)).run.fst=st.fst
 | [],st,_=>rfl
 | a::l,st,h=>by rw[List.forIn_cons];unfold StrLaws.occBody;rw[if_neg λ c=>absurd c.1.1.1 (by omega)];exact uN s sub hi m l _ h
theorem sP(s sub:Str)(hi K:Nat):∀ (l:List Nat) (st:Array Nat×Nat),∃ r,(forIn l st (StrLaws.occBody s sub hi K)).run.fst.toList=st.fst.toList++r
 | [],st=>⟨[],(List.append_nil _).symm⟩
 | a::l,st=>by
  rw[List.forIn_cons];unfold StrLaws.occBody
  split
  ·obtain⟨r,e⟩:=sP s sub hi K l (st.fst.push a,a+sub.length);exact⟨a::r,e.trans (by simp)⟩
  ·exact sP s sub hi K l _
theorem sm(s sub:Str)(hi K m:Nat):∀ (l:List Nat) (st:Array Nat×Nat),st.fst.size<=m->st.fst.size+l.length<=K->(forIn l st (StrLaws.occBody s sub hi m)).run.fst.toList=((forIn l st (StrLaws.occBody s sub hi K)).run.fst.toList).take m
 | [],st,h,_=>(List.take_of_length_le (by simpa using h)).symm
 | a::l,st,h,hK=>by
  by_cases hm:st.fst.size=m
  ·rw[uN s sub hi m _ st (by omega)];obtain⟨r,e⟩:=sP s sub hi K (a::l) st;rw[e,List.take_append_of_le_length (by simp[hm]),List.take_of_length_le (by simp[hm])]
  ·simp only[List.length_cons] at hK;rw[List.forIn_cons,List.forIn_cons]
   by_cases hc:(st.snd<=a/\a+sub.length<=hi)/\Builtin.Str.subAt s sub a=true
   ·have e:∀ n,st.fst.size<n->StrLaws.occBody s sub hi n a st=pure (ForInStep.yield (st.fst.push a,a+sub.length)):=λ n hn=>by
     unfold StrLaws.occBody;exact if_pos ⟨⟨⟨hn,hc.1.1⟩,hc.1.2⟩,hc.2⟩
    rw[e m (by omega),e K (by omega)];exact sm s sub hi K m l (st.fst.push a,a+sub.length) (by simp;omega) (by simp;omega)
   ·have e:∀ n,StrLaws.occBody s sub hi n a st=pure (ForInStep.yield (st.fst,st.snd)):=λ n=>by
     unfold StrLaws.occBody;exact if_neg λ c=>hc ⟨⟨c.1.1.2,c.1.2⟩,c.2⟩
    rw[e m,e K];exact sm s sub hi K m l (st.fst,st.snd) h (by show st.fst.size+l.length<=K;omega)
theorem oG(x y:Str)(m:Nat):Builtin.Str.occurrences x y 0 x.length m=(Builtin.Str.occurrences x y 0 x.length (x.length+1)).take m:=by rw[StrLaws.occ_eq,StrLaws.occ_eq];exact sm x y x.length (x.length+1) m _ _ (Nat.zero_le _) (by simp)
def jh(y:Str)(n:Nat)(ws:List Str):List Str:=if n<ws.length then ws.take n++[Str.join y (ws.drop n)] else ws
theorem pK(x y:Str):∀ (m:Nat) (cuts:List Nat) (a f:Nat),StrLaws.ChainTo x y x.length a cuts f->StrLaws.partsFrom x y.length a (cuts.take m)=jh y m (StrLaws.partsFrom x y.length a cuts)
 | 0,cuts,a,f,h=>by obtain⟨p,r,e⟩:=StrLaws.partsFrom_ne x y.length a cuts;have hj:=StrLaws.join_partsFrom x y cuts a f h;unfold jh;rw[if_pos (by rw[e];simp),List.take_zero,List.drop_zero,hj];rfl
 | m+1,[],a,f,h=>by
  unfold jh;rw[if_neg (by show ¬ m+1<1;omega)];rfl
 | m+1,c::r,a,f,h=>by
  have ih:=pK x y m r (c+y.length) f h.2.2;show Builtin.Str.strSub x a c::StrLaws.partsFrom x y.length (c+y.length) (r.take m)=jh y (m+1) (Builtin.Str.strSub x a c::StrLaws.partsFrom x y.length (c+y.length) r);rw[ih];unfold jh;simp only[List.length_cons,Nat.add_lt_add_iff_right,List.take_succ_cons,List.drop_succ_cons]
  split<;>rfl
theorem uB(y x:Str)(n:Nat):jh y n [x]=[x]:=by
 unfold jh
 split
 ·rename_i h
  have e:n=0:=by simp at h;omega
  subst e;rfl
 ·rfl
theorem pC(x:Str)(c n:Nat):Txt.splitMax x ⟨#[c]⟩ (n:Int)=jh ⟨#[c]⟩ n (Txt.split x ⟨#[c]⟩):=by
 have hlim:limitOf x (n:Int)=n:=by unfold limitOf;rw[if_neg (by omega)];simp
 have hs:=StrLaws.join_split x ⟨#[c]⟩;unfold Txt.splitMax;rw[hlim]
 by_cases h1:(decide (x.length<(⟨#[c]⟩:Str).length) || decide (Builtin.Str.strKind x<Builtin.Str.strKind ⟨#[c]⟩))=true
 ·have e:Txt.split x ⟨#[c]⟩=[x]:=by unfold Txt.split;rw[if_pos h1]
  rw[if_pos h1,e,uB]
 ·rw[if_neg h1]
  by_cases h2:(Builtin.Str.occurrences x ⟨#[c]⟩ 0 x.length (x.length+1)).isEmpty=true
  ·have e:Txt.split x ⟨#[c]⟩=[x]:=by unfold Txt.split;rw[if_neg h1,if_pos h2]
   rw[e,uB,oG,List.isEmpty_iff.mp h2,List.take_nil];rfl
  ·have e:Txt.split x ⟨#[c]⟩=StrLaws.partsFrom x (⟨#[c]⟩:Str).length 0 (Builtin.Str.occurrences x ⟨#[c]⟩ 0 x.length (x.length+1)):=by unfold Txt.split;rw[if_neg h1,if_neg h2,StrLaws.partsBetween_eq]
   obtain⟨f,hf⟩:=StrLaws.occ_chain x ⟨#[c]⟩ (x.length+1);have key:=pK x ⟨#[c]⟩ n _ 0 f hf;rw[<- e] at key;rw[oG]
   by_cases h3:((Builtin.Str.occurrences x ⟨#[c]⟩ 0 x.length (x.length+1)).take n).isEmpty=true
   ·rw[if_pos h3,<- key,List.isEmpty_iff.mp h3];show [x]=[Builtin.Str.strSub x 0 x.length];rw[StrLaws.sub_whole]
   ·rw[if_neg h3,StrLaws.partsBetween_eq,key]
theorem vn(x:Str)(y0:Str)(ys:List Str)(h:Txt.split x " " = y0::ys):∃ r,part3 x " " = y0::r:=by
 unfold part3;rw[oG];rw[uk] at h ⊢;have hk:Builtin.Str.strKind (⟨#[32]⟩:Str)=1:=by decide +kernel
 have hk2:1<=Builtin.Str.strKind x:=by unfold Builtin.Str.strKind;split;omega;split<;>omega
 unfold Txt.split at h;cases hq:Builtin.Str.occurrences x ⟨#[32]⟩ 0 x.length (x.length+1) with
 | nil =>
  rw[hq] at h;have e:y0=x:=by
   split at h
   ·exact(List.cons.inj h).1.symm
   ·rw[if_pos (show([]:List Nat).isEmpty=true from rfl)] at h;exact(List.cons.inj h).1.symm
  exact⟨_,by rw[e];rfl⟩
 | cons i r =>
  rw[hq] at h;have hi:=StrLaws.occ_spec x ⟨#[32]⟩ 0 x.length (x.length+1) i (by rw[hq];simp);have h1:(⟨#[32]⟩:Str).length=1:=rfl;rw[if_neg (by rw[hk,h1];have:=hi.1;rw[h1] at this;simp;omega),if_neg (by simp),StrLaws.partsBetween_eq] at h;exact⟨_,by rw[<- (List.cons.inj h).1];rfl⟩
theorem zG:∀ d<10,(Nat.digitChar d).toNat=48+d:=by decide
theorem aaV(m:Nat):1<=m->∃ c r,(Nat.toDigits 10 m).map Char.toNat=c::r/\49<=c:=by
 induction m using Nat.strongRecOn with
 | _ m ih =>
  intro h0
  by_cases h:m<10
  ·rw[Nat.toDigits_of_lt_base h];exact⟨_,[],rfl,by rw[zG m h];omega⟩
  ·have hm:m % 10<10:=Nat.mod_lt m (by decide);have t:Nat.toDigits 10 (m / 10)++Nat.toDigits 10 (m % 10)=Nat.toDigits 10 (10 * (m / 10)+m % 10):=Nat.toDigits_append_toDigits (by decide) (by omega) hm;rw[Nat.div_add_mod] at t;obtain⟨c,r,e,hc⟩:=ih (m / 10) (by omega) (by omega);rw[<- t,List.map_append,e];exact⟨c,_,rfl,hc⟩
theorem qE{m:Nat}(h:m<10 ^ 10):dX (jX (m:Int))=true/\NumText.digitsVal (jX (m:Int)).cps.toList=m/\(jX (m:Int)).length<=10/\(∀ c∈(jX (m:Int)).cps.toList,48<=c/\c<=57):=by
 have es:(jX (m:Int)).cps.toList=(Nat.toDigits 10 m).map Char.toNat:=W.KIN.signs_num m;have hl:(jX (m:Int)).length=(Nat.toDigits 10 m).length:=by rw[<- str_len,es,List.length_map]
 have l1:=toDigits_len_pow (b:=10) (k:=10) (by decide) (by decide) h;have l0:=toDigits_len_ge 10 m;have hd:∀ c∈(jX (m:Int)).cps.toList,48<=c/\c<=57:=λ c hc=>by rw[es] at hc;obtain⟨ch,hch,e⟩:=List.mem_map.mp hc;have r:=digit_range (Nat.isDigit_of_mem_toDigits (by decide) (by decide) hch);rw[<- e];exact r
 refine⟨?_,by rw[es];exact W.KIN.val_back m,by omega,hd⟩;unfold dX;have hall:(jX (m:Int)).cps.toList.all rY=true:=List.all_eq_true.mpr λ c hc=>by have:=hd c hc;simp[rY,this]
 have hn:fm (jX (m:Int))=false:=by
  unfold fm
  by_cases h0:m=0
  ·subst h0
   decide +kernel
  ·obtain⟨c,r,e,hc⟩:=aaV m (by omega);rw[es,e];have:¬ (⟨#[(c::r).headD 0]⟩:Str) = "0":= λ q=>by
    have e0:("0" : Str)=⟨#[48]⟩:=by decide +kernel
    rw[e0] at q;have q2:#[c] = #[48]:=congrArg Str.cps q;simp at q2;omega
   rw[decide_eq_false this];rfl
 rw[hall,hn,decide_eq_true (show 1<=(jX (m:Int)).length by omega),decide_eq_true (show(jX (m:Int)).length<=10 by omega)];rfl
theorem acQ{i:Int}(h0:0<=i)(h1:i<=1000000000):rn (jX i)=.int i:=by obtain⟨m,rfl⟩:=Int.eq_ofNat_of_zero_le h0;obtain⟨a,b,_⟩:=qE (m:=m) (by have:(10:Nat) ^ 10=10000000000:=(by decide);omega);unfold rn;rw[if_pos a,b]
def tx:PyData->Str
 | .tuple ps=>Txt.join " " (ps.map dtx)
 | _ => ""
def Gd(d:PyData):Prop:=∃ x∈tabS,∃ ds:List PyData,d=dd x.1 ds/\ds.length=x.2.2.length/\Vd x.2.2 ds
theorem Gd.len{d:PyData}(h:Gd d):(tx d).length<=100:=by obtain⟨x,hx,ds,rfl,hl,hv⟩:=h;exact ag4 hx (by omega) hv
theorem Gd.asc{d:PyData}(h:Gd d):dU (tx d)=true:=by obtain⟨x,hx,ds,rfl,hl,hv⟩:=h;exact agG hx hl hv
theorem Gd.res{d:PyData}(h:Gd d):res (tx d)=some d:=by obtain⟨x,hx,ds,rfl,hl,hv⟩:=h;exact ae1 hx hl hv
theorem Gd.back{d:PyData}{z:Str}(h:_root_.K40.res z=some d):Gd d/\z=tx d:=by obtain⟨x,hx,ds,rfl,hl,hv,e⟩:=aaH h;exact⟨⟨x,hx,ds,rfl,hl,hv⟩,e⟩
theorem yP(x y:Str):(x++y).cps.toList=x.cps.toList++y.cps.toList:=by show(x.cps++y.cps).toList=_;simp
theorem tO(x y:Str):(x++y).length=x.length+y.length:=by rw[<- str_len,yP,List.length_append,str_len,str_len]
inductive So | w | e | y | n (lo hi:Int)
deriving DecidableEq
def soD:So->PyData
 | .w=>.str "w" | .e=>.str "e" | .y=>.str "y" | .n lo hi=>.tuple [.int lo,.int hi]
def rS:So->Str->Option PyData
 | .w,y=>if wd y=true then some (.str y) else none
 | .e,y=>if tX y=true then some (.str y) else none
 | .y,y=>bY bT y
 | .n lo hi,y=>if inB lo hi (rn y)=true then some (rn y) else none
section
variable {α β:Type}{r:α->Str->Option PyData}
def dP(r:α->Str->Option PyData):List α->List Str->Option (List PyData)
 | [],[]=>some []
 | a::as,y::ys=>(r a y).bind λ d=>(dP r as ys).map (d::·)
 | _,_=>none
theorem fL:∀ {fs:List α} {ys:List Str},fs.length≠ys.length->dP r fs ys=none
 | [],[],h=>absurd rfl h
 | [],_::_,_=>rfl
 | _::_,[],_=>rfl
 | f::fs,y::ys,h=>by have ih:=fL (fs:=fs) (ys:=ys) λ e=>h (by simp[e]);simp[dP,ih]
theorem eK:∀ {fs:List α} {ys:List Str} {j:Nat} {f:α} {y:Str},fs[j]? =some f->ys[j]? =some y->r f y=none->dP r fs ys=none
 | [],_,j,_,_,h,_,_=>by simp at h
 | _::_,[],j,_,_,_,h,_=>by simp at h
 | f::fs,y::ys,0,_,_,h1,h2,h=>by simp at h1 h2;subst h1 h2;simp[dP,h]
 | f::fs,y::ys,j+1,_,_,h1,h2,h=>by have ih:=eK (fs:=fs) (ys:=ys) (j:=j) (by simpa using h1) (by simpa using h2) h;simp[dP,ih]
theorem rG{f:α}{y:Str}{d:PyData}(h:r f y=some d):∀ {fs:List α} {ys:List Str} {ds:List PyData},dP r fs ys=some ds->dP r (fs++[f]) (ys++[y])=some (ds++[d])
 | [],[],ds,e=>by simp[dP] at e;subst e;simp[dP,h]
 | [],_::_,_,e=>by simp[dP] at e
 | _::_,[],_,e=>by simp[dP] at e
 | f'::fs,y'::ys,ds,e=>by
  simp only[dP] at e;cases h1:r f' y' with
  | none=>rw[h1] at e;simp at e
  | some d' =>
   cases h2:dP r fs ys with
   | none=>rw[h1,h2] at e;simp at e
   | some ds' =>
    rw[h1,h2] at e;simp at e;subst e;have ih:=rG h h2;simp[dP,h1,ih]
theorem kN{g:α->Str->PyData}:∀ {fs:List α} {ys:List Str},fs.length=ys.length->(∀ (j:Nat) f y,fs[j]? =some f->ys[j]? =some y->r f y=some (g f y))->dP r fs ys=some (List.zipWith g fs ys)
 | [],[],_,_=>rfl
 | [],_::_,h,_=>by simp at h
 | _::_,[],h,_=>by simp at h
 | f::fs,y::ys,h,k=>by have ih:=kN (fs:=fs) (ys:=ys) (by simpa using h) λ j f y h1 h2=>k (j+1) f y (by simpa using h1) (by simpa using h2);simp[dP,ih,k 0 f y rfl rfl]
theorem tM:∀ {fs:List α} {ys:List Str} {ds:List PyData},dP r fs ys=some ds->fs.length=ys.length/\ds.length=fs.length/\∀ (j:Nat) f y d,fs[j]? =some f->ys[j]? =some y->ds[j]? =some d->r f y=some d
 | [],[],ds,e=>by simp[dP] at e;subst e;exact⟨rfl,rfl,λ j f y d h=>by simp at h⟩
 | [],_::_,_,e=>by simp[dP] at e
 | _::_,[],_,e=>by simp[dP] at e
 | f'::fs,y'::ys,ds,e=>by
  simp only[dP] at e;cases h1:r f' y' with
  | none=>rw[h1] at e;simp at e
  | some d' =>
   cases h2:dP r fs ys with
   | none=>rw[h1,h2] at e;simp at e
   | some ds' =>
    rw[h1,h2] at e;simp at e;subst e;obtain⟨a,b,c⟩:=tM h2;refine⟨by simp[a],by simp[b],λ j f y d q1 q2 q3=>?_⟩;cases j with
    | zero =>
     simp at q1 q2 q3;subst q1 q2 q3;exact h1
    | succ j=>exact c j f y d (by simpa using q1) (by simpa using q2) (by simpa using q3)
theorem km{h:β->α}:∀ {fs:List β} {ys:List Str},dP r (fs.map h) ys=dP (λ b=>r (h b)) fs ys
 | [],[]=>rfl
 | [],_::_=>rfl
 | _::_,[]=>rfl
 | f::fs,y::ys=>by simp only[List.map_cons,dP];rw[km]
end
inductive Hf | machine | late | yes | number | word | many | letters | deed
deriving DecidableEq
def hfS:Hf->Str
 | .machine => "machine" | .late => "late" | .yes => "yes" | .number => "number" | .word => "word" | .many => "many" | .letters => "letters" | .deed => "deed"
def hfR:Hf->Option (Int×Int)
 | .late=>some (0,2) | .number=>some (0,1000000000) | .many=>some (1,40) | _=>none
def prB(c:Nat):Bool:=decide (32<=c)&&decide (c<=126)
def ju(y:Str):Bool:=decide (y.length<=12)&&y.cps.toList.all prB
def aje:PyData->Bool
 | .str y=>ju y
 | _=>false
def isB:PyData->Bool
 | .bool _=>true
 | _=>false
def rH(f:Hf)(y:Str):Option PyData:=match hfR f with
 | some p=>rS (.n p.1 p.2) y
 | none=>if f=.yes then rS .y y else if f=.deed then res y else if f=.letters then (if ju y=true then some (.str y) else none) else rS .w y
def rf(f:Hf)(y:Str):Option PyData:=match hfR f with
 | some _=>some (rn y)
 | none=>if f=.yes then some ((bY bT y).getD .none) else if f=.deed then res y else some (.str y)
def vt(f:Hf)(d:PyData):Bool:=match hfR f with
 | some p=>inB p.1 p.2 d
 | none=>if f=.yes then isB d else if f=.deed then true else if f=.letters then aje d else isW d
def Fh(f:Hf)(d:PyData):Prop:=(hfR f≠none/\Fl d)\/(hfR f=none/\f=.yes/\((∃ b,d=.bool b)\/d=.none))\/(hfR f=none/\f ≠ .yes/\f=.deed/\Gd d)\/(hfR f=none/\f ≠ .yes/\f ≠ .deed/\∃ y:Str,d=.str y/\dU y=true/\y.length<=100000)
theorem abH(y:Str):bY bT y=none\/∃ b,bY bT y=some (.bool b):=by
 unfold bY;cases h:bT.find? λ p=>decide (p.1=y) with
 | none=>exact .inl rfl
 | some p =>
  have hm:=List.mem_of_find?_eq_some h;simp only[bT,List.mem_cons,List.not_mem_nil,or_false] at hm;rcases hm with rfl | rfl
  ·exact .inr ⟨true,rfl⟩
  ·exact .inr ⟨false,rfl⟩
theorem afw{f:Hf}{y:Str}{d:PyData}(h:rf f y=some d)(ha:dU y=true)(hl:y.length<=100000):Fh f d/\rH f y=if vt f d=true then some d else none:=by
 unfold rf at h;unfold rH vt Fh;cases hq:hfR f with
 | some p =>
  rw[hq] at h
  injection h with h
  subst h;exact⟨.inl ⟨by simp,agi y⟩,rfl⟩
 | none =>
  rw[hq] at h;simp only at h ⊢
  by_cases h1:f=.yes
  ·rw[if_pos h1] at h ⊢
   injection h with h
   subst h;rw[if_pos h1];rcases abH y with e | ⟨b,e⟩
   ·refine⟨.inr (.inl ⟨trivial,h1,.inr (by rw[e];rfl)⟩),?_⟩;show bY bT y=_;rw[e];rfl
   ·refine⟨.inr (.inl ⟨trivial,h1,.inl ⟨b,by rw[e];rfl⟩⟩),?_⟩;show bY bT y=_;rw[e];rfl
  ·rw[if_neg h1] at h ⊢;rw[if_neg h1]
   by_cases h2:f=.deed
   ·rw[if_pos h2] at h ⊢;rw[if_pos h2,if_pos rfl];exact⟨.inr (.inr (.inl ⟨trivial,h1,h2,(Gd.back h).1⟩)),h⟩
   ·rw[if_neg h2] at h ⊢;rw[if_neg h2]
    injection h with h
    subst h;refine⟨.inr (.inr (.inr ⟨trivial,h1,h2,y,rfl,ha,hl⟩)),?_⟩
    by_cases h3:f=.letters
    ·rw[if_pos h3,if_pos h3];rfl
    ·rw[if_neg h3,if_neg h3];rfl
theorem adk{f:Hf}{y:Str}(h:rf f y=none):rH f y=none:=by
 unfold rf at h;unfold rH;cases hq:hfR f with
 | some p=>rw[hq] at h;cases h
 | none =>
  rw[hq] at h;simp only at h ⊢
  by_cases h1:f=.yes
  ·rw[if_pos h1] at h;cases h
  ·rw[if_neg h1] at h ⊢
   by_cases h2:f=.deed
   ·rw[if_pos h2] at h ⊢;exact h
   ·rw[if_neg h2] at h;cases h
def qG:List (Str×List Hf):=[("rise",[.machine]),("fall",[.machine]),("cut",[.machine]),("join",[.machine]),("late",[.machine,.late]),("twice",[.machine,.yes]),("fail",[.number]),("ask",[.word,.word,.many]),("write",[.word,.letters]),("deed",[.deed]),("down",[]),("up",[]),("again",[])]
def df(z:Str):Option (List Hf):=(qG.find? λ x=>decide (x.1=z)).map (·.2)
def du(fs:List Hf):List PyData:=fs.map λ f=>.str (hfS f)
theorem xy:fk=qG.map λ x=>(x.1,.tuple (du x.2)):=rfl
theorem zr(z:Str):bY fk z=(df z).map λ fs=>.tuple (du fs):=by rw[xy];unfold bY df;rw[List.find?_map,Option.map_map,Option.map_map];rfl
theorem jG{z:Str}{fs:List Hf}(h:df z=some fs):(z,fs)∈qG:=by
 unfold df at h;cases hq:qG.find? λ x=>decide (x.1=z) with
 | none=>rw[hq] at h;cases h
 | some x =>
  rw[hq] at h
  injection h with h
  have h2:=List.find?_some hq;have h3:=List.mem_of_find?_eq_some hq;have e:x.1=z:=of_decide_eq_true h2;subst e h;exact h3
theorem mW:∀ x∈qG,df x.1=some x.2:=by decide +kernel
theorem d6:∀ x∈qG,wd x.1=true/\x.2.length<=3:=by decide +kernel
theorem u9{z:Str}{fs:List Hf}(h:df z=some fs):wd z=true/\fs.length<=3:=d6 _ (jG h)
def uV(n:Nat)(ys:List Str):List Str:=match n with
 | 0=>ys
 | m+1=>jh " " m ys
def ip(y0:Str)(ys:List Str):Option PyData:=(df y0).bind λ fs=>(dP rH fs (uV fs.length ys)).map λ ds=>dd y0 ds
def ph(z:Str):Option PyData:=match Txt.split z " " with
 | []=>none
 | y0::ys=>ip y0 ys
theorem l6{z y0:Str}{ys:List Str}(h:Txt.split z " " = y0::ys):ph z=ip y0 ys:=by
 unfold ph;rw[h]
theorem rE(f:Hf):(bY fe (hfS f)).isSome=(hfR f).isSome:=by cases f<;>decide +kernel
theorem zI{f:Hf}{p:Int×Int}(h:hfR f=some p):bY fe (hfS f)=some (.tuple [.int p.1,.int p.2]):=by
 cases f<;>first | (cases h;rfl) | cases h
theorem ahs(f:Hf):decide (hfS f = "yes")=decide (f=.yes)/\decide (hfS f = "deed")=decide (f=.deed)/\decide (hfS f = "letters")=decide (f=.letters):=by cases f<;>decide +kernel
theorem agv(c:Nat):(!decide ((⟨#[c]⟩:Str).cps.toList<(" " : Str).cps.toList))=decide (32<=c)/\(!decide (("~" : Str).cps.toList<(⟨#[c]⟩:Str).cps.toList))=decide (c<=126):=by
 have ea:(" " : Str).cps.toList=[32]:=by decide +kernel
 have ez:("~" : Str).cps.toList=[126]:=by decide +kernel
 have ec:(⟨#[c]⟩:Str).cps.toList=[c]:=rfl;rw[ea,ez,ec,lt1,lt1];constructor
 ·by_cases h:c<32
  ·rw[decide_eq_true h,decide_eq_false (by omega)];rfl
  ·rw[decide_eq_false h,decide_eq_true (by omega)];rfl
 ·by_cases h:126<c
  ·rw[decide_eq_true h,decide_eq_false (by omega)];rfl
  ·rw[decide_eq_false h,decide_eq_true (by omega)];rfl
def bE:SpD:=λ ws M Q=>∃ z:Str,ws=[.d (.str z)]/\z.length<=100000/\Q (.d (.bool (ju z))) M
theorem lu:Ln bE 1:=by rintro ws M Q ⟨z,rfl,_⟩;rfl
theorem jY:Rd bE iX i8:=by
 rintro ws M Q ⟨z,rfl,hl,k⟩;have s16':=s16;have hfit:tK (.d (.str z))=true:=decide_eq_true (by omega);refine⟨_,rfl,_,_,_,rfl,.d,.str,_,rfl,dw (by rw[vI];rfl) ⟨_,rfl,_,_,rfl,rfl,hfit,_,_,rfl,rfl,_,rfl,?_⟩⟩
 by_cases h2:z.length<=12
 ·refine dw (decide_eq_false (show ¬ ((z.length:Nat):Int) > 12 by omega)) ⟨_,rfl,_,rfl,?_⟩;dsimp only;refine iw z.cps.toList (λ c=>W.d (.str ⟨#[c]⟩)) (λ c=>.bool (prB c)) (λ τ=>∃ x,τ=[x]) (by rw[str_len];omega) ⟨_,rfl⟩ (λ c hc τ hτ R h=>?_) (λ τ=>?_)
  ·obtain⟨x,rfl⟩:=hτ;obtain⟨q1,q2⟩:=agv c;have go:=h [some (.d (.str ⟨#[c]⟩))] ⟨_,rfl⟩;unfold prB at go;refine⟨_,rfl,.inr ⟨_,_,rfl,rfl,_,rfl,?_⟩⟩;refine eI (λ h0=>?_) (λ h0=>?_)
   ·rw[q1.symm.trans h0,Bool.true_and,<- q2] at go;exact .inr ⟨_,_,rfl,rfl,_,rfl,go⟩
   ·rw[q1.symm.trans h0,Bool.false_and] at go;exact⟨_,rfl,go⟩
  ·refine⟨z.cps.toList.map prB,by rw[List.map_map];rfl,?_⟩;have e:ju z=(z.cps.toList.map prB).all id:=by
    unfold ju;rw[decide_eq_true h2,List.all_map];rfl
   rw[e] at k;exact k
 ·refine dr (decide_eq_true (show((z.length:Nat):Int) > 12 by omega)) ?_;have e:ju z=false:=by
   unfold ju;rw[decide_eq_false h2];rfl
  rw[e] at k;exact k
def gA:SpD:=λ ws M Q=>∃ (f:Hf) (d:PyData),ws=[.d (.str (hfS f)),.d d]/\Fh f d/\Q (.d (.bool (vt f d))) M
theorem aas:Ln gA 2:=by rintro ws M Q ⟨f,d,rfl,_⟩;rfl
theorem aiB{cs:List Cd}{ds:List PyData}(h:Vd cs ds)(hl:ds.length=cs.length){d:PyData}(hd:d∈ds):Fl d:=by
 obtain⟨c,hc⟩:=pP h hl hd;have hv:=hc;rcases hc with ⟨_,y,rfl,hy⟩ | ⟨_,y,rfl,hy⟩ | ⟨_,_,i,rfl,_⟩
 ·obtain⟨a,b,_⟩:=sJ hv;have a':y.length<=8:=a;exact .inl ⟨y,rfl,b,by omega⟩
 ·obtain⟨a,b,_⟩:=sJ hv;have a':y.length<=8:=a;exact .inl ⟨y,rfl,b,by omega⟩
 ·exact .inr (.inl ⟨i,rfl⟩)
theorem wk:Rd gA (abn bu bG bE bN) abJ:=by
 rintro ws M Q ⟨f,d,rfl,hF,k⟩;obtain⟨q1,q2,q3⟩:=ahs f;refine⟨_,rfl,_,rfl,_,rfl,?_⟩;rw[rE f];unfold vt at k;rcases hF with ⟨hR,hf⟩ | ⟨hR,h1,hb⟩ | ⟨hR,h1,h2,g⟩ | ⟨hR,h1,h2,y,rfl,ha,hl⟩
 ·obtain⟨p,hp⟩:=Option.ne_none_iff_exists'.mp hR;rw[hp] at k ⊢;refine dg ⟨_,rfl,hfS f,_,rfl,zI hp,_,rfl,rfl,_,_,rfl,_,_,rfl,rfl,?_⟩;exact⟨_,rfl,_,rfl,_,rfl,d,p.1,p.2,rfl,hf,k⟩
 ·rw[hR] at k ⊢;refine bR ⟨_,rfl,_,_,.d,.d,rfl,_,rfl,?_⟩;rw[aR,q1,decide_eq_true h1];simp only[if_pos h1] at k;refine dg ⟨_,rfl,_,_,_,rfl,.d,.bool,?_⟩;rcases hb with ⟨b,rfl⟩ | rfl
  ·exact k
  ·exact k
 ·rw[hR] at k ⊢;refine bR ⟨_,rfl,_,_,.d,.d,rfl,_,rfl,?_⟩;rw[aR,q1,decide_eq_false h1];refine bR ⟨_,rfl,_,_,.d,.d,rfl,_,rfl,?_⟩;rw[aR,q2,decide_eq_true h2];simp only[if_neg h1,if_pos h2] at k;obtain⟨x,hx,ds,rfl,hl,hv⟩:=g;refine dg ⟨_,rfl,x,hx,ds,rfl,hl,λ d hd=>aiB hv hl hd,?_⟩;rw[qM hx hl hv];exact k
 ·rw[hR] at k ⊢;refine bR ⟨_,rfl,_,_,.d,.d,rfl,_,rfl,?_⟩;rw[aR,q1,decide_eq_false h1];refine bR ⟨_,rfl,_,_,.d,.d,rfl,_,rfl,?_⟩;rw[aR,q2,decide_eq_false h2];refine bR ⟨_,rfl,_,_,.d,.d,rfl,_,rfl,?_⟩;rw[aR,q3];simp only[if_neg h1,if_neg h2] at k
  by_cases h3:f=.letters
  ·rw[decide_eq_true h3];rw[if_pos h3] at k;exact dg ⟨_,rfl,y,rfl,hl,k⟩
  ·rw[decide_eq_false h3];rw[if_neg h3] at k;exact bR ⟨_,rfl,_,rfl,.inl ⟨y,rfl,ha,hl⟩,k⟩
def aew(z:Str)(ds:List PyData):Bool:=match df z with
 | none=>false
 | some fs=>decide (ds.length=fs.length)&&(List.zipWith vt fs ds).all id
def bx:SpD:=λ ws M Q=>∃ (z:Str) (ds:List PyData),ws=[.d (dd z ds)]/\ds.length<=3/\(∀ fs,df z=some fs->∀ (j:Nat) f d,fs[j]? =some f->ds[j]? =some d->Fh f d)/\Q (.d (.bool (aew z ds))) M
theorem j6:Ln bx 1:=by rintro ws M Q ⟨z,ds,rfl,_⟩;rfl
theorem jJ:Rd bx (hU gA) hW:=by
 rintro ws M Q ⟨z,ds,rfl,hd3,hF,k⟩;have s16':=s16;refine⟨_,rfl,_,_,_,rfl,.d,.tuple,_,rfl,?_⟩;rw[show jR (dd z ds) "tuple" = true from af0 _];refine bR ⟨_,rfl,_,.t,bR ?_⟩;refine⟨_,rfl,_,_,rfl,vY,rfl,_,_,_,rfl,.d,.str,_,rfl,?_⟩;rw[show jR (.str z) "str" = true from vI _];refine bR ⟨_,rfl,_,_,rfl,vY,rfl,z,rfl,?_⟩;rw[zr];unfold aew at k;cases ht:df z with
 | none =>
  rw[ht] at k;exact⟨_,rfl,rfl,_,rfl,dg (dg k)⟩
 | some fs =>
  rw[ht] at k;simp only at k;have hfm:(du fs).length=fs.length:=by simp[du]
  refine⟨_,rfl,rfl,_,rfl,bR ⟨_,rfl,_,_,rfl,rfl,rfl,_,rfl,_,_,rfl,rfl,rfl,.inl ⟨_,_,rfl,rfl,_,_,.d,.d,rfl,_,rfl,?_⟩⟩⟩
  by_cases hn:ds.length=fs.length
  ·have z2:(!PyData.eqv (.int ((ds.length+1:Nat):Int)) (.int (((du fs).length:Int)+1)))=false:=by rw[fV,decide_eq_true (by omega)];rfl
   refine dw (c:=!PyData.eqv (.int ((ds.length+1:Nat):Int)) (.int (((du fs).length:Int)+1))) z2 ?_;rw[decide_eq_true hn,Bool.true_and] at k;refine⟨_,rfl,_,rfl,_,rfl,_,yZ z ds,rfl,du fs,ds,rfl,?_⟩;dsimp only;have hzl:(mi (du fs) ds).length=(List.zipWith vt fs ds).length:=by simp[mi,hfm]
   refine⟨λ i acc τ M'=>M'=M/\acc=((List.zipWith vt fs ds).take i).map PyData.bool/\∃ y1 y2,τ=[y1,y2],⟨rfl,rfl,_,_,rfl⟩,?_,?_⟩
   ·rintro i w acc τ M' hw ⟨rfl,rfl,y1,y2,rfl⟩;obtain⟨j,hj,rfl⟩:=jN hw;obtain⟨hlt,hj2⟩:=List.getElem?_eq_some_iff.mp hj;rw[List.getElem_range] at hj2;subst hj2;have hi:i<fs.length:=by simpa [hfm,hn] using hlt
    obtain⟨f,hf⟩:∃ f,fs[i]? =some f:=⟨_,List.getElem?_eq_getElem hi⟩;obtain⟨d,hd⟩:∃ d,ds[i]? =some d:=⟨_,List.getElem?_eq_getElem (by omega)⟩;have ef:(du fs).getD i .none=.str (hfS f):=by simp[du,List.getD,hf]
    have ed:ds.getD i .none=d:=by simp[List.getD,hd]
    rw[ef,ed];refine⟨by rw[List.length_map,List.length_take];omega,_,rfl,rfl,_,_,rfl,_,_,rfl,rfl,_,rfl,_,rfl,f,d,rfl,hF fs ht i f d hf hd,_,rfl,rfl,?_,_,_,rfl⟩;rw[List.take_succ,List.getElem?_zipWith,hf,hd];simp
   ·rintro acc τ M' ⟨rfl,rfl,y1,y2,rfl⟩;rw[hzl,List.take_length];exact⟨_,rfl,k⟩
  ·have z2:(!PyData.eqv (.int ((ds.length+1:Nat):Int)) (.int (((du fs).length:Int)+1)))=true:=by rw[fV,decide_eq_false (by omega)];rfl
   rw[decide_eq_false hn,Bool.false_and] at k;exact dr (c:=!PyData.eqv (.int ((ds.length+1:Nat):Int)) (.int (((du fs).length:Int)+1))) z2 k
def b9:SpX:=λ ws M Q E=>∃ (f:Hf) (y:Str),ws=[.d (.str (hfS f)),.d (.str y)]/\dU y=true/\y.length<=50000/\(∀ d,rf f y=some d->Q (.d d) M)/\(rf f y=none->∀ a,M a=none->E a (dR M a (.exc aD [])))
theorem oB:LnX b9 2:=by rintro ws M Q E ⟨f,y,rfl,_⟩;rfl
theorem mw:RdX b9 (λ Ex=>kY Ex aV cf) kJ:=by
 rintro ws M Q E ⟨f,y,rfl,ha,hl,ky,kn⟩;obtain⟨q1,q2,q3⟩:=ahs f;refine⟨_,rfl,_,rfl,_,rfl,?_⟩;rw[rE f];unfold rf at ky kn;cases hR:hfR f with
 | some p =>
  rw[hR] at ky;exact dg ⟨_,rfl,y,rfl,ha,by omega,ky _ rfl⟩
 | none =>
  rw[hR] at ky kn;simp only at ky kn;refine bR ⟨_,rfl,_,_,.d,.d,rfl,_,rfl,?_⟩;rw[aR,q1]
  by_cases h1:f=.yes
  ·rw[if_pos h1] at ky;rw[decide_eq_true h1];exact dg ⟨_,rfl,y,rfl,ky _ rfl⟩
  ·rw[if_neg h1] at ky kn;rw[decide_eq_false h1];refine bR ⟨_,rfl,_,_,.d,.d,rfl,_,rfl,?_⟩;rw[aR,q2]
   by_cases h2:f=.deed
   ·rw[if_pos h2] at ky kn;rw[decide_eq_true h2];exact dg ⟨_,rfl,.str y,rfl,(λ h=>by rw[vI] at h;cases h),λ _=>⟨y,rfl,ha,hl,ky,kn⟩⟩
   ·rw[if_neg h2] at ky;rw[decide_eq_false h2];exact bR ⟨_,rfl,ky _ rfl⟩
theorem nk(c x:Str){l:List Str}(h:l≠[]):Str.join c (x::l)=x++c++Str.join c l:=by
 cases l with
 | nil=>exact absurd rfl h
 | cons a r=>rfl
theorem i7(c:Str){b:List Str}(h:b≠[]):∀ qs:List Str,Str.join c (qs++[Str.join c b])=Str.join c (qs++b)
 | []=>rfl
 | q::qs=>by rw[List.cons_append,List.cons_append,nk c q (by simp),nk c q (by simp[h]),i7 c h qs]
theorem yf(c:Str)(n:Nat)(ws:List Str):Str.join c (jh c n ws)=Str.join c ws:=by
 unfold jh
 split
 ·rename_i h
  rw[i7 c (λ e=>by have:=congrArg List.length e;rw[List.length_drop] at this;simp at this;omega),List.take_append_drop]
 ·rfl
theorem abb(c:Str)(n:Nat)(ws:List Str):(jh c n ws).length<=n+1:=by
 unfold jh
 split
 ·simp;omega
 ·omega
def rfs(fs:List Hf)(ps:List Str):List PyData:=List.zipWith (λ f p=>(rf f p).getD .none) fs ps
theorem afI{z y0 y1:Str}{ys:List Str}(h:Txt.split z " " = y0::y1::ys):df z=none:=by
 cases hq:df z with
 | none=>rfl
 | some fs =>
  have hw:=pf (u9 hq).1;have e:=StrLaws.join_split z " ";rw[h,uk] at e;exact absurd (by rw[<- e,join_cons];simp) hw
theorem aae{z y0:Str}{ys:List Str}(es:Txt.split z " " = y0::ys)(fs:List Hf):∃ p0 ps,jh " " fs.length (y0::ys)=p0::ps/\((fs=[]/\p0=z/\ps=[])\/(fs≠[]/\p0=y0/\ps=uV fs.length ys)):=by
 cases fs with
 | nil =>
  refine⟨z,[],?_,.inl ⟨rfl,rfl,rfl⟩⟩;have e:=StrLaws.join_split z " ";rw[es] at e;unfold jh;rw[if_pos (by simp)];show [Str.join " " (y0::ys)]=_;rw[e]
 | cons f fs =>
  refine⟨y0,jh " " fs.length ys,?_,.inr ⟨by simp,rfl,rfl⟩⟩;unfold jh;simp only[List.length_cons,Nat.add_lt_add_iff_right,List.take_succ_cons,List.drop_succ_cons]
  split<;>rfl
theorem ag6(y0:Str):(bY fk y0).getD (.tuple [])=.tuple (du ((df y0).getD [])):=by rw[zr];cases df y0<;>rfl
theorem ad9{z y0 p0:Str}{ys ps:List Str}{fs:List Hf}(es:Txt.split z " " = y0::ys)(hfs:fs=(df y0).getD [])(hc:(fs=[]/\p0=z/\ps=[])\/(fs≠[]/\p0=y0/\ps=uV fs.length ys))(hall:∀ (j:Nat) f p,fs[j]? =some f->ps[j]? =some p->(∃ d,rf f p=some d)/\dU p=true/\p.length<=50000) :
  (∀ fs',df p0=some fs'->∀ (j:Nat) f d,fs'[j]? =some f->(rfs fs ps)[j]? =some d->Fh f d)/\ip y0 ys=if aew p0 (rfs fs ps)=true then some (dd p0 (rfs fs ps)) else none:=by
 have hat:∀ (j:Nat) f p,fs[j]? =some f->ps[j]? =some p->∃ d,rf f p=some d/\(rfs fs ps)[j]? =some d/\Fh f d/\rH f p=if vt f d=true then some d else none:=λ j f p h1 h2=>by obtain⟨⟨d,hd⟩,pa,pl⟩:=hall j f p h1 h2;obtain⟨a,b⟩:=afw hd pa (by omega);refine⟨d,hd,?_,a,b⟩;unfold rfs;rw[List.getElem?_zipWith,h1,h2];simp[hd]
 have hback:∀ (j:Nat) d,(rfs fs ps)[j]? =some d->∃ f p,fs[j]? =some f/\ps[j]? =some p:=λ j d h=>by
  unfold rfs at h;rw[List.getElem?_zipWith] at h
  split at h
  ·rename_i f p e1 e2
   exact⟨f,p,e1,e2⟩
  ·cases h
 rcases hc with ⟨rfl,rfl,rfl⟩ | ⟨hne,rfl,rfl⟩
 ·refine⟨λ fs' _ j f d _ h2=>by simp[rfs] at h2,?_⟩;unfold ip aew;cases ys with
  | nil =>
   have e:=StrLaws.join_split p0 " ";rw[es] at e;have e':y0=p0:=e;subst e';cases hq:df y0 with
   | none=>rfl
   | some fs' =>
    rw[hq] at hfs;have hfs:[]=fs':=hfs;subst hfs;rfl
  | cons y1 ys =>
   rw[afI es];cases hq:df y0 with
   | none=>rfl
   | some fs' =>
    rw[hq] at hfs;have hfs:[]=fs':=hfs;subst hfs;rfl
 ·obtain⟨hq⟩:Nonempty (df p0=some fs):=by
   cases hq:df p0 with
   | none=>rw[hq] at hfs;exact absurd hfs hne
   | some fs'=>rw[hq] at hfs;exact⟨by rw[hfs];rfl⟩
  generalize hps:uV fs.length ys=ps at hall hat hback ⊢;refine⟨λ fs' h' j f d h1 h2=>?_,?_⟩
  ·rw[hq] at h';cases h';obtain⟨f',p,e1,e2⟩:=hback j d h2;rw[h1] at e1;cases e1;obtain⟨d',_,a,b,_⟩:=hat j f p h1 e2;rw[h2] at a;cases a;exact b
  ·unfold ip aew;rw[hq];show(dP rH fs (uV fs.length ys)).map (λ ds=>dd p0 ds)=if (decide ((rfs fs ps).length=fs.length)&&(List.zipWith vt fs (rfs fs ps)).all id)=true then some (dd p0 (rfs fs ps)) else none;rw[hps];have hrl:(rfs fs ps).length=min fs.length ps.length:=by simp[rfs]
   have hpl:ps.length<=fs.length:=by
    rw[<- hps];cases fs with
    | nil=>exact absurd rfl hne
    | cons f fs=>exact abb " " fs.length ys
   by_cases hn:fs.length=ps.length
   ·rw[decide_eq_true (show(rfs fs ps).length=fs.length by omega),Bool.true_and];cases hA:(List.zipWith vt fs (rfs fs ps)).all id with
    | true =>
     have hg:dP rH fs ps=some (rfs fs ps):=kN hn λ j f p h1 h2=>by obtain⟨d,a,b,c,e⟩:=hat j f p h1 h2;have hb:vt f d=true:=List.all_eq_true.mp hA (vt f d) (List.mem_of_getElem? (i:=j) (by rw[List.getElem?_zipWith,h1,b]));rw[e,hb,if_pos rfl,a];rfl
     rw[hg,if_pos rfl];rfl
    | false =>
     obtain⟨b,hb,hbf⟩:=List.all_eq_false.mp hA;obtain⟨j,hj,ej⟩:=List.mem_iff_getElem.mp hb;have e:=List.getElem?_eq_getElem hj;rw[List.getElem?_zipWith] at e
     split at e
     ·rename_i f d e1 e2
      obtain⟨f',p,h1,h2⟩:=hback j d e2;rw[e1] at h1;cases h1;obtain⟨d',a,b',c,e'⟩:=hat j f p e1 h2;rw[e2] at b';cases b';have hfd:vt f d=false:=by
       injection e with e
       rw[e,ej]
       simpa using hbf
      rw[hfd,if_neg Bool.false_ne_true] at e';rw[eK e1 h2 e'];rfl
     ·cases e
   ·rw[fL hn,decide_eq_false (show ¬ (rfs fs ps).length=fs.length by omega)];rfl
def bf:SpX:=λ ws M Q E=>∃ d0:PyData,ws=[.d d0]/\(jR d0 "str" = false->∀ a,M a=none->E a (dR M a (.exc aD [])))/\(jR d0 "str" = true->∃ z:Str,d0=.str z/\dU z=true/\z.length<=50000/\(∀ d,ph z=some d->Q (.d d) M)/\(ph z=none->∀ a,M a=none->E a (dR M a (.exc aD []))))
theorem jm:LnX bf 1:=by rintro ws M Q E ⟨d0,rfl,_⟩;rfl
theorem iu:RdX bf (λ Ex=>f6 Ex b9 bx) gc:=by
 rintro ws M Q E ⟨d0,rfl,hodd,hstr⟩;have s16':=s16;refine⟨_,rfl,_,_,_,rfl,.d,.str,_,rfl,?_⟩;cases hty:jR d0 "str" with
 | false=>exact dg ⟨by simp,hodd hty⟩
 | true =>
 obtain⟨z,rfl,ha,hzl,ky,kn⟩:=hstr hty;obtain⟨y0,ys,es⟩:=dA z;obtain⟨r3,e3⟩:=vn z y0 ys es;rw[l6 es] at ky kn;have h0:ixW M (.d (.tuple ((part3 z " ").map PyData.str))) 0=some (.d (.str y0)):=by rw[e3];exact vY
 refine bR ⟨_,rfl,z,rfl, " ",rfl,by decide +kernel,by omega,_,_,rfl,h0,rfl,[],rfl,few (by simp),y0,.tuple [],rfl,rfl,?_⟩;rw[ag6];generalize hfs:(df y0).getD []=fs;have hf3:fs.length<=3:=by
  rw[<- hfs];cases hq:df y0 with
  | none=>simp
  | some fs'=>exact(u9 hq).2
 have hfm:(du fs).length=fs.length:=by simp[du]
 refine⟨_,rfl,z,rfl,_,rfl,_,_,rfl,rfl,rfl, " ",_,rfl,rfl,by decide +kernel,by omega,by omega,by omega,?_⟩;obtain⟨p0,ps,ep,hc⟩:=aae es fs;have esm:Txt.splitMax z " " (((du fs).length:Nat):Int)=p0::ps:=by rw[hfm,uk,pC,<- uk,es,ep]
 have hpart:∀ p∈p0::ps,p.length<=z.length/\dU p=true:=λ p hp=>by have e:=StrLaws.join_split z " ";rw[es,<- yf " " fs.length,ep,uk] at e;obtain⟨h1,h2⟩:=kl (c:=32) hp;rw[e] at h1 h2;exact⟨h1,lC λ x hx=>cn ha x (h2 x hx)⟩
 have esm':(Txt.splitMax z " " (((du fs).length:Nat):Int)).map PyData.str=(p0::ps).map PyData.str:=by rw[esm]
 rw[esm'];have hc1:slW (.d (.list ((p0::ps).map PyData.str))) none (some 1)=some (.d (.list [.str p0])):=by simp only[slW,List.map_cons,(gM _ _).2]
 have hc2:slW (.d (.list ((p0::ps).map PyData.str))) (some 1) none=some (.d (.list (ps.map PyData.str))):=by simp only[slW,List.map_cons,(gM _ _).1]
 refine⟨_,rfl,_,rfl,_,hc1,rfl,_,rfl,_,rfl,_,rfl,_,hc2,rfl,du fs,ps.map PyData.str,rfl,?_⟩;dsimp only;have hzl2:(mi (du fs) (ps.map PyData.str)).length=(rfs fs ps).length:=by simp[mi,rfs,hfm]
 have hrl:(rfs fs ps).length=min fs.length ps.length:=by simp[rfs]
 refine⟨λ i acc τ M'=>M'=M/\acc=(rfs fs ps).take i/\(∀ j<i,∀ f p,fs[j]? =some f->ps[j]? =some p->∃ d,rf f p=some d)/\∃ y1 y2,τ=[y1,y2],⟨rfl,rfl,λ j h=>by omega,_,_,rfl⟩,?_,?_⟩
 ·rintro i w acc τ M' hw ⟨rfl,rfl,hall,y1,y2,rfl⟩;obtain⟨j,hj,rfl⟩:=jN hw;obtain⟨hlt,hj2⟩:=List.getElem?_eq_some_iff.mp hj;rw[List.getElem_range] at hj2;subst hj2;have hi:i<fs.length/\i<ps.length:=by simpa [hfm,Nat.lt_min] using hlt
  obtain⟨f,hf⟩:∃ f,fs[i]? =some f:=⟨_,List.getElem?_eq_getElem hi.1⟩;obtain⟨p,hp⟩:∃ p,ps[i]? =some p:=⟨_,List.getElem?_eq_getElem hi.2⟩;have ef:(du fs).getD i .none=.str (hfS f):=by simp[du,List.getD,hf]
  have ed:(ps.map PyData.str).getD i .none=.str p:=by simp[List.getD,hp]
  rw[ef,ed];obtain⟨p1,p2⟩:=hpart p (List.mem_cons_of_mem _ (List.mem_of_getElem? hp));refine⟨by rw[List.length_take];omega,_,rfl,rfl,_,_,rfl,_,_,rfl,rfl,_,rfl,_,rfl,f,p,rfl,p2,by omega,λ d hd=>⟨d,rfl,rfl,?_,λ j hj f' p' h1 h2=>?_,_,_,rfl⟩,λ hn a hM=>kn ?_ a hM⟩
  ·have e:(rfs fs ps)[i]? =some d:=by
    unfold rfs;rw[List.getElem?_zipWith,hf,hp];simp[hd]
   rw[List.take_succ,e];rfl
  ·by_cases hji:j=i
   ·subst hji;rw[hf] at h1;rw[hp] at h2;cases h1;cases h2;exact⟨d,hd⟩
   ·exact hall j (by omega) f' p' h1 h2
  ·rcases hc with ⟨rfl,_,_⟩ | ⟨hne,_,rfl⟩
   ·simp at hf
   ·unfold ip;cases hq:df y0 with
    | none=>rfl
    | some fs' =>
     rw[hq] at hfs;have hfs:fs'=fs:=hfs;subst hfs;show(dP rH fs' (uV fs'.length ys)).map _=_;rw[eK hf hp (adk hn)];rfl
 ·rintro acc τ M' ⟨rfl,rfl,hall,y1,y2,rfl⟩;rw[hzl2,List.take_length];rw[hzl2,hrl] at hall;obtain⟨hF,hr⟩:=ad9 es hfs.symm hc λ j f p h1 h2=>by have l1:=(List.getElem?_eq_some_iff.mp h1).1;have l2:=(List.getElem?_eq_some_iff.mp h2).1;obtain⟨q1,q2⟩:=hpart p (List.mem_cons_of_mem _ (List.mem_of_getElem? h2));exact⟨hall j (by omega) f p h1 h2,q2,by omega⟩
  refine⟨[.str p0],rfs fs ps,.d,.d,by simp;omega,_,_,rfl,.l,?_⟩;refine⟨_,rfl,p0,rfs fs ps,rfl,by omega,hF,_,rfl,?_⟩;cases hG:aew p0 (rfs fs ps) with
  | true =>
   rw[hG,if_pos rfl] at hr;exact bR ⟨_,rfl,ky _ hr⟩
  | false =>
   rw[hG,if_neg Bool.false_ne_true] at hr;exact dg ⟨by simp,kn hr⟩
theorem aam{n:Nat}:∀ (ys:List Str),(∀ y∈ys,y.length<=n)->(ys.map (·.length)).sum<=n * ys.length/\(ys.map λ p=>(" " : Str).length+p.length).sum<=(n+1) * ys.length
 | [],_=>by simp
 | y::ys,h=>by
  have h1:=h y (by simp);have e1:(" " : Str).length=1:=by decide +kernel
  obtain⟨h2,h3⟩:=aam (n:=n) ys λ z hz=>h z (by simp[hz]);simp only[List.map_cons,List.sum_cons,List.length_cons,Nat.mul_add,Nat.mul_one] at *;omega
inductive Hp:Hf->PyData->Prop
 | num {f:Hf} {lo hi i:Int} (h:hfR f=some (lo,hi)) (h0:lo<=i) (h1:i<=hi):Hp f (.int i)
 | yes (b:Bool):Hp .yes (.bool b)
 | deed {d:PyData} (h:Gd d):Hp .deed d
 | lets {y:Str} (h:ju y=true):Hp .letters (.str y)
 | word {f:Hf} {y:Str} (h:f=.machine\/f=.word) (hy:wd y=true):Hp f (.str y)
theorem uG{f:Hf}{lo hi:Int}(h:hfR f=some (lo,hi)):0<=lo/\hi<=1000000000/\f ≠ .letters/\f ≠ .deed/\f ≠ .yes:=by
 cases f<;>first | (cases h;decide) | cases h
theorem aha{lo hi:Int}{y:Str}{d:PyData}(h:rS (.n lo hi) y=some d):∃ i:Int,d=.int i/\lo<=i/\i<=hi:=by
 simp only[rS] at h
 split at h
 ·rename_i hb
  injection h with h
  subst h;cases hq:rn y with
  | int i =>
   rw[hq] at hb;simp only[inB,btw,Bool.and_eq_true,decide_eq_true_eq] at hb;exact⟨i,rfl,hb.1,hb.2⟩
  | _=>rw[hq] at hb;cases hb
 ·cases h
theorem aiG{y:Str}{d:PyData}(h:rS .w y=some d):d=.str y/\wd y=true:=by
 simp only[rS] at h
 split at h
 ·rename_i hb
  injection h with h
  exact⟨h.symm,hb⟩
 ·cases h
theorem acX{f:Hf}{y:Str}{d:PyData}(h:rH f y=some d):Hp f d:=by
 cases f with
 | late=>obtain⟨i,rfl,h0,h1⟩:=aha (lo:=0) (hi:=2) h;exact .num rfl h0 h1
 | number=>obtain⟨i,rfl,h0,h1⟩:=aha (lo:=0) (hi:=1000000000) h;exact .num rfl h0 h1
 | many=>obtain⟨i,rfl,h0,h1⟩:=aha (lo:=1) (hi:=40) h;exact .num rfl h0 h1
 | yes =>
  have h:bY bT y=some d:=h;rcases abH y with e | ⟨b,e⟩
  ·rw[e] at h;cases h
  ·rw[e] at h;cases h;exact .yes b
 | deed=>exact .deed (Gd.back (show res y=some d from h)).1
 | letters =>
  have h:(if ju y=true then some (PyData.str y) else none)=some d:=h
  split at h
  ·rename_i hb
   cases h;exact .lets hb
  ·cases h
 | machine=>obtain⟨rfl,hw⟩:=aiG (show rS .w y=some d from h);exact .word (.inl rfl) hw
 | word=>obtain⟨rfl,hw⟩:=aiG (show rS .w y=some d from h);exact .word (.inr rfl) hw
def htp:PyData->Str
 | .bool b=>if b then "yes" else "no"
 | .tuple ps=>Txt.join " " (ps.map dtx)
 | d=>dtx d
theorem af5{d:PyData}(h:Gd d):htp d=tx d:=by obtain⟨x,_,ds,rfl,_⟩:=h;rfl
theorem we{y:Str}(h:ju y=true):dU y=true/\y.length<=12:=by
 unfold ju at h;simp only[Bool.and_eq_true,decide_eq_true_eq,List.all_eq_true,prB] at h;refine⟨lC λ c hc=>?_,h.1⟩;have:=h.2 c hc;omega
theorem yn:(∀ b:Bool,dU (if b then "yes" else "no")=true/\(if b then ("yes" : Str) else "no").length<=3/\32 ∉ (if b then ("yes" : Str) else "no").cps.toList)/\∀ b:Bool,bY bT (if b then "yes" else "no")=some (.bool b):=by
 constructor
 ·decide +kernel
 ·intro b;cases b<;>rfl
theorem aaa{f:Hf}{d:PyData}(h:Hp f d):rH f (htp d)=some d/\dU (htp d)=true/\(htp d).length<=100/\(f ≠ .letters->f ≠ .deed->32 ∉ (htp d).cps.toList):=by
 cases h with
 | @num f lo hi i h h0 h1 =>
  obtain⟨a,b,_⟩:=uG h;obtain⟨m,rfl⟩:=Int.eq_ofNat_of_zero_le (show 0<=i by omega);have hm:m<10 ^ 10:=by
   have:(10:Nat) ^ 10=10000000000:=by decide
   omega
  obtain⟨_,_,hl,hd⟩:=qE hm;refine⟨?_,lC λ c hc=>?_,?_,λ _ _ hm=>?_⟩
  ·unfold rH;rw[h];show rS (.n lo hi) (jX (m:Int))=_;simp only[rS];rw[acQ (by omega) (by omega)];rw[if_pos (by simp[inB,btw,h0,h1])]
  ·have:=hd c hc;omega
  ·show(jX (m:Int)).length<=100;omega
  ·have:=hd 32 hm;omega
 | yes b =>
  obtain⟨h1,h2⟩:=yn;obtain⟨a,b',c⟩:=h1 b;exact⟨h2 b,a,by show(if b then ("yes" : Str) else "no").length<=100;omega,λ _ _=>c⟩
 | deed g =>
  rw[af5 g];exact⟨g.res,g.asc,g.len,λ _ h=>absurd rfl h⟩
 | @lets y h =>
  obtain⟨a,b⟩:=we h;refine⟨?_,a,by show y.length<=100;omega,λ h=>absurd rfl h⟩;show(if ju y=true then some (PyData.str y) else none)=_;rw[if_pos h]
 | @word f y h hy =>
  have l:=(fB hy).2;refine⟨?_,gz hy,by show y.length<=100;omega,λ _ _=>pf hy⟩;rcases h with rfl | rfl
  ·show(if wd y=true then some (PyData.str y) else none)=_;rw[if_pos hy]
  ·show(if wd y=true then some (PyData.str y) else none)=_;rw[if_pos hy]
def Hds(fs:List Hf)(ds:List PyData):Prop:=ds.length=fs.length/\∀ (j:Nat) f d,fs[j]? =some f->ds[j]? =some d->Hp f d
def Gh(d:PyData):Prop:=∃ x∈qG,∃ ds:List PyData,d=dd x.1 ds/\Hds x.2 ds
theorem Hds.mem{fs:List Hf}{ds:List PyData}(h:Hds fs ds){d:PyData}(hd:d∈ds):∃ f∈fs,Hp f d:=by obtain⟨j,hj,e⟩:=List.mem_iff_getElem.mp hd;have hl:=h.1;exact⟨fs[j]'(by omega),List.getElem_mem _,h.2 j _ d (List.getElem?_eq_getElem (by omega)) (by rw[<- e];exact List.getElem?_eq_getElem hj)⟩
theorem qa{z:Str}{d:PyData}(h:ph z=some d):Gh d:=by
 obtain⟨y0,ys,es⟩:=dA z;rw[l6 es] at h;unfold ip at h;cases hq:df y0 with
 | none=>rw[hq] at h;cases h
 | some fs =>
  rw[hq] at h;simp only[Option.bind_some] at h;cases hg:dP rH fs (uV fs.length ys) with
  | none=>rw[hg] at h;cases h
  | some ds =>
   rw[hg] at h
   injection h with h
   subst h;obtain⟨a,b,c⟩:=tM hg;refine⟨(y0,fs),jG hq,ds,rfl,b,λ j f d h1 h2=>?_⟩;have hj:j<fs.length:=(List.getElem?_eq_some_iff.mp h1).1;exact acX (c j f _ d h1 (List.getElem?_eq_getElem (show j<(uV fs.length ys).length by omega)) h2)
theorem um{i:Int}(h0:0<=i)(h1:i<=1000000000)(k:Nat):okD k (.int i)=true:=by
 have:(2:Nat) ^ 100=1267650600228229401496703205376:=by decide
 cases k<;>simp only[okD]<;>exact decide_eq_true (by omega)
theorem ach(i:Int):big (.int i)<=2000:=by simp[big]
theorem Hp.ok{f:Hf}{d:PyData}(h:Hp f d):okD 3 d=true/\big d<=20000:=by
 cases h with
 | @num f lo hi i h h0 h1 =>
  obtain⟨a,b,_⟩:=uG h;have:=ach i;exact⟨um (by omega) (by omega) 3,by omega⟩
 | yes b=>exact⟨by simp[okD],by simp[big]⟩
 | deed g =>
  obtain⟨x,hx,ds,rfl,hl,hv⟩:=g;have h2:=aid hx hl hv.pts;refine⟨?_,h2.2⟩;simp only[dd,okD];refine ue λ d hd=>?_;rcases List.mem_cons.mp hd with rfl | hd
  ·simp only[okD];exact gz (gX x hx)
  ·obtain⟨c,hc⟩:=pP hv hl hd;obtain⟨_,b,_⟩:=sJ hc;rcases hc with ⟨_,y,rfl,hy⟩ | ⟨_,y,rfl,hy⟩ | ⟨h1,h2,i,rfl,i0,i1⟩
   ·simp only[okD];exact b
   ·simp only[okD];exact b
   ·have c0:=(wF c h1 h2).1;have c1:=uy c;exact um (by omega) (by omega) 2
 | @lets y h =>
  obtain⟨a,b⟩:=we h;exact⟨by simp only[okD];exact a,by simp only[big];omega⟩
 | @word f y h hy =>
  have l:=(fB hy).2;exact⟨by simp only[okD];exact gz hy,by simp only[big];omega⟩
theorem Gh.ok{d:PyData}(h:Gh d):okD 4 d=true/\big d<=100000:=by
 obtain⟨x,hx,ds,rfl,hd⟩:=h;obtain⟨hw,h3⟩:=d6 x hx;have hl:=hd.1;have w8:=(fB hw).2;have each:∀ d∈(.str x.1:PyData)::ds,okD 3 d=true/\big d<=20000:=by
  intro d hd';rcases List.mem_cons.mp hd' with rfl | hd'
  ·exact⟨by simp only[okD];exact gz hw,by simp only[big];omega⟩
  ·obtain⟨f,_,hf⟩:=hd.mem hd';exact hf.ok
 refine⟨by simp only[dd,okD];exact ue λ d hd=>(each d hd).1,?_⟩;have:=su (c:=20000) λ d hd=>(each d hd).2;simp only[dd,big];simp only[List.length_cons] at this;omega
def hTx(z:Str)(ds:List PyData):Str:=Txt.join " " (z::ds.map htp)
theorem eS(l:List Str):Txt.join " " l=Str.join " " l:=StrLaws.glued_eq_join " " l
theorem vj{qs:List Str}{l:Str}(h:∀ p∈qs,32 ∉ p.cps.toList):Txt.split (Str.join " " (qs++[l])) " " = qs++Txt.split l " ":= by
 have hne:Txt.split l " " ≠ []:=by obtain⟨y0,ys,e⟩:=dA l;rw[e];simp
 have e:Str.join " " (qs++[l])=Str.join " " (qs++Txt.split l " "):=by rw[<- i7 " " hne qs,StrLaws.join_split]
 rw[e,<- eS];refine fw (by simp[hne]) λ p hp=>?_;rcases List.mem_append.mp hp with hp | hp
 ·exact h p hp
 ·rw[uk] at hp;exact StrLaws.split_free l 32 p hp
theorem xa:∀ x∈qG,∀ f∈x.2.dropLast,f ≠ .letters/\f ≠ .deed:=by decide +kernel
theorem nD{α:Type}{r:α->Str->Option PyData}:∀ {fs:List α} {ys:List Str} {ds:List PyData},fs.length=ds.length->ys.length=ds.length->(∀ (j:Nat) f y d,fs[j]? =some f->ys[j]? =some y->ds[j]? =some d->r f y=some d)->dP r fs ys=some ds
 | [],[],[],_,_,_=>rfl
 | f::fs,y::ys,d::ds,h1,h2,k=>by have ih:=nD (r:=r) (fs:=fs) (ys:=ys) (ds:=ds) (by simpa using h1) (by simpa using h2) λ j f y d a b c=>k (j+1) f y d (by simpa using a) (by simpa using b) (by simpa using c);simp[dP,ih,k 0 f y d rfl rfl rfl]
 | [],_,_::_,h,_,_=>by simp at h
 | _::_,_,[],h,_,_=>by simp at h
 | _,[],_::_,_,h,_=>by simp at h
 | _,_::_,[],_,h,_=>by simp at h
theorem ac4{x:Str×List Hf}(hx:x∈qG){ds:List PyData}(hd:Hds x.2 ds):ph (hTx x.1 ds)=some (dd x.1 ds):=by
 obtain⟨hw,h3⟩:=d6 x hx;have hl:=hd.1;have key:∃ ys,Txt.split (hTx x.1 ds) " " = x.1::ys/\uV x.2.length ys=ds.map htp:=by
  unfold hTx;rw[eS];rcases List.eq_nil_or_concat ds with e | ⟨qs,l,e⟩
  ·subst e;refine⟨[],?_,?_⟩
   ·have:=fw (l:=[x.1]) (by simp) λ p hp=>by rw[List.mem_singleton.mp hp];exact pf hw
    exact this
   ·rw[<- hl];rfl
  ·subst e;rw[List.concat_eq_append] at *;have hfree:∀ p∈x.1::qs.map htp,32 ∉ p.cps.toList:=λ p hp=>by
    rcases List.mem_cons.mp hp with rfl | hp
    ·exact pf hw
    ·obtain⟨d,hd',rfl⟩:=List.mem_map.mp hp;obtain⟨j,hj,e⟩:=List.mem_iff_getElem.mp hd';simp at hl;have hf:x.2[j]? =some (x.2[j]'(by omega)):=List.getElem?_eq_getElem (by omega);have hm:x.2[j]'(by omega)∈x.2.dropLast:=by refine List.mem_of_getElem? (i:=j) ?_;rw[List.getElem?_dropLast,if_pos (by omega),hf]
     obtain⟨n1,n2⟩:=xa x hx _ hm;exact(aaa (hd.2 j _ d hf (by rw[List.getElem?_append_left hj,<- e];exact List.getElem?_eq_getElem hj))).2.2.2 n1 n2
   refine⟨qs.map htp++Txt.split (htp l) " ",?_,?_⟩
   ·have:=vj (qs:=x.1::qs.map htp) (l:=htp l) hfree;rw[List.map_append];exact this
   ·obtain⟨y0,ys,es⟩:=dA (htp l);have e1:x.2.length=(qs.map htp).length+1:=by simp at hl ⊢;omega
    rw[e1];show jh " " (qs.map htp).length _=_;unfold jh;rw[if_pos (by rw[es];simp),List.take_left,List.drop_left,StrLaws.join_split,List.map_append];rfl
 obtain⟨ys,e1,e2⟩:=key;rw[l6 e1];unfold ip;rw[mW x hx];show(dP rH x.2 (uV x.2.length ys)).map (λ ds=>dd x.1 ds)=_;rw[e2,nD (ds:=ds) (by omega) (by simp) λ j f y d h1 h2 h3=>by rw[List.getElem?_map,h3] at h2;cases h2;exact(aaa (hd.2 j f d h1 h3)).1]
 rfl
theorem agY{x:Str×List Hf}(hx:x∈qG){ds:List PyData}(hd:Hds x.2 ds):dU (hTx x.1 ds)=true/\(hTx x.1 ds).length<=500:=by
 obtain⟨hw,h3⟩:=d6 x hx;have hl:=hd.1;have w8:=(fB hw).2;have each:∀ y∈x.1::ds.map htp,dU y=true/\y.length<=100:=λ y hy=>by
  rcases List.mem_cons.mp hy with rfl | hy
  ·exact⟨gz hw,by omega⟩
  ·obtain⟨d,hd',rfl⟩:=List.mem_map.mp hy;obtain⟨f,_,hf⟩:=hd.mem hd';obtain⟨_,a,b,_⟩:=aaa hf;exact⟨a,b⟩
 obtain⟨ja,jl⟩:=oQ (sep:= " ") (ys:=x.1::ds.map htp) (kE (by decide +kernel)) λ y hy=>cn (each y hy).1;refine⟨lC ja,?_⟩;have hs:=aam (n:=100) (x.1::ds.map htp) λ y hy=>(each y hy).2;have:=hs.2;simp only[List.length_cons,List.length_map] at this;unfold hTx;omega
def Ps(p:PyData):Prop:=((∃ y:Str,p=.str y)\/∃ i:Int,p=.int i/\0<=i/\i<=1000000000)/\(dtx p).length<=200
theorem xl{i:Int}(h0:0<=i)(h1:i<=1000000000):i.natAbs.log2<1920:=by
 by_cases h:i.natAbs=0
 ·rw[h];decide
 ·have:=(Nat.log2_lt h (k:=30)).mpr (by have:(2:Nat) ^ 30=1073741824:=(by decide);omega);omega
def bb:SpD:=λ ws M Q=>∃ ps:List PyData,(ws=[.d (.list ps)]\/ws=[.d (.tuple ps)])/\ps.length<=10/\(∀ p∈ps,Ps p)/\Q (.d (.str (Txt.join " " (ps.map dtx)))) M
theorem mD:Ln bb 1:=by rintro ws M Q ⟨ps,rfl | rfl,_⟩<;>rfl
theorem l9{M:MH}{Q:QD}{ps:List PyData}(hl:ps.length<=10)(hp:∀ p∈ps,Ps p)(k:Q (.d (.str (Txt.join " " (ps.map dtx)))) M) :
  ∃ P:Nat->List PyData->DS->MH->Prop,P 0 [] [none] M/\(∀ i w acc τ' M,(ps.map W.d)[i]? =some w->P i acc τ' M->acc.length<sizeLine/\gN 0 w τ' M λ τ2 M2=>pz τ2 M2 λ b M3=>if b=true then dCB aaF (ae (aj 0) av) τ2 M3 λ y M4=>∃ d,y=.d d/\P (i+1) (acc++[d]) τ2 M4 else P (i+1) acc τ2 M3)/\∀ acc τ M,P (ps.map W.d).length acc τ M->gg (.d (.str " ")) [.d (.list acc)] M Q:=by
 have s16':=s16;refine iw ps W.d (λ p=>.str (dtx p)) (λ τ=>∃ x,τ=[x]) (by omega) ⟨_,rfl⟩ (λ p hm τ hτ R h=>?_) (λ τ=>?_)
 ·obtain⟨x,rfl⟩:=hτ;have go:=h [some (.d p)] ⟨_,rfl⟩;rcases(hp p hm).1 with ⟨y,rfl⟩ | ⟨i,rfl,i0,i1⟩
  ·exact⟨_,rfl,.inl ⟨y,rfl,_,rfl,go⟩⟩
  ·exact⟨_,rfl,.inr ⟨i,rfl,xl i0 i1,_,rfl,go⟩⟩
 ·refine⟨" ",ps.map dtx,rfl,by rw[List.map_map];rfl,?_,k⟩;have hs:=aam (n:=200) (ps.map dtx) λ y hy=>by obtain⟨p,hm,rfl⟩:=List.mem_map.mp hy;exact(hp p hm).2
  have e1:(" " : Str).length=1:=by decide +kernel
  have:=hs.1;rw[e1];simp only[List.length_map] at this ⊢;omega
theorem lh:Rd bb jT jL:=by
 rintro ws M Q ⟨ps,rfl | rfl,hl,hp,k⟩
 ·exact⟨⟨_,rfl⟩,_,rfl,_,rfl,l9 hl hp k⟩
 ·exact⟨⟨_,rfl⟩,_,rfl,_,rfl,l9 hl hp k⟩
theorem ahn{c:Cd}{d:PyData}(h:Vp c d):Ps d:=by
 have l:=(sJ h).1;refine⟨?_,by omega⟩;rcases h with ⟨_,y,rfl,_⟩ | ⟨_,y,rfl,_⟩ | ⟨h1,h2,i,rfl,i0,i1⟩
 ·exact .inl ⟨y,rfl⟩
 ·exact .inl ⟨y,rfl⟩
 ·have c0:=(wF c h1 h2).1;have c1:=uy c;exact .inr ⟨i,rfl,by omega,by omega⟩
theorem mR{y:Str}(h:y.length<=200):Ps (.str y):=⟨.inl ⟨y,rfl⟩,h⟩
theorem aaW{d:PyData}(h:Gd d):∃ ps,d=.tuple ps/\ps.length<=7/\(∀ p∈ps,Ps p)/\tx d=Txt.join " " (ps.map dtx):=by
 obtain⟨x,hx,ds,rfl,hl,hv⟩:=h;obtain⟨n6,n1⟩:=jr x hx;refine⟨_,rfl,by simp;omega,λ p hp=>?_,rfl⟩;rcases List.mem_cons.mp hp with rfl | hp
 ·have:=(fB (gX x hx)).2;exact mR (by omega)
 ·obtain⟨c,hc⟩:=pP hv hl hp;exact ahn hc
def bP:SpD:=λ ws M Q=>∃ d:PyData,ws=[.d d]/\Gd d/\Q (.d (.str (tx d))) M
theorem nL:Ln bP 1:=by rintro ws M Q ⟨d,rfl,_⟩;rfl
theorem mH:Rd bP (lH bb) lb:=by
 rintro ws M Q ⟨d,rfl,g,k⟩;obtain⟨ps,rfl,hl,hp,e⟩:=aaW g;rw[e] at k;exact⟨_,rfl,ps,.inr rfl,by omega,hp,k⟩
def shD:PyData->PyData
 | .bool b=>.str (if b then "yes" else "no")
 | .tuple ps=>.str (Txt.join " " (ps.map dtx))
 | d=>d
theorem uH(d:PyData):dtx (shD d)=htp d:=by
 cases d<;>rfl
theorem ac3{f:Hf}{d:PyData}(h:Hp f d):Ps (shD d):=by
 have l:(dtx (shD d)).length<=200:=by rw[uH];have:=(aaa h).2.2.1;omega
 refine⟨?_,l⟩;cases h with
 | @num f lo hi i h h0 h1 =>
  obtain⟨a,b,_⟩:=uG h;exact .inr ⟨i,rfl,by omega,by omega⟩
 | yes b=>exact .inl ⟨_,rfl⟩
 | deed g =>
  obtain⟨ps,rfl,_⟩:=aaW g;exact .inl ⟨_,rfl⟩
 | @lets y h=>exact .inl ⟨y,rfl⟩
 | @word f y h hy=>exact .inl ⟨y,rfl⟩
def fg:SpD:=λ ws M Q=>∃ (f:Hf) (d:PyData),ws=[.d (.str (hfS f)),.d d]/\Hp f d/\Q (.d (shD d)) M
theorem zb:Ln fg 2:=by rintro ws M Q ⟨f,d,rfl,_⟩;rfl
theorem vK:Rd fg (yG bP) oF:=by
 rintro ws M Q ⟨f,d,rfl,h,k⟩;obtain⟨q1,q2,_⟩:=ahs f;refine⟨_,rfl,_,_,.d,.d,rfl,_,rfl,?_⟩;rw[aR,q2];have plain:f ≠ .deed->f ≠ .yes->shD d=d->(if decide (f=.deed)=true then bK (aW bP (ae (aj 1) (av))) (EdQ Q) (dQ oF [.d (.str (hfS f)),.d d]) M else (bc (dIf (aE (dOp cG (aj 0) (dS "yes"))) (bK (abN (aeB (aj 1)) (dS "yes") (dS "no"))) (bj)) <| bK (aj 1)) (EdQ Q) (dQ oF [.d (.str (hfS f)),.d d]) M):=λ n1 n2 e=>by rw[e] at k;rw[decide_eq_false n1];refine bR ⟨_,rfl,_,_,.d,.d,rfl,_,rfl,?_⟩;rw[aR,q1,decide_eq_false n2];exact bR ⟨_,rfl,k⟩
 cases h with
 | @num f lo hi i h h0 h1 =>
  obtain⟨_,_,_,n1,n2⟩:=uG h;exact plain n1 n2 rfl
 | yes b =>
  rw[decide_eq_false (by decide)];refine bR ⟨_,rfl,_,_,.d,.d,rfl,_,rfl,?_⟩;rw[aR,q1,decide_eq_true rfl];refine dg ⟨_,rfl,_,.b,?_⟩;cases b<;>exact k
 | deed g =>
  rw[decide_eq_true rfl];refine dg ⟨_,rfl,d,rfl,g,?_⟩;obtain⟨ps,rfl,_⟩:=aaW g;exact k
 | @lets y h=>exact plain (by decide) (by decide) rfl
 | @word f y h hy =>
  rcases h with rfl | rfl
  ·exact plain (by decide) (by decide) rfl
  ·exact plain (by decide) (by decide) rfl
def bh:SpD:=λ ws M Q=>∃ x∈qG,∃ ds:List PyData,ws=[.d (dd x.1 ds)]/\Hds x.2 ds/\Q (.d (.str (hTx x.1 ds))) M
theorem i6:Ln bh 1:=by rintro ws M Q ⟨x,_,ds,rfl,_⟩;rfl
theorem ir:Rd bh (f9 bb fg) gf:=by
 rintro ws M Q ⟨x,hx,ds,rfl,hd,k⟩;have s16':=s16;obtain⟨hw,h3⟩:=d6 x hx;have hl:=hd.1;have w8:=(fB hw).2;have hfm:(du x.2).length=x.2.length:=by simp[du]
 have elk:bY fk x.1=some (.tuple (du x.2)):=by rw[zr,mW x hx];rfl
 refine⟨_,rfl,_,_,rfl,vY,rfl,_,rfl,few (by simp),?_⟩;refine⟨_,rfl,_,_,rfl,vY,rfl,x.1,_,rfl,elk,_,rfl,_,rfl,_,yZ x.1 ds,rfl,du x.2,ds,rfl,?_⟩;dsimp only;have hzl:(mi (du x.2) ds).length=(ds.map shD).length:=by simp[mi,hfm,hl]
 refine⟨λ i acc τ M'=>M'=M/\acc=(ds.map shD).take i/\∃ y1 y2,τ=[y1,y2],⟨rfl,rfl,_,_,rfl⟩,?_,?_⟩
 ·rintro i w acc τ M' hw' ⟨rfl,rfl,y1,y2,rfl⟩;obtain⟨j,hj,rfl⟩:=jN hw';obtain⟨hlt,hj2⟩:=List.getElem?_eq_some_iff.mp hj;rw[List.getElem_range] at hj2;subst hj2;have hi:i<x.2.length:=by simpa [hfm,hl] using hlt
  obtain⟨f,hf⟩:∃ f,x.2[i]? =some f:=⟨_,List.getElem?_eq_getElem hi⟩;obtain⟨d,hd'⟩:∃ d,ds[i]? =some d:=⟨_,List.getElem?_eq_getElem (by omega)⟩;have ef:(du x.2).getD i .none=.str (hfS f):=by simp[du,List.getD,hf]
  have ed:ds.getD i .none=d:=by simp[List.getD,hd']
  rw[ef,ed];refine⟨by rw[List.length_take,List.length_map];omega,_,rfl,rfl,_,_,rfl,_,_,rfl,rfl,_,rfl,_,rfl,f,d,rfl,hd.2 i f d hf hd',_,rfl,rfl,?_,_,_,rfl⟩;rw[List.take_succ,List.getElem?_map,hd'];rfl
 ·rintro acc τ M' ⟨rfl,rfl,y1,y2,rfl⟩;rw[hzl,List.take_length];refine⟨[.str x.1],ds.map shD,.d,.d,by simp;omega,.str x.1::ds.map shD,.inl rfl,by simp;omega,λ p hp=>?_,?_⟩
  ·rcases List.mem_cons.mp hp with rfl | hp
   ·exact mR (by omega)
   ·obtain⟨d,hm,rfl⟩:=List.mem_map.mp hp;obtain⟨f,_,hf⟩:=hd.mem hm;exact ac3 hf
  ·have e:(PyData.str x.1::ds.map shD).map dtx=x.1::ds.map htp:=by rw[List.map_cons,List.map_map];exact congrArg (x.1::·) (List.map_congr_left λ d _=>uH d)
   rw[e];exact k
def cb:SpD:=λ ws M Q=>∃ x∈qG,∃ ds:List PyData,ws=[.d (dd x.1 ds)]/\Hds x.2 ds/\Q (.d (.str (hTx x.1 ds))) M
theorem oR:Ln cb 1:=by rintro ws M Q ⟨x,_,ds,rfl,_⟩;rfl
theorem pF:∀ x∈qG,(Hf.deed∈x.2->x.1 = "deed")/\(Hf.yes∈x.2->x.1 = "twice"):=by decide +kernel
theorem pY:∀ x∈qG,(x.1 = "deed" -> x.2=[.deed])/\(x.1 = "twice" -> x.2=[.machine,.yes]):=by decide +kernel
theorem wg(z:Str)(ds:List PyData)(n:Nat)(hn:n<=ds.length):slW (.d (dd z ds)) none (some (n:Int))=some (.d (.tuple ((.str z::ds).take n))):=by
 have e3:HT.sIx (ds.length+1) (ds.length+1) (some (n:Int))=n:=by
  simp only[HT.sIx]
  split<;>omega
 have e4:HT.sIx (ds.length+1) 0 none=0:=rfl;simp only[slW,dd,ng,D.cutD,List.length_cons,e3,e4];simp;omega
theorem mF:Rd cb ma lO:=by
 rintro ws M Q ⟨x,hx,ds,rfl,hd,k⟩;have s16':=s16;obtain⟨hw,h3⟩:=d6 x hx;have hl:=hd.1;have w8:=(fB hw).2;refine⟨_,rfl,?_⟩;refine⟨_,rfl,_,_,rfl,vY,rfl,_,_,.d,.d,rfl,_,rfl,?_⟩;rw[aR];refine eI (λ h=>?_) (λ h=>?_)
 ·have h:=of_decide_eq_true h;have e2:=(pY x hx).1 h;rw[e2] at hd;obtain⟨d,rfl⟩:∃ d,ds=[d]:=List.length_eq_one_iff.mp hd.1;have g:Gd d:=by
   have:=hd.2 0 .deed d rfl rfl;cases this with
   | deed g=>exact g
   | num h=>cases h
   | word h=>rcases h with h | h<;>cases h
  obtain⟨ps,rfl,pl,pp,pe⟩:=aaW g;refine⟨_,rfl,few (by simp),_,rfl,_,_,rfl,iY (j:=1) rfl,rfl,_,_,rfl,rfl,by simp,by simp;omega,?_⟩;refine⟨_,rfl,_,_,rfl,vY,rfl,_,_,.d,.d,rfl,_,rfl,?_⟩;rw[aR,h,decide_eq_false (show ¬ ("deed" : Str) = "twice" by decide +kernel)];refine bR ⟨⟨_,rfl⟩,_,rfl,_,rfl,l9 (ps:=.str "deed"::ps) (by simp;omega) (λ p hp=>?_) ?_⟩
  ·rcases List.mem_cons.mp hp with rfl | hp
   ·exact mR (by decide +kernel)
   ·exact pp p hp
  ·have e:hTx x.1 [.tuple ps]=Txt.join " " ((PyData.str "deed"::ps).map dtx):=by
    unfold hTx;rw[h,eS,eS];show Str.join " " ([("deed" : Str)]++[Txt.join " " (ps.map dtx)])=Str.join " " ([("deed" : Str)]++ps.map dtx);rw[eS];refine i7 " " ?_ [("deed" : Str)];obtain⟨x',_,ds',e',_⟩:=g
    injection e' with e'
    rw[e'];simp
   rw[e] at k;exact k
 ·have h:=of_decide_eq_false h;refine⟨_,rfl,_,_,rfl,vY,rfl,_,_,.d,.d,rfl,_,rfl,?_⟩;rw[aR];refine eI (λ h'=>?_) (λ h'=>?_)
  ·have h':=of_decide_eq_true h';have e2:=(pY x hx).2 h';rw[e2] at hd;obtain⟨d1,d2,rfl⟩:∃ d1 d2,ds=[d1,d2]:=by
    match ds,hd.1 with
    | [a,b],_=>exact⟨a,b,rfl⟩
   have g1:=hd.2 0 .machine d1 rfl rfl;have g2:=hd.2 1 .yes d2 rfl rfl;obtain⟨b,rfl⟩:∃ b,d2=.bool b:=by
    cases g2 with
    | yes b=>exact⟨b,rfl⟩
    | num h=>cases h
    | word h=>rcases h with h | h<;>cases h
   have ht:slW (.d (dd x.1 [d1,.bool b])) none (some 2)=some (.d (.tuple [.str x.1,d1])):=wg x.1 [d1,.bool b] 2 (by simp);have hyn:ixW M (.d (.list [.str "no",.str "yes"])) (if b then 1 else 0)=some (.d (.str (if b then "yes" else "no"))):=by cases b<;>rfl
   refine⟨_,rfl,_,rfl,_,ht,rfl,_,rfl,few (by simp),_,rfl,_,_,rfl,iY (j:=2) rfl,rfl,.inr ⟨b,rfl,_,_,rfl,hyn,rfl,_,rfl,few (by simp),_,_,rfl,rfl,by simp,by simp;omega,?_⟩⟩;have hps:=ac3 g1;have hsd:shD d1=d1:=by
    cases g1 with
    | num h=>rfl
    | word h=>rfl
   rw[hsd] at hps;refine⟨⟨_,rfl⟩,_,rfl,_,rfl,l9 (ps:=[.str x.1,d1,.str (if b then "yes" else "no")]) (by simp) (λ p hp=>?_) ?_⟩
   ·simp only[List.mem_cons,List.not_mem_nil,or_false] at hp;rcases hp with rfl | rfl | rfl
    ·exact mR (by omega)
    ·exact hps
    ·exact mR (by cases b<;>decide +kernel)
   ·have e:hTx x.1 [d1,.bool b]=Txt.join " " ([PyData.str x.1,d1,.str (if b then "yes" else "no")].map dtx):=by
     unfold hTx;have:=uH d1;rw[hsd] at this;show Txt.join " " [x.1,htp d1,htp (.bool b)]=Txt.join " " [x.1,dtx d1,_];rw[this];rfl
    rw[e] at k;exact k
  ·have h':=of_decide_eq_false h';have pl:∀ d∈ds,shD d=d/\Ps d:=λ d hm=>by
    obtain⟨f,hf,hp⟩:=hd.mem hm;have hps:=ac3 hp;have e:shD d=d:=by
     cases hp with
     | num _=>rfl
     | yes b=>exact absurd ((pF x hx).2 hf) h'
     | deed _=>exact absurd ((pF x hx).1 hf) h
     | lets _=>rfl
     | word _ _=>rfl
    rw[e] at hps;exact⟨e,hps⟩
   refine⟨⟨_,rfl⟩,_,rfl,_,rfl,l9 (ps:=.str x.1::ds) (by simp;omega) (λ p hp=>?_) ?_⟩
   ·rcases List.mem_cons.mp hp with rfl | hp
    ·exact mR (by omega)
    ·exact(pl p hp).2
   ·have e:(PyData.str x.1::ds).map dtx=x.1::ds.map htp:=by rw[List.map_cons];refine congrArg (x.1::·) (List.map_congr_left λ d hm=>?_);rw[<- uH d,(pl d hm).1]
    rw[e];exact k
def refused:PyData:=.tuple [.str "refused",.none]
def ad7:Option PyData->PyData
 | some d=>.tuple [.str "told",d]
 | none=>refused
def told:PyData->PyData
 | .str z=>ad7 (ph z)
 | _=>refused
def Od(d:PyData):Prop:=jR d "str" = false\/∃ z:Str,d=.str z/\dU z=true/\z.length<=50000
theorem u6{d:PyData}(h:jR d "str" = false):told d=refused:=by
 cases d with
 | str z=>rw[vI] at h;cases h
 | _=>rfl
theorem gD{z:Str}(h:ph z=none):told (.str z)=refused:=by simp only[told,h,ad7]
theorem iO{z:Str}{d:PyData}(h:ph z=some d):told (.str z)=.tuple [.str "told",d]:=by simp only[told,h,ad7]
def cL:SpD:=λ ws M Q=>∃ d:PyData,ws=[.d d]/\Od d/\∀ M',Ext M M'->Q (.d (told d)) M'
theorem va:Ln cL 1:=by rintro ws M Q ⟨z,rfl,_⟩;rfl
theorem sC:Rd cL (uE bf) uM:=by
 rintro ws M Q ⟨d,rfl,hd,k⟩;refine⟨_,rfl,d,rfl,λ hty a ha=>?_,λ hty=>?_⟩
 ·have q:=k _ (Ext.new (o:=.exc aD []) ha);rw[u6 hty] at q;exact⟨aD,[],true,aC,rfl,dg ⟨_,rfl,a,aD,[],true,rfl,aC,rfl,true,rfl,dg ⟨_,rfl,a,aD,[],true,rfl,aC,rfl,true,rfl,dg ⟨_,rfl,a,aD,[],false,rfl,aC,rfl,false,rfl,dg ⟨_,rfl,few (by simp),q⟩⟩⟩⟩⟩
 rcases hd with hd | ⟨z,rfl,ha,hl⟩
 ·rw[hd] at hty;cases hty
 ·refine⟨z,rfl,ha,hl,λ d' hr=>?_,λ hr a hM=>?_⟩
  ·refine⟨_,rfl,few (by simp),?_⟩;rw[<- iO hr];exact k M (λ _ _ e=>e)
  ·have q:=k _ (Ext.new (o:=.exc aD []) hM);rw[gD hr] at q;exact⟨aD,[],true,aC,rfl,dg ⟨_,rfl,a,aD,[],true,rfl,aC,rfl,true,rfl,dg ⟨_,rfl,a,aD,[],true,rfl,aC,rfl,true,rfl,dg ⟨_,rfl,a,aD,[],false,rfl,aC,rfl,false,rfl,dg ⟨_,rfl,few (by simp),q⟩⟩⟩⟩⟩
theorem fA:okD 5 refused=true/\big refused<=1000000:=by
 constructor
 ·decide +kernel
 ·have e:("refused" : Str).length=7:=by decide +kernel
  simp[refused,big,yu,e]
theorem abo{d:PyData}(h:Gh d):okD 5 (.tuple [.str "told",d])=true/\big (.tuple [.str "told",d])<=1000000:=by
 obtain⟨a,b⟩:=h.ok;have e:("told" : Str).length=4:=by decide +kernel
 refine⟨?_,?_⟩
 ·simp only[okD,okA,a,Bool.and_true]
  decide +kernel
 ·simp only[big,yu,e];omega
theorem ze{d:PyData}:okD 5 (told d)=true/\big (told d)<=1000000:=by
 cases hty:jR d "str" with
 | false=>rw[u6 hty];exact fA
 | true =>
  cases d with
  | str z =>
   cases hr:ph z with
   | none=>rw[gD hr];exact fA
   | some d=>rw[iO hr];exact abo (qa hr)
  | _=>cases hty
theorem agC:∀ c<128,inS ⟨#[c]⟩ "abcdefghijklmnopqrstuvwxyz" = eF c:=by decide +kernel
def bZ:SpD:=λ ws M Q=>∃ y:Str,ws=[.d (.str y)]/\dU y=true/\y.length<=100000/\Q (.d (.bool (wd y))) M
theorem vp:Ln bZ 1:=by rintro ws M Q ⟨y,rfl,_⟩;rfl
theorem tZ:Rd bZ uo ud:=by
 rintro ws M Q ⟨y,rfl,ha,hl,k⟩;have s16':=s16;have hfit:tK (.d (.str y))=true:=decide_eq_true (by omega);refine⟨_,rfl,_,_,rfl,rfl,hfit,.inl ⟨_,_,rfl,rfl,_,rfl,?_⟩⟩
 by_cases h1:1<=y.length
 ·refine dr (decide_eq_true (show(1:Int)<=(y.length:Nat) by omega)) (.inl ⟨_,_,rfl,rfl,_,rfl,?_⟩)
  by_cases h2:y.length<=8
  ·refine dr (decide_eq_true (show((y.length:Nat):Int)<=8 by omega)) ⟨_,rfl,_,rfl,?_⟩;dsimp only;refine iw y.cps.toList (λ c=>W.d (.str ⟨#[c]⟩)) (λ c=>.bool (eF c)) (λ τ=>∃ x,τ=[x]) (by rw[str_len];omega) ⟨_,rfl⟩ (λ c hc τ hτ R h=>?_) (λ τ=>?_)
   ·obtain⟨x,rfl⟩:=hτ;have go:=h [some (.d (.str ⟨#[c]⟩))] ⟨_,rfl⟩;rw[<- agC c (cn ha c hc)] at go;exact⟨_,rfl,_,_,rfl,rfl,_,rfl,go⟩
   ·refine⟨y.cps.toList.map eF,by rw[List.map_map];rfl,?_⟩;have e:wd y=(y.cps.toList.map eF).all id:=by
     unfold wd;rw[decide_eq_true h1,decide_eq_true h2,List.all_map];rfl
    rw[e] at k;exact k
  ·have e:decide (((y.length:Nat):Int)<=8)=false:=decide_eq_false (by omega);refine dw e ?_;have e:wd y=false:=by
    unfold wd;rw[decide_eq_false h2];simp
   rw[e] at k;exact k
 ·have e:decide ((1:Int)<=(y.length:Nat))=false:=decide_eq_false (by omega);refine dw e ⟨_,rfl,dw rfl ?_⟩;have e:wd y=false:=by
   unfold wd;rw[decide_eq_false h1];simp
  rw[e] at k;exact k
def ahb(lo hi:Int)(y:Str):PyData:=if inB lo hi (rn y)=true then rn y else .none
def cw:SpD:=λ ws M Q=>∃ (y:Str) (lo hi:Int),ws=[.d (.str y),.d (.int lo),.d (.int hi)]/\dU y=true/\y.length<=100000/\Q (.d (ahb lo hi y)) M
theorem qP:Ln cw 3:=by rintro ws M Q ⟨y,lo,hi,rfl,_⟩;rfl
theorem oy:Rd cw nz jq:=by
 rintro ws M Q ⟨y,lo,hi,rfl,ha,hl,k⟩;have s16':=s16;have hfit:tK (.d (.str y))=true:=decide_eq_true (by omega);have no:dX y=false->Q (.d .none) M:=λ h=>by
  unfold ahb rn at k;rw[h] at k;exact k
 refine⟨_,rfl,_,_,rfl,rfl,hfit,.inl ⟨_,_,rfl,rfl,_,rfl,?_⟩⟩
 by_cases h1:1<=y.length
 ·refine dr (decide_eq_true (show(1:Int)<=(y.length:Nat) by omega)) (.inl ⟨_,_,rfl,rfl,_,rfl,?_⟩)
  by_cases h2:y.length<=10
  ·refine dw (by rw[decide_eq_true (show((y.length:Nat):Int)<=10 by omega)];rfl) ⟨_,rfl,_,rfl,?_⟩;dsimp only;refine iw y.cps.toList (λ c=>W.d (.str ⟨#[c]⟩)) (λ c=>.bool (rY c)) (λ τ=>∃ x,τ=[x]) (by rw[str_len];omega) ⟨_,rfl⟩ (λ c hc τ hτ R h=>?_) (λ τ=>?_)
   ·obtain⟨x,rfl⟩:=hτ;have go:=h [some (.d (.str ⟨#[c]⟩))] ⟨_,rfl⟩;rw[<- abW c (cn ha c hc)] at go;exact⟨_,rfl,_,_,rfl,rfl,_,rfl,go⟩
   ·refine⟨y.cps.toList.map rY,by rw[List.map_map];rfl,_,rfl,?_⟩;have eA:(y.cps.toList.map rY).all id=y.cps.toList.all rY:=by rw[List.all_map];rfl
    rw[eA];cases hA:y.cps.toList.all rY with
    | false =>
     refine dg (no ?_);unfold dX;rw[hA];simp
    | true =>
     refine bR ?_;obtain⟨c,r,ec⟩:∃ c r,y.cps.toList=c::r:=by
      cases hq:y.cps.toList with
      | nil =>
       have:=str_len y;rw[hq] at this;simp at this;omega
      | cons c r=>exact⟨c,r,rfl⟩
     have e0:ixW M (.d (.str y)) 0=some (.d (.str ⟨#[c]⟩)):=by show(atI y.cps.toList ((0:Nat):Int)).map (λ c=>W.d (.str ⟨#[c]⟩))=_;rw[sX (v:=c) (by rw[ec];rfl)];rfl
     have eh:y.cps.toList.headD 0=c:=by rw[ec];rfl
     refine⟨_,rfl,_,_,rfl,e0,hfit,_,_,.d,.d,rfl,_,rfl,?_⟩;rw[aR];have last:fm y=false->(bc (dIf (kZ (aE (eE lp lp (aj 1) (dCB hZ (ae (aj 0) (av))) (aj 2)))) (bK (dC (.d .none))) (bj)) <| bK (dCB hZ (ae (aj 0) (av)))) (EdQ Q) (dQ jq [.d (.str y),.d (.int lo),.d (.int hi)]) M:=λ hn=>by
      have hf:dX y=true:=by
       unfold dX;rw[hA,hn,decide_eq_true h1,decide_eq_true h2];rfl
      have er:rn y=.int ((NumText.digitsVal y.cps.toList:Nat):Int):=by
       unfold rn;rw[if_pos hf]
      have gi:∀ Q':QD,Q' (.d (rn y)) M->hZ [W.d (PyData.str y)] M Q':=λ Q' q=>by rw[er] at q;exact⟨_,_,rfl,PySem.intText_digits (kI hA) (by rw[ec];simp) (by omega),by omega,q⟩
      unfold ahb at k;rw[er] at k gi;refine⟨_,rfl,_,rfl,?_⟩;unfold av;dsimp only;refine gi _ (.inl ⟨_,_,rfl,rfl,_,rfl,?_⟩);have kT:lo<=((NumText.digitsVal y.cps.toList:Nat):Int)->((NumText.digitsVal y.cps.toList:Nat):Int)<=hi->Q (.d (.int ((NumText.digitsVal y.cps.toList:Nat):Int))) M:=λ a b=>by rw[if_pos (by simp[inB,btw,a,b])] at k;exact k
      have kF:¬ (lo<=((NumText.digitsVal y.cps.toList:Nat):Int)/\((NumText.digitsVal y.cps.toList:Nat):Int)<=hi)->Q (.d .none) M:=λ a=>by rw[if_neg λ h=>a (by simpa [inB,btw] using h)] at k;exact k
      by_cases a1:lo<=((NumText.digitsVal y.cps.toList:Nat):Int)
      ·refine dr (decide_eq_true a1) ⟨_,rfl,.inl ⟨_,_,rfl,rfl,_,rfl,?_⟩⟩
       by_cases a2:((NumText.digitsVal y.cps.toList:Nat):Int)<=hi
       ·rw[decide_eq_true a2];exact bR ⟨_,rfl,gi _ (kT a1 a2)⟩
       ·rw[decide_eq_false a2];exact dg (kF λ h=>a2 h.2)
      ·exact dw (decide_eq_false a1) ⟨_,rfl,dg (kF λ h=>a1 h.1)⟩
     have bad:fm y=true->Q (.d .none) M:=λ hn=>no (by unfold dX;rw[hn];simp);unfold fm at last bad;rw[eh] at last bad;refine eI (λ h=>?_) (λ h=>?_)
     ·refine⟨_,rfl,_,_,.d,.d,rfl,_,rfl,?_⟩;rw[aR];rw[h,Bool.true_and] at last bad;exact eI (λ h=>dg (bad h)) (λ h=>last h)
     ·rw[h,Bool.false_and] at last;exact bR (last rfl)
  ·refine dr (by rw[decide_eq_false (show ¬ ((y.length:Nat):Int)<=10 by omega)];rfl) (dg (no ?_));unfold dX;rw[decide_eq_false h2];simp
 ·refine dw (decide_eq_false (show ¬ (1:Int)<=(y.length:Nat) by omega)) ?_;refine⟨_,rfl,dr rfl (dg (no ?_))⟩;unfold dX;rw[decide_eq_false h1];simp
def pj:List (Str×List So):=[("rise",[.w]),("fall",[.w]),("cut",[.w]),("join",[.w]),("late",[.w,.n 0 2]),("twice",[.w,.y]),("fail",[.n 0 1000000000]),("ask",[.w,.w,.n 1 40]),("down",[]),("up",[]),("again",[])]
def abk:Cd->So
 | .w=>.w | .e=>.e | .s=>.n 1 9 | .c=>.n 0 6 | .k=>.n 0 5 | .t=>.n 0 2 | .h=>.n 1 3 | .p=>.n 0 7 | .a=>.n 1 20
def pw:List (Str×List So):=tabS.map λ x=>(x.1,x.2.2.map abk)
def d4(t:List (Str×List So)):List (Key×PyData):=t.map λ x=>(.inr x.1,.list (x.2.map soD))
def iq(t:List (Str×List So))(y:Str):Option (List So):=(t.find? λ x=>decide (x.1=y)).map (·.2)
theorem u3(t:List (Str×List So))(y:Str):mj (cD (d4 t)) (.inr y)=(iq t y).map λ fs=>W.d (.list (fs.map soD)):=by
 unfold mj cD d4 iq;rw[List.map_map,List.find?_map,Option.map_map,Option.map_map];congr 1;refine congrFun (congrArg _ (funext λ x=>?_)) _;show decide ((Sum.inr x.1:Key)=.inr y)=decide (x.1=y)
 by_cases h:x.1=y
 ·rw[decide_eq_true h,decide_eq_true (by rw[h])]
 ·rw[decide_eq_false h,decide_eq_false λ e=>h (Sum.inr.inj e)]
def bz:SpD:=λ ws M Q=>ws=[]/\∀ p M',M p=none->M' p=some (.dic (cD (d4 pj)))->(∀ q o,M q=some o->M' q=some o)->Q (.m p) M'
theorem sd:Ln bz 0:=by rintro ws M Q ⟨rfl,_⟩;rfl
theorem q0:Rd bz pI qS:=by
 rintro ws M Q ⟨rfl,k⟩;have s16':=s16;refine λ p hp=>?_;refine⟨_,rfl,few (by simp),_,rfl,few (by simp),_,rfl,few (by simp),_,rfl,few (by simp),_,rfl,few (by simp),_,rfl,few (by simp),_,rfl,few (by simp),aC,cD (d4 (pj.take 6)),rfl,by decide,by decide +kernel,?_⟩;rw[eP];refine⟨_,rfl,p,_,rfl,aC,λ q hq=>?_⟩;refine⟨_,_,rfl,rfl,⟨by decide,by decide,by decide⟩,_,rfl,few (by simp),_,rfl,few (by simp),_,rfl,few (by simp),_,rfl,few (by simp),_,rfl,few (by simp),_,rfl,few (by simp),_,rfl,few (by simp),rfl,d4 (pj.drop 6),rfl,by decide,by decide +kernel,?_⟩;refine⟨cD (d4 (pj.take 6)),d4 (pj.drop 6),aC,rfl,by decide +kernel,by show 6+5<=sizeLine;omega,?_⟩;rw[eP];refine⟨_,rfl,k p _ hp ?_ λ q o e=>?_⟩
 ·rw[aC];rfl
 ·rw[de (pT e hp)];exact e
def aN:SpD:=λ ws M Q=>ws=[]/\∀ p M',M p=none->M' p=some (.dic (cD (d4 pw)))->(∀ q o,M q=some o->M' q=some o)->Q (.m p) M'
theorem j8:Ln aN 0:=by rintro ws M Q ⟨rfl,_⟩;rfl
theorem jD:Rd aN h9 hJ:=by
 rintro ws M Q ⟨rfl,k⟩;have s16':=s16;refine⟨_,rfl,few (by simp),_,rfl,few (by simp),_,rfl,few (by simp),_,rfl,few (by simp),_,rfl,few (by simp),_,rfl,few (by simp),_,rfl,few (by simp),_,rfl,few (by simp),_,_,rfl,λ p hp=>?_⟩;refine⟨_,rfl,few (by simp),_,rfl,few (by simp),_,rfl,_,rfl,few (by simp),_,rfl,_,_,.d,.d,few (by simp),_,rfl,few (by simp),_,rfl,few (by simp),_,rfl,few (by simp),aC,cD (d4 (pw.take 4)),rfl,by decide,by decide +kernel,?_⟩;rw[eP];refine⟨_,rfl,p,_,rfl,aC,λ q hq=>?_⟩;refine⟨_,rfl,few (by simp),_,rfl,few (by simp),_,rfl,few (by simp),_,rfl,few (by simp),_,rfl,few (by simp),rfl,d4 ((pw.drop 4).take 4),rfl,by decide,by decide +kernel,?_⟩;refine⟨cD (d4 (pw.take 4)),d4 ((pw.drop 4).take 4),aC,rfl,by decide +kernel,by show 4+4<=sizeLine;omega,?_⟩;rw[eP];refine⟨_,rfl,p,_,rfl,aC,λ q hq=>?_⟩;refine⟨_,rfl,few (by simp),_,rfl,few (by simp),_,rfl,_,_,.d,.d,few (by simp),_,rfl,few (by simp),_,rfl,few (by simp),_,rfl,few (by simp),rfl,d4 (pw.drop 8),rfl,by decide,by decide +kernel,?_⟩;refine⟨cD (d4 (pw.take 4))++cD (d4 ((pw.drop 4).take 4)),d4 (pw.drop 8),aC,rfl,by decide +kernel,by show 8+4<=sizeLine;omega,?_⟩;rw[eP];refine⟨_,rfl,k p _ hp ?_ λ q o e=>?_⟩
 ·rw[aC];rfl
 ·rw[de (pT e hp)];exact e
def ae6:So->Bool
 | .n lo hi=>decide (0<=lo)&&(decide (lo<=hi)&&decide (hi<=1000000000))
 | _=>true
def aeA(t:List (Str×List So)):Prop:=∀ x∈t,wd x.1=true/\x.2.length<=6/\∀ s∈x.2,ae6 s=true
theorem aiQ:aeA pj:=by unfold aeA;decide +kernel
theorem aiW:aeA pw:=by unfold aeA;decide +kernel
theorem mV{t:List (Str×List So)}{y:Str}{fs:List So}(h:iq t y=some fs):(y,fs)∈t:=by
 unfold iq at h;cases hq:t.find? λ x=>decide (x.1=y) with
 | none=>rw[hq] at h;cases h
 | some x =>
  rw[hq] at h
  injection h with h
  have h2:=List.find?_some hq;have h3:=List.mem_of_find?_eq_some hq;have e:x.1=y:=of_decide_eq_true h2;subst e h;exact h3
def ie(t:List (Str×List So))(y0:Str)(ys:List Str):Option (List PyData):=(iq t y0).bind λ fs=>dP rS fs ys
def aiM(y0:Str):Option (List PyData)->PyData
 | none=>.none
 | some ds=>dd y0 ds
def sW:So->Bool
 | .w=>true
 | _=>false
def sE:So->Bool
 | .e=>true
 | _=>false
def sY:So->Bool
 | .y=>true
 | _=>false
theorem ahv{s:So}(h:ae6 s=true):okD 1 (soD s)=true:=by
 cases s with
 | n lo hi =>
  simp only[ae6,Bool.and_eq_true,decide_eq_true_eq] at h;simp only[soD,okD,okA,Bool.and_true,Bool.and_eq_true];exact⟨um (by omega) (by omega) 0,um (by omega) (by omega) 0⟩
 | w=>simp only[soD,okD];decide +kernel
 | e=>simp only[soD,okD];decide +kernel
 | y=>simp only[soD,okD];decide +kernel
theorem af3{s:So}(h:ae6 s=true):(eR (soD s) (.str "w")=true/\PyData.eqv (soD s) (.str "w")=sW s)/\(eR (soD s) (.str "e")=true/\PyData.eqv (soD s) (.str "e")=sE s)/\(eR (soD s) (.str "y")=true/\PyData.eqv (soD s) (.str "y")=sY s):=by have ok:∀ z:Str,dU z=true->eR (soD s) (.str z)=true:=λ z hz=>ug (k:=1) (by decide) (ahv h) (by simp only[okD];exact hz);refine⟨⟨ok _ (by decide +kernel),?_⟩,⟨ok _ (by decide +kernel),?_⟩,⟨ok _ (by decide +kernel),?_⟩⟩<;>cases s<;>first | (simp only[soD];rw[aR];decide +kernel) | rfl | simp[soD,PyData.eqv,sW,sE,sY]
theorem m9(y:Str):bY bT y=if y = "yes" then some (.bool true) else if y = "no" then some (.bool false) else none:=by
 unfold bY
 by_cases h1:y = "yes"
 ·rw[if_pos h1,h1];rfl
 ·rw[if_neg h1]
  by_cases h2:y = "no"
  ·rw[if_pos h2,h2];rfl
  ·rw[if_neg h2];simp only[bT,List.find?,decide_eq_false λ e=>h1 (Eq.symm e),decide_eq_false λ e=>h2 (Eq.symm e)];rfl
theorem adJ{y:Str}(hf:dX y=true){M:MH}{Q:QD}(q:Q (.d (rn y)) M):hZ [W.d (PyData.str y)] M Q:=by
 have er:rn y=.int ((NumText.digitsVal y.cps.toList:Nat):Int):=by
  unfold rn;rw[if_pos hf]
 rw[er] at q;unfold dX at hf;simp only[Bool.and_eq_true,decide_eq_true_eq] at hf;obtain⟨h1,h2,h3,_⟩:=hf;refine⟨_,_,rfl,PySem.intText_digits (kI h3) (λ e=>?_) (by omega),by omega,q⟩;have:=str_len y;rw[e] at this;simp at this;omega
theorem afo{y:Str}{i:Int}(h:rn y=.int i):dX y=true:=by
 unfold rn at h
 split at h
 ·assumption
 ·cases h
def bO:SpD:=λ ws M Q=>∃ (p:Addr) (t:List (Str×List So)) (y0:Str) (ys:List Str),ws=[.m p,.d (.list ((y0::ys).map PyData.str))]/\M p=some (.dic (cD (d4 t)))/\aeA t/\(∀ y∈y0::ys,y.length<=50000/\dU y=true)/\∀ M',Ext M M'->Q (.d (aiM y0 (ie t y0 ys))) M'
theorem sk:Ln bO 2:=by rintro ws M Q ⟨p,t,y0,ys,rfl,_⟩;rfl
theorem qr:Rd bO (qC bZ cw) rR:=by
 rintro ws M Q ⟨p,t,y0,ys,rfl,hM,ht,hpart,k⟩;have s16':=s16;have hp0:∀ M',ixW M' (.d (.list ((y0::ys).map PyData.str))) 0=some (.d (.str y0)):=λ M'=>uA (i:=0) (f:=PyData.str) rfl rfl;refine⟨_,rfl,.k hM,_,rfl,_,_,rfl,hp0 _,rfl,_,.k (k:=.inr y0) hM,?_⟩;rw[u3];unfold ie at k;cases hq:iq t y0 with
 | none =>
  rw[hq] at k;exact⟨_,rfl,rfl,_,rfl,dg (dg (k M λ _ _ e=>e))⟩
 | some fs =>
  rw[hq] at k;simp only[Option.bind_some] at k;obtain⟨hw,h6,hs⟩:=ht _ (mV hq);have h6:fs.length<=6:=h6;have hfm:(fs.map soD).length=fs.length:=by simp
  have hpl:((y0::ys).map PyData.str).length=ys.length+1:=by simp
  refine⟨_,rfl,rfl,_,rfl,bR ⟨_,rfl,_,_,rfl,rfl,rfl,_,rfl,_,_,rfl,rfl,rfl,_,_,rfl,rfl,_,_,.d,.d,rfl,_,rfl,?_⟩⟩
  by_cases hn:fs.length=ys.length
  ·have z2:(!PyData.eqv (.int ((fs.map soD).length:Int)) (.int ((((y0::ys).map PyData.str).length:Int)-1)))=false:=by rw[fV,decide_eq_true (by omega)];rfl
   refine dw (c:=!PyData.eqv (.int ((fs.map soD).length:Int)) (.int ((((y0::ys).map PyData.str).length:Int)-1))) z2 ?_;refine⟨_,rfl,_,_,rfl,hp0 _,rfl,few (by simp),λ a hMa=>?_⟩;have hc2:slW (.d (.list ((y0::ys).map PyData.str))) (some 1) none=some (.d (.list (ys.map PyData.str))):=by simp only[slW,List.map_cons,(gM _ _).1]
   refine⟨_,rfl,_,rfl,_,rfl,_,hc2,rfl,fs.map soD,ys.map PyData.str,rfl,?_⟩;refine⟨λ i τ M'=>Ext M M'/\∃ ds,dP rS (fs.take i) (ys.take i)=some ds/\ds.length<=i/\M' a=some (.lst (((.str y0:PyData)::ds).map W.d))/\∃ v4 v5,τ=[some (.m p),some (.d (.list ((y0::ys).map PyData.str))),some (.d (.list (fs.map soD))),some (.m a),v4,v5],⟨Ext.new hMa,[],rfl,Nat.le_refl _,aC,_,_,rfl⟩,?_,?_⟩
   ·rintro i w τ M' hw' ⟨xM,ds,hg,hdl,hm,v4,v5,rfl⟩;obtain⟨j,hj,rfl⟩:=jN hw';obtain⟨hlt,hj2⟩:=List.getElem?_eq_some_iff.mp hj;rw[List.getElem_range] at hj2;subst hj2;have hi:i<fs.length:=by simpa [hfm,hn] using hlt
    obtain⟨s,hsi⟩:∃ s,fs[i]? =some s:=⟨_,List.getElem?_eq_getElem hi⟩;obtain⟨y,hy⟩:∃ y,ys[i]? =some y:=⟨_,List.getElem?_eq_getElem (by omega)⟩;have ef:(fs.map soD).getD i .none=soD s:=by simp[List.getD,hsi]
    have ed:(ys.map PyData.str).getD i .none=.str y:=by simp[List.getD,hy]
    rw[ef,ed];obtain⟨p1,p2⟩:=hpart y (List.mem_cons_of_mem _ (List.mem_of_getElem? hy));have sok:=hs s (List.mem_of_getElem? hsi);obtain⟨⟨w1,w2⟩,⟨e1,e2⟩,y1,y2⟩:=af3 sok;have fin:∀ d,rS s y=some d->∃ ws',M' a=some (.lst ws')/\ws'.length<sizeLine/\Ext M (dR M' a (.lst (ws'++[.d d])))/\∃ ds,dP rS (fs.take (i+1)) (ys.take (i+1))=some ds/\ds.length<=i+1/\(dR M' a (.lst (ws'++[.d d]))) a=some (.lst (((.str y0:PyData)::ds).map W.d))/\∃ v4 v5,[some (.m p),some (.d (.list ((y0::ys).map PyData.str))),some (.d (.list (fs.map soD))),some (.m a),some (W.d (soD s)),some (W.d (.str y))]=[some (.m p),some (.d (.list ((y0::ys).map PyData.str))),some (.d (.list (fs.map soD))),some (.m a),v4,v5]:=λ d hd=>by
     refine⟨_,hm,by simp;omega,λ b o e=>?_,ds++[d],?_,by simp;omega,?_,_,_,rfl⟩
     ·rw[de (pT e hMa)];exact xM b o e
     ·rw[List.take_succ,List.take_succ,hsi,hy];exact rG hd hg
     ·rw[aC];simp
    have bad:rS s y=none->Q (.d .none) M':=λ h=>by have k':=k M' xM;rw[eK hsi hy h] at k';exact k'
    refine⟨_,rfl,rfl,_,_,rfl,_,_,rfl,rfl,_,rfl,_,_,.d,.d,w1,_,rfl,?_⟩;rw[w2];cases s with
    | w =>
     refine dg ⟨_,rfl,y,rfl,p2,by omega,_,rfl,?_⟩;cases hq:wd y with
     | true=>exact dg (dg ⟨_,rfl,a,_,rfl,hm,_,rfl,fin _ (by simp only[rS];rw[if_pos hq])⟩)
     | false =>
      refine bR ⟨_,rfl,_,_,.d,.d,e1,_,rfl,?_⟩;rw[e2];refine bR (bR ⟨_,rfl,_,_,.d,.d,y1,_,rfl,?_⟩);rw[y2];exact bR (bR ⟨_,rfl,_,_,_,rfl,.d,.tuple,_,rfl,bR (bR (bad (by simp only[rS];rw[if_neg (by rw[hq];decide)])))⟩)
    | e =>
     refine bR ⟨_,rfl,_,_,.d,.d,e1,_,rfl,?_⟩;rw[e2];refine dg ⟨_,rfl,_,rfl,few (by simp),y,sorts,rfl,.t,_,rfl,?_⟩;cases hq:tX y with
     | true=>exact dr hq ⟨_,rfl,a,_,rfl,hm,_,rfl,fin _ (by simp only[rS];rw[if_pos hq])⟩
     | false =>
      refine dw hq ⟨_,rfl,_,_,.d,.d,y1,_,rfl,?_⟩;rw[y2];exact bR (bR ⟨_,rfl,_,_,_,rfl,.d,.tuple,_,rfl,bR (bR (bad (by simp only[rS];rw[if_neg (by rw[hq];decide)])))⟩)
    | y =>
     refine bR ⟨_,rfl,_,_,.d,.d,e1,_,rfl,?_⟩;rw[e2];refine bR (bR ⟨_,rfl,_,_,.d,.d,y1,_,rfl,?_⟩);rw[y2];refine dg ⟨_,rfl,_,rfl,few (by simp),y,["yes", "no"],rfl,.t,_,rfl,?_⟩;have ey:=m9 y
     by_cases h1:y = "yes"
     ·rw[if_pos h1] at ey;refine dr (decide_eq_true (by rw[h1];simp)) ⟨_,rfl,a,_,rfl,hm,_,rfl,_,_,.d,.d,rfl,fin _ ?_⟩;rw[aR,decide_eq_true h1];exact ey
     ·rw[if_neg h1] at ey
      by_cases h2:y = "no"
      ·rw[if_pos h2] at ey;refine dr (decide_eq_true (by rw[h2];simp)) ⟨_,rfl,a,_,rfl,hm,_,rfl,_,_,.d,.d,rfl,fin _ ?_⟩;rw[aR,decide_eq_false h1];exact ey
      ·rw[if_neg h2] at ey;exact dw (decide_eq_false (by simp[h1,h2])) ⟨_,rfl,_,_,_,rfl,.d,.tuple,_,rfl,bR (bR (bad ey))⟩
    | n lo hi =>
     refine bR ⟨_,rfl,_,_,.d,.d,e1,_,rfl,?_⟩;rw[e2];refine bR (bR ⟨_,rfl,_,_,.d,.d,y1,_,rfl,?_⟩);rw[y2];refine bR (bR ⟨_,rfl,_,_,_,rfl,.d,.tuple,_,rfl,dg ?_⟩);have i0:ixW M' (.d (.tuple [.int lo,.int hi])) 0=some (.d (.int lo)):=rfl;have i1:ixW M' (.d (.tuple [.int lo,.int hi])) 1=some (.d (.int hi)):=rfl;refine⟨_,rfl,_,rfl,_,_,rfl,i0,rfl,_,rfl,_,_,rfl,i1,rfl,y,lo,hi,rfl,p2,by omega,rfl,_,rfl,?_⟩;unfold ahb;cases hq:inB lo hi (rn y) with
     | true =>
      rw[if_pos rfl];obtain⟨v,hv⟩:∃ v,rn y=.int v:=by
       cases hr:rn y with
       | int v=>exact⟨v,rfl⟩
       | _=>rw[hr] at hq;cases hq
      have f2:=fin (rn y) (by simp only[rS];rw[if_pos hq]);have hx:(true ^^ isNone (W.d (rn y)))=true:=by rw[hv];rfl
      refine dr hx ⟨_,rfl,a,_,rfl,hm,_,rfl,?_⟩;unfold av;dsimp only;exact adJ (afo hv) f2
     | false =>
      rw[if_neg Bool.false_ne_true];exact bR (bad (by simp only[rS];rw[if_neg (by rw[hq];decide)]))
   ·rintro τ M' ⟨xM,ds,hg,hdl,hm,v4,v5,rfl⟩;have hzl:(mi (fs.map soD) (ys.map PyData.str)).length=fs.length:=by simp[mi,hn]
    rw[hzl,List.take_length,List.take_of_length_le (by omega)] at hg;have k':=k M' xM;rw[hg] at k';exact⟨_,rfl,_,(.str y0::ds),rfl,.m hm,k'⟩
  ·have z2:(!PyData.eqv (.int ((fs.map soD).length:Int)) (.int ((((y0::ys).map PyData.str).length:Int)-1)))=true:=by rw[fV,decide_eq_false (by omega)];rfl
   have k':=k M λ _ _ e=>e;rw[fL hn] at k';exact dr (c:=!PyData.eqv (.int ((fs.map soD).length:Int)) (.int ((((y0::ys).map PyData.str).length:Int)-1))) z2 k'
theorem nI{α:Type}{r r':α->Str->Option PyData}:∀ {fs:List α} {ys:List Str},(∀ f∈fs,∀ y,r f y=r' f y)->dP r fs ys=dP r' fs ys
 | [],[],_=>rfl
 | [],_::_,_=>rfl
 | _::_,[],_=>rfl
 | f::fs,y::ys,h=>by simp only[dP];rw[h f (by simp) y,nI λ g hg=>h g (by simp[hg])]
theorem ag5:32 ∉ ("yes" : Str).cps.toList/\32 ∉ ("no" : Str).cps.toList:=by decide +kernel
theorem ahw{s:So}{y:Str}(h:32∈y.cps.toList):rS s y=none:=by
 cases s with
 | w=>simp only[rS];rw[if_neg λ e=>pf e h]
 | e=>simp only[rS];rw[if_neg (show ¬ tX y=true from λ e=>pf (uu y (of_decide_eq_true e)) h)]
 | y =>
  simp only[rS];rw[m9,if_neg (show ¬ y = "yes" from λ e=>ag5.1 (e ▸ h)),if_neg (show ¬ y = "no" from λ e=>ag5.2 (e ▸ h))]
 | n lo hi =>
  simp only[rS];have e:rn y=.none:=by
   unfold rn;rw[if_neg λ hf=>?_];unfold dX at hf;simp only[Bool.and_eq_true,decide_eq_true_eq] at hf;have:=kI hf.2.2.1 32 h;omega
  rw[e];rfl
def acN:Hf->So
 | .late=>.n 0 2 | .number=>.n 0 1000000000 | .many=>.n 1 40 | .yes=>.y | _=>.w
theorem ahG{f:Hf}(h1:f ≠ .letters)(h2:f ≠ .deed)(y:Str):rH f y=rS (acN f) y:=by
 cases f<;>first | rfl | exact absurd rfl h1 | exact absurd rfl h2
theorem adV:∀ x∈qG,x.1 ≠ "write" -> x.1 ≠ "deed" -> iq pj x.1=some (x.2.map acN)/\∀ f∈x.2,f ≠ .letters/\f ≠ .deed:=by decide +kernel
theorem acW:∀ x∈pj,(df x.1).isSome=true:=by decide +kernel
theorem xW:iq pj "write" = none/\iq pj "deed" = none:=by decide +kernel
theorem oM:df "write" = some [.word,.letters]/\df "deed" = some [.deed]:=by decide +kernel
theorem kO{n:Nat}{ys:List Str}(h:ys.length<=n):uV n ys=ys:=by
 cases n with
 | zero=>rfl
 | succ m =>
  show jh " " m ys=ys;unfold jh
  split
  ·rename_i hm
   obtain⟨l,hl⟩:∃ l,ys.drop m=[l]:=List.length_eq_one_iff.mp (by rw[List.length_drop];omega);have e:=List.take_append_drop m ys;rw[hl] at e ⊢;exact e
  ·rfl
theorem yD{y0:Str}{ys:List Str}(h1:y0 = "write" -> ys.length<=1)(h2:y0 = "deed" -> ys=[]):ip y0 ys=(ie pj y0 ys).map λ ds=>dd y0 ds:=by
 unfold ip ie;cases hq:df y0 with
 | none =>
  have e:iq pj y0=none:=by
   cases hr:iq pj y0 with
   | none=>rfl
   | some fs =>
    have:=acW _ (mV hr);rw[hq] at this;cases this
  rw[e];rfl
 | some fs =>
  show(dP rH fs (uV fs.length ys)).map (λ ds=>dd y0 ds)=_
  by_cases e1:y0 = "write"
  ·have hl:=h1 e1;rw[e1,oM.1] at hq
   injection hq with hq
   subst hq;rw[e1,xW.1,kO (by show ys.length<=2;omega),fL (by show 2≠ys.length;omega)];rfl
  by_cases e2:y0 = "deed"
  ·have hl:=h2 e2;rw[e2,oM.2] at hq
   injection hq with hq
   subst hq hl;rw[e2,xW.2];rfl
  obtain⟨a,b⟩:=adV (y0,fs) (jG hq) e1 e2;have a:iq pj y0=some (fs.map acN):=a;rw[a];show _=(dP rS (fs.map acN) ys).map (λ ds=>dd y0 ds);rw[km,nI (r:=rH) (r':=λ f=>rS (acN f)) λ f hf y=>ahG (b f hf).1 (b f hf).2 y]
  by_cases hn:ys.length<=fs.length
  ·rw[kO hn]
  ·rw[fL (ys:=ys) (by omega)];cases fs with
   | nil =>
    show(dP _ [] ys).map _=_;rw[fL (by show 0≠ys.length;have:¬ ys.length<=0:=hn;omega)]
   | cons f fs =>
    have hm:fs.length+1<ys.length:=by simpa using hn
    obtain⟨l1,l2,r,er⟩:∃ l1 l2 r,ys.drop fs.length=l1::l2::r:=by
     cases hd:ys.drop fs.length with
     | nil=>have:=congrArg List.length hd;rw[List.length_drop] at this;simp at this;omega
     | cons l1 r =>
      cases r with
      | nil=>have:=congrArg List.length hd;rw[List.length_drop] at this;simp at this;omega
      | cons l2 r=>exact⟨l1,l2,r,rfl⟩
    have ec:uV (f::fs).length ys=ys.take fs.length++[Str.join " " (l1::l2::r)]:=by show jh " " fs.length ys=_;unfold jh;rw[if_pos (by omega),er]
    have hj:(ys.take fs.length).length=fs.length:=by rw[List.length_take];omega
    obtain⟨g,hg⟩:∃ g,(f::fs)[fs.length]? =some g:=⟨_,List.getElem?_eq_getElem (by simp)⟩;rw[ec,eK (j:=fs.length) hg (y:=Str.join " " (l1::l2::r)) (by rw[List.getElem?_append_right (by omega),hj];simp) (ahw (by rw[uk,join_cons];simp))]
theorem yV{a b:Str}{r:List Str}:ip "write" (a::b::r)=if (ju (Str.join " " (b::r))&&wd a)=true then some (dd "write" [.str a,.str (Str.join " " (b::r))]) else none:=by
 unfold ip;rw[oM.1];show(dP rH [.word,.letters] (jh " " 1 (a::b::r))).map _=_;have e:jh " " 1 (a::b::r)=[a,Str.join " " (b::r)]:=by
  unfold jh;rw[if_pos (by simp)];rfl
 have h1:rH .word a=if wd a=true then some (.str a) else none:=rfl;have h2:∀ z,rH .letters z=if ju z=true then some (.str z) else none:=λ _=>rfl;rw[e];simp only[dP,h1,h2];cases wd a<;>cases ju (Str.join " " (b::r))<;>rfl
theorem zU{w0:Str}{ws:List Str}:ip "deed" (w0::ws)=(res (Str.join " " (w0::ws))).map λ d=>dd "deed" [d]:=by
 unfold ip;rw[oM.2];show(dP rH [.deed] (jh " " 0 (w0::ws))).map _=_;have e:jh " " 0 (w0::ws)=[Str.join " " (w0::ws)]:=by
  unfold jh;rw[if_pos (by simp)];rfl
 have h1:∀ z,rH .deed z=res z:=λ _=>rfl;rw[e];simp only[dP,h1];cases res (Str.join " " (w0::ws))<;>rfl
theorem tG(y:Str):iq pw y=(vU y).map λ x=>x.2.2.map abk:=by
 unfold iq pw vU;rw[List.find?_map,Option.map_map];rfl
theorem xV{c:Cd}(h1:c ≠ .w)(h2:c ≠ .e):abk c=.n (cdL c) (cdH c):=by
 cases c<;>first | rfl | exact absurd rfl h1 | exact absurd rfl h2
theorem agL(c:Cd)(y:Str):rS (abk c) y=if pG c (rp c y)=true then some (rp c y) else none:=by
 by_cases h1:c=.w
 ·subst h1;rfl
 by_cases h2:c=.e
 ·subst h2;rfl
 have e:rp c y=rn y:=by
  unfold rp;rw[decide_eq_true h1,decide_eq_true h2,Bool.and_self,if_pos rfl]
 rw[xV h1 h2,e];unfold pG;rw[if_neg h1,if_neg h2];rfl
def jb(x:Str×Str×List Cd)(ds:List PyData):Bool:=!decide (Cd.k∈x.2.2) || oU x ds
theorem adW{w0:Str}{ws:List Str}(hf:∀ p∈w0::ws,32 ∉ p.cps.toList):(vU w0=none->res (Str.join " " (w0::ws))=none/\ie pw w0 ws=none) /\
  ∀ x,vU w0=some x->res (Str.join " " (w0::ws))=(ie pw w0 ws).bind λ ds=>if jb x ds=true then some (dd w0 ds) else none:=by
 have es:Txt.split (Str.join " " (w0::ws)) " " = w0::ws:=by rw[<- eS];exact fw (by simp) hf
 constructor
 ·intro h;unfold res ie;rw[es,tG,h];simp only[h];exact⟨trivial,rfl⟩
 ·intro x h;obtain⟨hx,ey⟩:=iZ h;unfold res ie;rw[es,tG,h];simp only[h,Option.map_some,Option.bind_some];rw[km]
  by_cases hn:ws.length=x.2.2.length
  ·have hA:∀ j<x.2.2.length,∃ c y,x.2.2[j]? =some c/\ws[j]? =some y/\pJ x (rps x.2.2 ws) j=pG c (rp c y):=λ j hj=>by refine⟨x.2.2[j],ws[j]'(by omega),List.getElem?_eq_getElem hj,List.getElem?_eq_getElem (by omega),?_⟩;simp only[pJ,List.getD,List.getElem?_eq_getElem hj,kG (List.getElem?_eq_getElem hj) (List.getElem?_eq_getElem (show j<ws.length by omega)),Option.getD_some]
   cases hall:(List.range x.2.2.length).all (pJ x (rps x.2.2 ws)) with
   | true =>
    have hg:dP (λ b=>rS (abk b)) x.2.2 ws=some (rps x.2.2 ws):=kN (g:=rp) (by omega) λ j c y h1 h2=>by have hj:=(List.getElem?_eq_some_iff.mp h1).1;obtain⟨c',y',a,b,e⟩:=hA j hj;rw[h1] at a;rw[h2] at b;cases a;cases b;have:=List.all_eq_true.mp hall j (List.mem_range.mpr hj);rw[e] at this;rw[agL,if_pos this]
    rw[hg];show _=if jb x (rps x.2.2 ws)=true then some (dd w0 (rps x.2.2 ws)) else none;have e:iS x (rps x.2.2 ws)=jb x (rps x.2.2 ws):=by
     unfold iS jb;rw[hall,Bool.true_and]
    rw[e,ey];cases jb x (rps x.2.2 ws) with
    | true=>rw[if_pos ⟨hn,rfl⟩,if_pos rfl]
    | false=>rw[if_neg λ h=>Bool.false_ne_true h.2,if_neg Bool.false_ne_true]
   | false =>
    obtain⟨j,hj,hb⟩:=List.all_eq_false.mp hall;have hj:=List.mem_range.mp hj;obtain⟨c,y,h1,h2,e⟩:=hA j hj;rw[e] at hb;have hd:iS x (rps x.2.2 ws)=false:=by
     unfold iS;rw[hall];rfl
    rw[eK h1 h2 (by rw[agL,if_neg hb]),if_neg λ h=>by rw[hd] at h;exact Bool.false_ne_true h.2];rfl
  ·rw[fL (Ne.symm hn),if_neg λ h=>hn h.1];rfl
def atW:List (Key×W):=[(.inr "wish",.d (.int 3)),(.inr "copies",.d (.int 2)),(.inr "rule",.d (.int 4))]
theorem abr:∀ x∈tabS,(mj atW (.inr x.1)).getD (.d (.int 0))=.d (.int (if Cd.k∈x.2.2 then ((kC x+1:Nat):Int) else 0)):=by intro x hx;simp only[tabS,List.mem_cons,List.not_mem_nil,or_false] at hx;rcases hx with rfl | rfl | rfl | rfl | rfl | rfl | rfl | rfl | rfl | rfl | rfl | rfl<;>rfl
theorem aeM{x:Str×Str×List Cd}{ws:List Str}{ds:List PyData}(hx:x∈tabS)(h:dP (λ b=>rS (abk b)) x.2.2 ws=some ds)(hk:Cd.k∈x.2.2):∃ a i:Int,ds[kC x]? =some (.int a)/\ds[kK x]? =some (.int i)/\kC x+1=kK x:=by
 obtain⟨_,_,c1,c2,c3⟩:=k_is x hx hk;obtain⟨l1,l2,hat⟩:=tM h;have num:∀ (j:Nat) c,x.2.2[j]? =some c->c ≠ .w->c ≠ .e->∃ i:Int,ds[j]? =some (.int i):=λ j c hc n1 n2=>by have hj:=(List.getElem?_eq_some_iff.mp hc).1;have hy:ws[j]? =some (ws[j]'(by omega)):=List.getElem?_eq_getElem (by omega);have hd:ds[j]? =some (ds[j]'(by omega)):=List.getElem?_eq_getElem (by omega);have:=hat j c _ _ hc hy hd;simp only[xV n1 n2] at this;obtain⟨i,e,_⟩:=aha this;exact⟨i,by rw[hd,e]⟩
 obtain⟨a,ha⟩:=num _ _ c1 (by decide) (by decide);obtain⟨i,hi⟩:=num _ _ c2 (by decide) (by decide);exact⟨a,i,ha,hi,c3⟩
def cS:SpD:=λ ws M Q=>∃ z:Str,ws=[.d (.str z)]/\dU z=true/\z.length<=50000/\∀ M',Ext M M'->Q (.d ((ph z).getD .none)) M'
theorem tN:Ln cS 1:=by rintro ws M Q ⟨z,rfl,_⟩;rfl
theorem aav(y0:Str)(o:Option (List PyData)):((o.map λ ds=>dd y0 ds).getD .none)=aiM y0 o:=by cases o<;>rfl
theorem rM:Rd cS (qB bZ bO aN bz) pX:=by
 rintro ws M Q ⟨z,rfl,ha,hzl,k⟩;have s16':=s16;refine⟨_,rfl,z,rfl, " ",rfl,by decide +kernel,by omega,?_⟩;obtain⟨y0,ys,es⟩:=dA z;rw[l6 es] at k;have hpart:∀ p∈y0::ys,p.length<=z.length/\dU p=true:=λ p hp=>by have:=part_of (z:=z) (p:=p) (c:=32) (by rw[<- uk,es];exact hp);exact⟨this.1,this.2 ha⟩
 have hfree:∀ p∈y0::ys,32 ∉ p.cps.toList:=λ p hp=>StrLaws.split_free z 32 p (by rw[<- uk,es];exact hp);rw[es];have hp0:∀ M',ixW M' (.d (.list ((y0::ys).map PyData.str))) 0=some (.d (.str y0)):=λ M'=>uA (i:=0) (f:=PyData.str) rfl rfl;have hpl:((y0::ys).map PyData.str).length=ys.length+1:=by simp
 have plain:(y0 = "write" -> ys.length<=1)->(y0 = "deed" -> ys=[])->∀ (τ:DS),τ[1]? =some (some (W.d (.list ((y0::ys).map PyData.str))))->bK (aW bO (ae (aW bz av) (ae (aj 1) (av)))) (EdQ Q) τ M:=λ h1 h2 τ hτ=>by
  rw[yD h1 h2] at k;refine⟨rfl,λ p M1 hp hM x1=>⟨_,hτ,p,pj,y0,ys,rfl,hM,aiQ,λ y hy=>?_,λ M2 x2=>?_⟩⟩
  ·obtain⟨a,b⟩:=hpart y hy;exact⟨by omega,b⟩
  ·have k':=k M2 (Ext.trans (show Ext M M1 from x1) x2);rw[aav] at k';exact k'
 refine⟨_,rfl,_,_,rfl,hp0 _,rfl,_,_,.d,.d,rfl,_,rfl,?_⟩;rw[aR];have deed:(y0 = "write" -> ys.length<=1)->∀ (τ:DS),τ.length=6->τ[1]? =some (some (W.d (.list ((y0::ys).map PyData.str))))->(bc (dIf (qb (aE (dOp cG (dOp cH (aj 1) (dI 0)) (dS "deed"))) (aE (dOp uL (dCB eO (ae (aj 1) (av))) (dI 1))))
   (bc (cE (aW bO (ae (aW aN av) (ae (dSl (aj 1) (cX (dI 1)) (bt)) (av)))) (gN 4)) <|
   bc (dIf (aE (dOp (mn false) (aj 4) (dC (.d .none))))
    (bK (dC (.d .none)))
    (bj)) <|
   bc (cE (xq (lB [(dS "wish",dI 3),(dS "copies",dI 2),(dS "rule",dI 4)]) (dOp cH (aj 4) (dI 0)) (dI 0)) (gN 5)) <|
   bc (dIf (qb (aE (dOp uL (aj 5) (dI 0))) (aE (dOp uL (dOp cH (aj 4) (dOp cu (aj 5) (dI 1))) (dCB ql (ae (dI 0) (ae (dOp sj (dOp cH (aj 4) (aj 5)) (dI 1)) (av)))))))
    (bK (dC (.d .none)))
    (bj)) <|
   bK (eX (ae (dS "deed") (ae (aj 4) (av)))))
   (bj)) <|
  bK (aW bO (ae (aW bz av) (ae (aj 1) (av))))) (EdQ Q) τ M:=λ hw τ h6 hτ=>by
  match τ,h6 with
  | [v0,v1,v2,v3,v4,v5],_ =>
  simp only[List.getElem?_cons_succ,List.getElem?_cons_zero,Option.some.injEq] at hτ;subst hτ;refine⟨_,rfl,_,_,rfl,hp0 _,rfl,_,_,.d,.d,rfl,_,rfl,?_⟩;rw[aR]
  by_cases hd:y0 = "deed"
  ·rw[decide_eq_true hd];refine dg ⟨_,rfl,_,_,rfl,rfl,rfl,_,_,rfl,rfl,_,rfl,?_⟩;cases ys with
   | nil=>exact bR (plain hw (λ _=>rfl) _ rfl)
   | cons w0 ws =>
    refine dr (decide_eq_true (show((((y0::w0::ws).map PyData.str).length:Nat):Int) > 1 by simp;omega)) ?_;have hc2:slW (.d (.list ((y0::w0::ws).map PyData.str))) (some 1) none=some (.d (.list ((w0::ws).map PyData.str))):=by rw[List.map_cons];simp only[slW,(gM _ _).1]
    refine⟨rfl,λ p M1 hp hM x1=>⟨_,rfl,_,rfl,_,hc2,rfl,p,pw,w0,ws,rfl,hM,aiW,λ y hy=>?_,λ M2 x2=>?_⟩⟩
    ·obtain⟨a,b⟩:=hpart y (List.mem_cons_of_mem _ hy);exact⟨by omega,b⟩
    have xx:Ext M M2:=Ext.trans (show Ext M M1 from x1) x2;subst hd;rw[zU] at k;obtain⟨r1,r2⟩:=adW (w0:=w0) (ws:=ws) λ p hp=>hfree p (List.mem_cons_of_mem _ hp);cases hx:vU w0 with
    | none =>
     obtain⟨a,b⟩:=r1 hx;rw[a] at k;rw[b];exact⟨_,rfl,rfl,_,rfl,dg (k M2 xx)⟩
    | some x =>
     have hr:=r2 x hx;rw[hr] at k;obtain⟨hxm,ey⟩:=iZ hx;cases hl:ie pw w0 ws with
     | none =>
      rw[hl] at k;exact⟨_,rfl,rfl,_,rfl,dg (k M2 xx)⟩
     | some ds =>
      rw[hl] at k;simp only[Option.bind_some] at k;refine⟨_,rfl,rfl,_,rfl,bR ?_⟩;refine λ q hq=>⟨aC,atW,rfl,by decide,by decide +kernel,?_⟩;rw[eP];refine⟨.k aC,_,rfl,_,_,rfl,vY,rfl,_,.k (k:=.inr w0) aC,?_⟩;have e3:(mj atW (.inr w0)).getD (.d (.int 0))=.d (.int (if Cd.k∈x.2.2 then ((kC x+1:Nat):Int) else 0)):=by rw[<- ey];exact abr x hxm
      rw[e3];have hg:dP (λ b=>rS (abk b)) x.2.2 ws=some ds:=by
       unfold ie at hl;rw[tG,hx] at hl;simp only[Option.map_some,Option.bind_some] at hl;rw[km] at hl;exact hl
      have k2:=k (dR M2 q (.dic atW)) (Ext.trans xx (Ext.new hq));refine⟨_,rfl,_,_,rfl,rfl,_,rfl,?_⟩
      by_cases hk:Cd.k∈x.2.2
      ·obtain⟨a,i,ha',hi',hkk⟩:=aeM hxm hg hk;rw[if_pos hk];have i1:ixW (dR M2 q (.dic atW)) (.d (dd w0 ds)) (((kC x+1:Nat):Int)+1)=some (.d (.int i)):=iY (j:=kC x+1+1) (by rw[hkk];simpa using hi');have i2:ixW (dR M2 q (.dic atW)) (.d (dd w0 ds)) ((kC x+1:Nat):Int)=some (.d (.int a)):=iY (j:=kC x+1) (by simpa using ha');refine dr (decide_eq_true (show((kC x+1:Nat):Int) > 0 by omega)) ?_;refine⟨_,rfl,_,rfl,.inl ⟨_,_,rfl,rfl,_,_,rfl,i1,rfl,_,rfl,_,rfl,_,_,rfl,i2,rfl,_,_,rfl,rfl,_,_,rfl,_,_,rfl,rfl,_,rfl,?_⟩⟩;have ek:jb x ds=leK a i:=by
        unfold jb;rw[decide_eq_true hk];simp only[oU,List.getD,ha',hi',Option.getD_some];rfl
       rw[ek] at k2;unfold leK at k2
       by_cases hle:i<=if 0 > a-1 then 0 else a-1
       ·rw[decide_eq_true hle,if_pos rfl] at k2;refine dw (decide_eq_false (show ¬ i > if a-1 > 0 then a-1 else 0 by split<;>split at hle<;>omega)) ⟨_,rfl,_,rfl,few (by simp),k2⟩
       ·rw[decide_eq_false hle,if_neg Bool.false_ne_true] at k2;exact dr (decide_eq_true (show i > if a-1 > 0 then a-1 else 0 by split<;>split at hle<;>omega)) k2
      ·rw[if_neg hk];have ek:jb x ds=true:=by
        unfold jb;rw[decide_eq_false hk];rfl
       rw[ek,if_pos rfl] at k2;exact bR (bR ⟨_,rfl,_,rfl,few (by simp),k2⟩)
  ·rw[decide_eq_false hd];exact bR (bR (plain hw (λ e=>absurd e hd) _ rfl))
 by_cases hw:y0 = "write"
 ·rw[decide_eq_true hw];refine dg ⟨_,rfl,_,_,rfl,rfl,rfl,_,_,rfl,rfl,_,rfl,?_⟩
  by_cases hl:ys.length<=1
  ·refine dw (decide_eq_false (show ¬ ((((y0::ys).map PyData.str).length:Nat):Int) > 2 by omega)) ?_;exact deed (λ _=>hl) _ rfl rfl
  ·refine dr (decide_eq_true (show((((y0::ys).map PyData.str).length:Nat):Int) > 2 by omega)) ?_;obtain⟨a,b,r,rfl⟩:∃ a b r,ys=a::b::r:=by
    match ys,hl with
    | a::b::r,_=>exact⟨a,b,r,rfl⟩
    | [_],h=>simp at h
    | [],h=>simp at h
   subst hw;rw[yV] at k;have hc3:slW (.d (.list ((("write" : Str)::a::b::r).map PyData.str))) (some 2) none=some (.d (.list ((b::r).map PyData.str))):=by
    have e1:HT.sIx (r.length+1+1+1) 0 (some 2)=2:=by
     simp only[HT.sIx]
     split<;>omega
    have e2:HT.sIx (r.length+1+1+1) (r.length+1+1+1) none=r.length+1+1+1:=rfl;simp only[slW,List.map_cons,D.cutD,List.length_cons,List.length_map,e1,e2];simp[List.take_of_length_le]
   have ej:Txt.join " " (b::r)=Str.join " " (b::r):=eS _;obtain⟨m1,m2⟩:(Str.join " " (b::r)).length<=z.length/\dU (Str.join " " (b::r))=true:=by have e:=StrLaws.join_split z " ";rw[es,show(("write" : Str)::a::b::r)=[("write" : Str),a]++(b::r) from rfl,<- i7 " " (by simp) [("write" : Str),a],uk] at e;obtain⟨h1,h2⟩:=kl (c:=32) (l:=[("write" : Str),a]++[Str.join ⟨#[32]⟩ (b::r)]) (p:=Str.join ⟨#[32]⟩ (b::r)) (by simp);rw[e] at h1 h2;rw[uk];exact⟨h1,lC λ x hx=>cn ha x (h2 x hx)⟩
   have hsz:((b::r).map (·.length)).sum+(b::r).length * (" " : Str).length<=16777216:=by
    have hs:=aam (n:=50000) (b::r) λ y hy=>by have:=(hpart y (List.mem_cons_of_mem _ (List.mem_cons_of_mem _ hy))).1;omega
    have hw':=split_weight z " " (by decide +kernel);rw[es] at hw';have e1:(" " : Str).length=1:=by decide +kernel
    rw[e1];simp only[List.map_cons,List.sum_cons,List.length_cons] at hw' ⊢;omega
   refine⟨⟨_,rfl⟩,_,rfl,_,rfl,_,hc3,rfl, " ",b::r,rfl,rfl,hsz,?_⟩;rw[ej];generalize Str.join " " (b::r)=lt at m1 m2 k ⊢;have hfit:tK (.d (.str lt))=true:=decide_eq_true (by omega);have ka:ixW M (.d (.list ((("write" : Str)::a::b::r).map PyData.str))) 1=some (.d (.str a)):=uA (i:=1) (f:=PyData.str) rfl rfl;obtain⟨q1,q2⟩:=hpart a (by simp);have last:∀ g:Bool,g=ju lt->∀ v0 v4 v5:Option W,bK (abN (qb (aE (aj 3)) (aE (aW bZ (ae (dOp cH (aj 1) (dI 1)) (av))))) (eX (ae (dS "write") (ae (dOp cH (aj 1) (dI 1)) (ae (aj 2) (av))))) (dC (.d .none))) (EdQ Q) [v0,some (.d (.list ((("write" : Str)::a::b::r).map PyData.str))),some (.d (.str lt)),some (.d (.bool g)),v4,v5] M:=λ g hg v0 v4 v5=>by
    have k':=k M λ _ _ e=>e;rw[<- hg] at k';refine⟨_,rfl,_,rfl,?_⟩;cases g with
    | true =>
     refine dg ⟨_,rfl,_,_,rfl,ka,rfl,a,rfl,q2,by omega,_,rfl,?_⟩;cases hwa:wd a with
     | true =>
      rw[hwa] at k';exact dg ⟨_,rfl,_,_,rfl,ka,rfl,_,rfl,_,rfl,few (by simp),k'⟩
     | false =>
      rw[hwa] at k';exact bR k'
    | false=>exact bR (bR k')
   refine⟨_,rfl,_,_,rfl,rfl,hfit,.inl ⟨_,_,rfl,rfl,_,rfl,?_⟩⟩
   by_cases h12:lt.length<=12
   ·refine dr (decide_eq_true (show((lt.length:Nat):Int)<=12 by omega)) ⟨_,rfl,_,rfl,?_⟩;dsimp only;refine iw lt.cps.toList (λ c=>W.d (.str ⟨#[c]⟩)) (λ c=>.bool (prB c)) (λ τ=>∃ x,τ=[x]) (by rw[str_len];omega) ⟨_,rfl⟩ (λ c hc τ hτ R h=>?_) (λ τ=>?_)
    ·obtain⟨x,rfl⟩:=hτ;obtain⟨q1,q2⟩:=agv c;have go:=h [some (.d (.str ⟨#[c]⟩))] ⟨_,rfl⟩;unfold prB at go;refine⟨_,rfl,.inr ⟨_,_,rfl,rfl,_,rfl,?_⟩⟩;refine eI (λ h0=>?_) (λ h0=>?_)
     ·rw[q1.symm.trans h0,Bool.true_and,<- q2] at go;exact .inr ⟨_,_,rfl,rfl,_,rfl,go⟩
     ·rw[q1.symm.trans h0,Bool.false_and] at go;exact⟨_,rfl,go⟩
    ·refine⟨lt.cps.toList.map prB,by rw[List.map_map];rfl,?_⟩;have e:ju lt=(lt.cps.toList.map prB).all id:=by
      unfold ju;rw[decide_eq_true h12,List.all_map];rfl
     exact last _ e.symm _ _ _
   ·have e:ju lt=false:=by
     unfold ju;rw[decide_eq_false h12];rfl
    have e2:decide (((lt.length:Nat):Int)<=12)=false:=decide_eq_false (by omega);refine dw e2 ?_;exact last _ e.symm _ _ _
 ·rw[decide_eq_false hw];exact bR (bR (deed (λ e=>absurd e hw) _ rfl rfl))
def eV:SpD:=λ ws M Q=>∃ z:Str,ws=[.d (.str z)]/\dU z=true/\z.length<=50000/\∀ M',Ext M M'->Q (.d (told (.str z))) M'
theorem wX:Ln eV 1:=by rintro ws M Q ⟨z,rfl,_⟩;rfl
theorem vb:Rd eV (yB cS) yX:=by
 rintro ws M Q ⟨z,rfl,ha,hl,k⟩;refine⟨_,rfl,z,rfl,ha,hl,λ M1 x1=>?_⟩;have k':=k M1 x1;cases hr:ph z with
 | none =>
  rw[gD hr] at k';exact⟨_,rfl,rfl,_,rfl,dg ⟨_,rfl,few (by simp),k'⟩⟩
 | some d =>
  rw[iO hr] at k';have hn:isNone (.d d)=false:=by obtain⟨x,_,ds,rfl,_⟩:=qa hr;rfl
  have e:(false ^^ isNone (W.d ((some d).getD .none)))=false:=by rw[Option.getD_some,hn];rfl
  exact⟨_,rfl,rfl,_,rfl,dw e ⟨_,rfl,_,rfl,few (by simp),k'⟩⟩
inductive Dr:So->PyData->Prop
 | w {y:Str} (h:wd y=true):Dr .w (.str y)
 | e {y:Str} (h:y∈sorts):Dr .e (.str y)
 | y (b:Bool):Dr .y (.bool b)
 | n {lo hi i:Int} (h0:lo<=i) (h1:i<=hi):Dr (.n lo hi) (.int i)
def Drs(ss:List So)(ds:List PyData):Prop:=∀ (j:Nat) s d,ss[j]? =some s->ds[j]? =some d->Dr s d
theorem Drs.snoc{ss:List So}{ds:List PyData}{s:So}{d:PyData}(h:Drs ss ds)(hs:ss[ds.length]? =some s)(hd:Dr s d):Drs ss (ds++[d]):=λ j s' d' e1 e2=>by
 rcases adX e2 with ⟨_,e⟩ | ⟨rfl,rfl⟩
 ·exact h j s' d' e1 e
 ·rw[hs] at e1;cases e1;exact hd
structure TbD(t:List (Str×List So)):Prop where
 ok:aeA t
 self:∀ x∈t,iq t x.1=some x.2
 pos:1<=t.length
 few:t.length<=20
theorem ajv:TbD pj:=⟨aiQ,by decide +kernel,by decide,by decide⟩
theorem ajq:TbD pw:=⟨aiW,by decide +kernel,by decide,by decide⟩
theorem xK(t:List (Str×List So)):(cD (d4 t)).map (·.1)=(t.map (·.1)).map Sum.inr:=by
 unfold cD d4;simp only[List.map_map];rfl
def cA:SpD:=λ ws M Q=>∃ (p d:Addr) (t:List (Str×List So)),ws=[.m p,.m d]/\Bag M p/\d≠p/\M d=some (.dic (cD (d4 t)))/\TbD t/\∀ x∈t,∀ (ds:List PyData) M',ds.length=x.2.length->Drs x.2 ds->Bag M' p->Q (.d (dd x.1 ds)) M'
theorem tR:Ln cA 2:=by rintro ws M Q ⟨p,d,t,rfl,_⟩;rfl
theorem rC:Rd cA (pR aA aG) qI:=by
 rintro ws M Q ⟨p,d,t,rfl,hb,dp,hM,ht,k⟩;have s16':=s16;have hfew:=ht.few;have hpos:=ht.pos;refine⟨_,rfl,d,_,t.map (·.1),rfl,hM,xK t,by rw[List.length_map];omega,λ zs' perm _ l hl=>⟨l,zs'.map PyData.str,rfl,by rw[aC,ag8],?_⟩⟩;have x2:Ext M (zv (dR M l (.lst (qJ zs'))) l):=sealed hl;generalize zv (dR M l (.lst (qJ zs'))) l=M2 at x2;have hkl:(cD (d4 t)).length=t.length:=by simp[cD,d4]
 refine⟨_,rfl,_,rfl,d,_,rfl,x2 _ _ hM,p,_,rfl,Ext.bag x2 hb,by omega,by omega,λ r M3 r0 r1 b3 f3=>?_⟩;have hlz:zs'.length=t.length:=by rw[perm.length_eq,List.length_map]
 obtain⟨z,ez,hz⟩:=gB (M:=M3) (zs:=zs') r0 (by omega);obtain⟨x,hx,rfl⟩:=List.mem_map.mp (perm.mem_iff.mp hz);obtain⟨hw,h6,hs⟩:=ht.ok x hx;refine⟨r,_,rfl,ez,rfl,?_⟩;refine⟨_,rfl,few (by simp),λ a ha=>?_⟩;have hM3:M3 d=some (.dic (cD (d4 t))):=by rw[f3 d dp];exact x2 _ _ hM
 have pa:p≠a:=λ e=>by obtain⟨o,ho⟩:=abS b3;rw[e,ha] at ho;cases ho
 have hget:mj (cD (d4 t)) (.inr x.1)=some (.d (.list (x.2.map soD))):=by rw[u3,ht.self x hx];rfl
 refine⟨_,rfl,_,rfl,d,_,.inr x.1,_,rfl,.inl (yt hM3 ha),rfl,hget,_,rfl,?_⟩;refine⟨λ i τ M'=>∃ ds,Bag M' p/\M' a=some (.lst (((.str x.1:PyData)::ds).map W.d))/\ds.length=i/\Drs x.2 ds/\∃ y4 y5 y6 y7,τ=[some (.m p),some (.m d),some (.d (.str x.1)),some (.m a),y4,y5,y6,y7],⟨[],uZ b3 (de pa),aC,rfl,λ j s d' h1 h2=>by simp at h2,_,_,_,_,rfl⟩,?_,?_⟩
 ·rintro i w τ M' hw' ⟨ds,b,hm,hl,hp,y4,y5,y6,y7,rfl⟩;rw[List.map_map] at hw';obtain⟨s,hsi,rfl⟩:=jN hw';have hi:i<x.2.length:=(List.getElem?_eq_some_iff.mp hsi).1;obtain⟨⟨w1,w2⟩,⟨e1,e2⟩,q1,q2⟩:=af3 (hs s (List.mem_of_getElem? hsi));have app:∀ (M'':MH) (d':PyData) (z5 z6 z7:Option W),Bag M'' p->(∀ q,q≠p->M'' q=M' q)->Dr s d'->∃ ws',M'' a=some (.lst ws')/\ws'.length<sizeLine/\∃ ds,Bag (dR M'' a (.lst (ws'++[.d d']))) p/\(dR M'' a (.lst (ws'++[.d d']))) a=some (.lst (((.str x.1:PyData)::ds).map W.d))/\ds.length=i+1/\Drs x.2 ds/\∃ y4 y5 y6 y7,[some (.m p),some (.m d),some (.d (.str x.1)),some (.m a),some (W.d (soD s)),z5,z6,z7]=[some (.m p),some (.m d),some (.d (.str x.1)),some (.m a),y4,y5,y6,y7]:=by intro M'' d' z5 z6 z7 b' f' hd;exact⟨_,(f' a pa.symm).trans hm,by simp;omega,ds++[d'],uZ b' (de pa),by rw[aC];simp,by simp[hl],hp.snoc (by rw[hl];exact hsi) hd,_,_,_,_,rfl⟩
  refine⟨_,rfl,_,_,.d,.d,w1,_,rfl,?_⟩;show if PyData.eqv (soD s) (.str "w")=true then _ else _;rw[w2];cases s with
  | w=>exact dg ⟨_,rfl,a,_,rfl,hm,_,rfl,p,rfl,b,λ z M4 hz b4 f4=>app M4 _ _ _ _ b4 f4 (.w hz)⟩
  | e =>
   refine bR ⟨_,rfl,_,_,.d,.d,e1,_,rfl,?_⟩;rw[e2];refine dg ⟨_,rfl,a,_,rfl,hm,_,rfl,few (by simp),_,rfl,p,4,rfl,b,by decide,by decide,λ r M4 r0 r1 b4 f4=>?_⟩;obtain⟨z,ez,hz⟩:=gB (M:=M4) (zs:=sorts) r0 (by simpa [sorts] using r1);exact⟨r,_,rfl,ez,rfl,app M4 _ _ _ _ b4 f4 (.e hz)⟩
  | y =>
   refine bR ⟨_,rfl,_,_,.d,.d,e1,_,rfl,?_⟩;rw[e2];refine bR ⟨_,rfl,_,_,.d,.d,q1,_,rfl,?_⟩;rw[q2];exact dg ⟨_,rfl,a,_,rfl,hm,_,rfl,p,2,rfl,b,by decide,by decide,λ r M4 r0 r1 b4 f4=>⟨_,_,.d,.d,rfl,app M4 _ _ _ _ b4 f4 (.y _)⟩⟩
  | n lo hi =>
   have hso:=hs _ (List.mem_of_getElem? hsi);simp only[ae6,Bool.and_eq_true,decide_eq_true_eq] at hso;obtain⟨l0,l1,l2⟩:=hso;refine bR ⟨_,rfl,_,_,.d,.d,e1,_,rfl,?_⟩;rw[e2];refine bR ⟨_,rfl,_,_,.d,.d,q1,_,rfl,?_⟩;rw[q2];refine bR ⟨_,rfl,_,rfl,rfl,_,_,rfl,_,_,rfl,rfl,?_⟩;refine⟨_,rfl,_,rfl,_,rfl,_,rfl,_,rfl,_,rfl,_,_,rfl,rfl,.inl ⟨_,_,rfl,rfl,p,hi-lo+1,rfl,b,by omega,by omega,λ r M4 r0 r1 b4 f4=>.inl ⟨_,_,rfl,rfl,_,rfl,few (by simp),?_⟩⟩⟩;have hm4:M4 a=some (.lst (((.str x.1:PyData)::ds).map W.d)):=(f4 a pa.symm).trans hm;refine⟨_,rfl,a,_,rfl,hm4,_,rfl,_,rfl,p,3,rfl,b4,by decide,by decide,λ c M5 c0 c1 b5 f5=>?_⟩;obtain⟨d',ed,hd⟩:=acp (M:=M5) (ds:=[.int lo,.int hi,.int (lo+r)]) c0 (by simpa using c1);simp only[List.mem_cons,List.not_mem_nil,or_false] at hd;refine⟨c,_,rfl,ed,rfl,app M5 _ _ _ _ b5 (λ q hq=>(f5 q hq).trans (f4 q hq)) ?_⟩;rcases hd with rfl | rfl | rfl
   ·exact .n (Int.le_refl _) l1
   ·exact .n l1 (Int.le_refl _)
   ·exact .n (by omega) (by omega)
 ·rintro τ M' ⟨ds,b,hm,hl,hp,y4,y5,y6,y7,rfl⟩;rw[List.length_map,List.length_map] at hl;exact⟨_,rfl,_,(.str x.1::ds),rfl,.m hm,k x hx ds M' hl hp b⟩
theorem yw:∀ x∈pj,∃ y∈qG,y.1=x.1/\x.2=y.2.map acN/\∀ f∈y.2,f ≠ .letters/\f ≠ .deed:=by decide +kernel
theorem aib{f:Hf}{d:PyData}(h1:f ≠ .letters)(h2:f ≠ .deed)(h:Dr (acN f) d):Hp f d:=by
 cases f with
 | machine=>cases h with | w h=>exact .word (.inl rfl) h
 | word=>cases h with | w h=>exact .word (.inr rfl) h
 | late=>cases h with | n h0 h1=>exact .num rfl h0 h1
 | number=>cases h with | n h0 h1=>exact .num rfl h0 h1
 | many=>cases h with | n h0 h1=>exact .num rfl h0 h1
 | yes=>cases h with | y b=>exact .yes b
 | letters=>exact absurd rfl h1
 | deed=>exact absurd rfl h2
theorem aip{c:Cd}{d:PyData}(h:Dr (abk c) d):Vp c d:=by
 by_cases h1:c=.w
 ·subst h1;cases h with | w h=>exact .inl ⟨rfl,_,rfl,h⟩
 by_cases h2:c=.e
 ·subst h2;cases h with | e h=>exact .inr (.inl ⟨rfl,_,rfl,h⟩)
 rw[xV h1 h2] at h;cases h with | n h0 h1'=>exact .inr (.inr ⟨h1,h2,_,rfl,h0,h1'⟩)
def rD:Str:= " !\"#&'()*+,-./0123456789:;<=>?\x40AZ[\\]^_`az{|}~"
theorem acy:∀ c∈rD.cps.toList,prB c=true:=by decide +kernel
theorem ahH:1<=rD.length/\rD.length<=100:=by decide +kernel
theorem two_let:ju (Txt.slice "  " none (some 0))=true/\ju (Txt.slice "  " none (some 1))=true/\ju (Txt.slice "  " none (some 2))=true:=by decide +kernel
theorem acZ(z:Str)(ds:List PyData)(n:Nat)(h0:1<=n)(hn:n<=ds.length+1):slW (.d (dd z ds)) (some (n:Int)) none=some (.d (.tuple (ds.drop (n-1)))):=by
 have e1:HT.sIx (ds.length+1) 0 (some (n:Int))=n:=by
  simp only[HT.sIx]
  split<;>omega
 have e2:HT.sIx (ds.length+1) (ds.length+1) none=ds.length+1:=rfl;obtain⟨m,rfl⟩:∃ m,n=m+1:=⟨n-1,by omega⟩;simp only[slW,dd,ng,D.cutD,List.length_cons,e1,e2];simp[List.take_of_length_le]
def bF:SpD:=λ ws M Q=>∃ p:Addr,ws=[.m p]/\Bag M p/\∀ x∈qG,∀ (ds:List PyData) M',Hds x.2 ds->Bag M' p->Q (.d (dd x.1 ds)) M'
theorem lg:Ln bF 1:=by rintro ws M Q ⟨p,rfl,_⟩;rfl
theorem yN{d:PyData}(h:Gd d):Hds [.deed] [d]:=⟨rfl,λ j f d' h1 h2=>by
 cases j with
 | zero =>
  simp at h1 h2;subst h1 h2;exact .deed h
 | succ j=>simp at h1⟩
theorem j9:Rd bF (iy aA cA bz aG aN) iT:=by
 rintro ws M Q ⟨p,rfl,hb,k⟩;have s16':=s16;refine⟨_,rfl,p,3,rfl,hb,by decide,by decide,λ w M1 _ _ b1 f1=>?_⟩;have new:∀ {M M':MH} {d:Addr},Bag M p->M d=none->d≠p:=λ hb hd e=>by obtain⟨o,ho⟩:=abS hb;rw[e,ho] at hd;cases hd
 refine⟨_,rfl,_,_,.d,.d,rfl,_,rfl,eI (λ _=>?_) (λ _=>?_)⟩
 ·refine⟨_,rfl,rfl,λ d M2 hd hM x2=>⟨p,d,pj,rfl,Ext.bag x2 b1,new (M':=M2) b1 hd,hM,ajv,λ x hx ds M3 hl hp b3=>?_⟩⟩;obtain⟨y,hy,e1,e2,hno⟩:=yw x hx;rw[<- e1];refine k y hy ds M3 ⟨by rw[hl,e2,List.length_map],λ j f d' h1 h2=>?_⟩ b3;obtain⟨n1,n2⟩:=hno f (List.mem_of_getElem? h1);exact aib n1 n2 (hp j _ d' (by rw[e2,List.getElem?_map,h1];rfl) h2)
 refine⟨_,rfl,_,_,.d,.d,rfl,_,rfl,eI (λ _=>?_) (λ _=>?_)⟩
 ·obtain⟨sl0,sl1⟩:=ahH;have hfit:tK (.d (.str rD))=true:=(show ∀ y:Str,y.length<=10000->tK (.d (.str y))=true from λ y h=>decide_eq_true (by omega)) rD (by omega);refine⟨⟨_,rfl⟩,_,rfl,p,13,rfl,b1,by decide,by decide,λ n M2 n0 n1 b2 f2=>⟨n,rfl,by omega,by omega,?_⟩⟩;dsimp only;refine⟨λ i acc τ M'=>Bag M' p/\(∃ cs:List Nat,acc=cs.map (λ c=>PyData.str ⟨#[c]⟩)/\cs.length=i/\∀ c∈cs,prB c=true)/\∃ x,τ=[x,some (.d (.str rD)),some (.m p)],⟨b2,⟨[],rfl,rfl,λ _ h=>nomatch h⟩,_,rfl⟩,?_,?_⟩
  ·rintro i w acc τ M' hw ⟨b,⟨cs,rfl,hl,hc⟩,x,rfl⟩;obtain⟨hi,rfl⟩:=zc hw;refine⟨by rw[List.length_map];omega,_,rfl,_,rfl,_,rfl,_,_,rfl,rfl,hfit,p,(rD.length:Nat),rfl,b,by omega,by omega,λ r M3 r0 r1 b3 f3=>?_⟩;obtain⟨c,hc1,hm⟩:=rq (M:=M3) (z:=rD) r0 r1;refine⟨r,_,rfl,hc1,hfit,_,rfl,b3,⟨cs++[c],by simp,by simp[hl],λ c' h'=>?_⟩,_,rfl⟩;rcases List.mem_append.mp h' with h' | h'
   ·exact hc c' h'
   ·rw[List.mem_singleton.mp h'];exact acy c hm
  ·rintro acc τ M' ⟨b,⟨cs,rfl,hl,hc⟩,x,rfl⟩;simp only[kS,List.length_map,List.length_range] at hl;have hlt:ju (Txt.join "" (cs.map λ c=>⟨#[c]⟩))=true:=by
    have e:=nG cs;have el:(Txt.join "" (cs.map λ c=>(⟨#[c]⟩:Str))).length=cs.length:=by rw[<- str_len,e]
    unfold ju;rw[el,e,decide_eq_true (by omega),Bool.true_and];exact List.all_eq_true.mpr hc
   refine⟨"",cs.map λ c=>⟨#[c]⟩,rfl,by rw[List.map_map];rfl,?_,?_⟩
   ·rw[qK];have e0:("" : Str).length=0:=by decide +kernel
    rw[e0];omega
   generalize Txt.join "" (cs.map λ c=>(⟨#[c]⟩:Str))=lt at hlt;refine⟨_,rfl,p,rfl,b,λ z M3 hz b3 f3=>?_⟩;refine⟨_,rfl,p,3,rfl,b3,by decide,by decide,λ r M4 r0 r1 b4 f4=>⟨_,rfl,_,rfl,rfl,_,rfl,_,rfl,few (by simp),_,rfl,p,2,rfl,b4,by decide,by decide,λ c M5 c0 c1 b5 f5=>?_⟩⟩;have h2:ju (Txt.slice "  " none (some r))=true:=by
    obtain⟨a0,a1,a2⟩:=two_let;rcases(by omega:r=0\/r=1\/r=2) with rfl | rfl | rfl
    ·exact a0
    ·exact a1
    ·exact a2
   obtain⟨y,ey,hy⟩:=gB (M:=M5) (zs:=[Txt.slice "  " none (some r),lt]) c0 (by simpa using c1);have hly:ju y=true:=by
    simp only[List.mem_cons,List.not_mem_nil,or_false] at hy;rcases hy with rfl | rfl
    ·exact h2
    ·exact hlt
   refine⟨c,_,rfl,ey,rfl,_,rfl,few (by simp),?_⟩;refine k ("write",[.word,.letters]) (by decide +kernel) [.str z,.str y] M5 ⟨rfl,λ j f d' e1 e2=>?_⟩ b5
   match j,e1,e2 with
   | 0,e1,e2=>simp at e1 e2;subst e1 e2;exact .word (.inr rfl) hz
   | 1,e1,e2=>simp at e1 e2;subst e1 e2;exact .lets hly
   | j+2,e1,e2=>simp at e1
 ·refine⟨_,rfl,rfl,λ d M2 hd hM x2=>⟨p,d,pw,rfl,Ext.bag x2 b1,new (M':=M2) b1 hd,hM,ajq,λ x' hx' ds M3 hl hp b3=>?_⟩⟩;obtain⟨x,hx,rfl⟩:=List.mem_map.mp hx';simp only[List.length_map] at hl;have hv:∀ (j:Nat) c d',x.2.2[j]? =some c->ds[j]? =some d'->Vp c d':=λ j c d' h1 h2=>aip (hp j _ d' (by rw[List.getElem?_map,h1];rfl) h2);refine λ q hq=>⟨aC,atW,rfl,by decide,by decide +kernel,?_⟩;rw[eP];refine⟨.k aC,_,rfl,_,_,rfl,vY,rfl,_,.k (k:=.inr x.1) aC,?_⟩;rw[abr x hx];have b4:Bag (dR M3 q (.dic atW)) p:=Ext.bag (Ext.new hq) b3;refine⟨_,rfl,_,_,rfl,rfl,_,rfl,?_⟩
  by_cases hk:Cd.k∈x.2.2
  ·obtain⟨_,_,c1,c2,c3⟩:=k_is x hx hk;have jc:=(List.getElem?_eq_some_iff.mp c1).1;have jk:=(List.getElem?_eq_some_iff.mp c2).1;have hdc:ds[kC x]? =some (ds[kC x]'(by omega)):=List.getElem?_eq_getElem (by omega);have hdk:ds[kK x]? =some (ds[kK x]'(by omega)):=List.getElem?_eq_getElem (by omega);obtain⟨a,ea,a0,a1⟩:∃ a:Int,ds[kC x]? =some (.int a)/\0<=a/\a<=6:=by
    rcases hv _ _ _ c1 hdc with ⟨h,_⟩ | ⟨h,_⟩ | ⟨_,_,i,e,i0,i1⟩
    ·cases h
    ·cases h
    ·exact⟨i,by rw[hdc,e],i0,i1⟩
   obtain⟨i,ei,i0,i1⟩:∃ i:Int,ds[kK x]? =some (.int i)/\0<=i/\i<=5:=by
    rcases hv _ _ _ c2 hdk with ⟨h,_⟩ | ⟨h,_⟩ | ⟨_,_,i,e,i0,i1⟩
    ·cases h
    ·cases h
    ·exact⟨i,by rw[hdk,e],i0,i1⟩
   rw[if_pos hk];refine dr (decide_eq_true (show((kC x+1:Nat):Int) > 0 by omega)) ?_;have q1:ixW (dR M3 q (.dic atW)) (.d (dd x.1 ds)) (((kC x+1:Nat):Int)+1)=some (.d (.int i)):=iY (j:=kC x+1+1) (by rw[c3];simpa using ei);have q2:ixW (dR M3 q (.dic atW)) (.d (dd x.1 ds)) ((kC x+1:Nat):Int)=some (.d (.int a)):=iY (j:=kC x+1) (by simpa using ea);have t1:slW (.d (dd x.1 ds)) none (some (((kC x+1:Nat):Int)+1))=some (.d (.tuple ((.str x.1::ds).take (kC x+1+1)))):=wg x.1 ds (kC x+1+1) (by omega);have t2:slW (.d (dd x.1 ds)) (some (((kC x+1:Nat):Int)+2)) none=some (.d (.tuple (ds.drop (kC x+1+2-1)))):=acZ x.1 ds (kC x+1+2) (by omega) (by omega);have n6:=(jr x hx).1;refine⟨_,rfl,_,rfl,.inl ⟨_,_,rfl,rfl,_,rfl,_,t1,rfl,_,rfl,_,rfl,.inl ⟨_,_,rfl,rfl,_,_,rfl,q1,rfl,_,rfl,_,rfl,_,_,rfl,q2,rfl,_,_,rfl,rfl,_,_,rfl,_,_,rfl,_,rfl,few (by simp),_,_,rfl,rfl,by simp,by simp;omega,?_⟩⟩⟩;refine⟨_,rfl,_,rfl,.inl ⟨_,_,rfl,rfl,_,rfl,_,t2,rfl,_,_,rfl,rfl,by simp,by simp;omega,?_⟩⟩;generalize hm:(if (if a-1 > 0 then a-1 else 0)<i then (if a-1 > 0 then a-1 else 0) else i)=m;have m0:0<=m/\m<=5/\m<=aij a:=by
    unfold aij;rw[<- hm]
    split<;>split<;>split<;>omega
   have eset:(((.str x.1:PyData)::ds).take (kC x+1+1)++[.int m])++ds.drop (kC x+1+2-1)=.str x.1::ds.set (kK x) (.int m):=by rw[List.set_eq_take_append_cons_drop,if_pos (by omega),<- c3];simp
   rw[eset];have g:Gd (dd x.1 (ds.set (kK x) (.int m))):=by
    refine⟨x,hx,_,rfl,by rw[List.length_set];exact hl,λ j c d' h1 h2=>?_,λ j h1 i' h2=>?_⟩
    ·by_cases hj:kK x=j
     ·subst hj;rw[List.getElem?_set_self (by omega)] at h2;rw[c2] at h1;cases h1;cases h2;exact .inr (.inr ⟨by decide,by decide,m,rfl,m0.1,m0.2.1⟩)
     ·rw[List.getElem?_set_ne hj] at h2;exact hv j c d' h1 h2
    ·have hj:=ag1 x hx j (List.getElem?_eq_some_iff.mp h1).1 h1;subst hj;rw[List.getElem?_set_self (by omega)] at h2;cases h2;have e9:kK x-1=kC x:=by omega
     exact⟨a,by rw[e9,List.getElem?_set_ne (by omega)];exact ea,m0.2.2⟩
   exact⟨_,rfl,_,rfl,few (by simp),k ("deed",[.deed]) (by decide +kernel) [_] _ (yN g) b4⟩
  ·rw[if_neg hk];have g:Gd (dd x.1 ds):=⟨x,hx,ds,rfl,hl,hv,λ j h1 i' h2=>absurd (List.mem_of_getElem? h1) hk⟩;exact bR ⟨_,rfl,_,rfl,few (by simp),k ("deed",[.deed]) (by decide +kernel) [_] _ (yN g) b4⟩
def wt(l:List Str):Nat:=(l.map λ p=>(" " : Str).length+p.length).sum
theorem uf(a b:List Str):wt (a++b)=wt a+wt b:=by
 unfold wt;rw[List.map_append,List.sum_append_nat]
theorem abw(l:List Str):(l.map (·.length)).sum+l.length * (" " : Str).length=wt l:=by
 have e1:(" " : Str).length=1:=by decide +kernel
 induction l with
 | nil=>rfl
 | cons y l ih =>
  unfold wt at ih ⊢;simp only[List.map_cons,List.sum_cons,List.length_cons,e1] at ih ⊢;omega
theorem ae7{a b:List Str}(h:a.Sublist b):wt a<=wt b:=by
 induction h with
 | slnil=>exact Nat.le_refl _
 | @cons a b y _ ih =>
  unfold wt at ih ⊢;simp only[List.map_cons,List.sum_cons];omega
 | @cons_cons a b y _ ih =>
  unfold wt at ih ⊢;simp only[List.map_cons,List.sum_cons];omega
theorem sv{α:Type}(xs:List α)(lo hi:Option Int):(D.cutD xs lo hi).Sublist xs:=(List.take_sublist _ _).trans (List.drop_sublist _ _)
theorem adT(xs:List Str)(lo hi:Option Int):D.cutD (xs.map PyData.str) lo hi=(D.cutD xs lo hi).map PyData.str:=by
 unfold D.cutD;rw[List.length_map,List.map_take,List.map_drop]
theorem gL(xs:List Str)(lo hi:Option Int):slW (.d (.list (xs.map PyData.str))) lo hi=some (.d (.list ((D.cutD xs lo hi).map PyData.str))):=by simp only[slW,adT]
def sI:List Str:=["0", "1", " ", "a", "z", "-", "A", "9", "  ", " no", " yes", " 3","\n", "~"]
theorem vL:∀ z∈sI,dU z=true/\z.length<=4:=by decide +kernel
def cx:SpD:=λ ws M Q=>∃ (p:Addr) (z:Str),ws=[.m p,.d (.str z)]/\Bag M p/\dU z=true/\z.length<=5000/\∀ (y:Str) M',dU y=true->y.length<=2 * z.length+20->Bag M' p->Q (.d (.str y)) M'
theorem rW:Ln cx 2:=by rintro ws M Q ⟨p,z,rfl,_⟩;rfl
theorem pg:Rd cx (nF aA aG) nu:=by
 rintro ws M Q ⟨p,z,rfl,hb,ha,hl,k⟩;have s16':=s16;have hfit:tK (.d (.str z))=true:=decide_eq_true (by omega);have hz:=cn ha;refine⟨_,rfl,_,rfl,_,_,rfl,rfl,hfit,.inl ⟨_,_,rfl,rfl,p,_,rfl,hb,by omega,by omega,λ a M1 a0 a1 b1 f1=>?_⟩⟩;refine⟨_,rfl,p,8,rfl,b1,by decide,by decide,λ h M2 h0 h1 b2 f2=>?_⟩;refine⟨_,rfl,few (by simp),_,rfl,p,14,rfl,b2,by decide,by decide,λ r M3 r0 r1 b3 f3=>?_⟩;obtain⟨sg,esg,hsg⟩:=gB (M:=M3) (zs:=sI) r0 (by simpa [sI] using r1);obtain⟨sa,sl⟩:=vL sg hsg;have sa:=cn sa;refine⟨r,_,rfl,esg,rfl,?_⟩;refine⟨_,rfl,z,rfl, " ",rfl,by decide +kernel,by omega,?_⟩;have hpos:=split_pos z " ";have hle:=split_le z " ";have hw:wt (Txt.split z " ")<=z.length+1:=by
  have:=split_weight z " " (by decide +kernel);have e1:(" " : Str).length=1:=by decide +kernel
  rw[<- abw,e1];omega
 have hpart:∀ y∈Txt.split z " ",Asc y:=λ y hy=>by have:=part_of (z:=z) (p:=y) (c:=32) (by rw[<- uk];exact hy);exact cn (this.2 ha)
 generalize Txt.split z " " = wds at hpos hle hw hpart;refine⟨_,rfl,_,rfl,_,_,rfl,rfl,rfl,p,_,rfl,b3,by simp;omega,by simp;omega,λ kk M4 k0 k1 b4 f4=>?_⟩;have fin:∀ y:Str,Asc y->y.length<=2 * z.length+20->Q (.d (.str y)) M4:=λ y ya yl=>k y M4 (lC ya) yl b4;have zl:=λ lo hi=>PySem.Txt.slice_le z lo hi;have za:=λ lo hi=>zi hz lo hi;have jn:∀ l:List Str,(∀ y∈l,Asc y)->wt l<=2 * z.length+20->Asc (Txt.join " " l)/\(Txt.join " " l).length<=2 * z.length+20/\(l.map (·.length)).sum+l.length * (" " : Str).length<=16777216:=λ l hl' hwl=>by obtain⟨j1,j2⟩:=oQ (sep:= " ") (ys:=l) (kE (by decide +kernel)) hl';refine⟨j1,?_,by rw[abw];omega⟩;have:(Txt.join " " l).length<=wt l:=j2;omega
 have cutA:∀ lo hi,∀ y∈D.cutD wds lo hi,Asc y:=λ lo hi y hy=>hpart y ((sv wds lo hi).subset hy);have cutW:∀ lo hi,wt (D.cutD wds lo hi)<=z.length+1:=λ lo hi=>by have:=ae7 (sv wds lo hi);omega
 have cutL:∀ lo hi,(D.cutD wds lo hi).length<=z.length+2:=λ lo hi=>by have:=(sv wds lo hi).length_le;omega
 have three:∀ (x m y:Str),Asc x->Asc m->Asc y->x.length<=z.length->m.length<=4->y.length<=z.length->Asc (x++m++y)/\(x++m++y).length<=2 * z.length+20/\x.length+m.length<=sizeLine/\(x++m).length+y.length<=sizeLine:=λ x m y ax am ay lx lm ly=>by refine⟨oD (oD ax am) ay,?_,by omega,?_⟩<;>simp only[tO]<;>omega
 refine⟨_,rfl,_,_,rfl,rfl,_,rfl,eI (λ _=>?_) (λ _=>?_)⟩
 ·obtain⟨q1,q2,q3,q4⟩:=three (Txt.slice z none (some a)) sg (Txt.slice z (some a) none) (za _ _) sa (za _ _) (zl _ _) sl (zl _ _);exact⟨_,rfl,_,rfl,_,rfl,_,rfl,hfit,_,rfl,.inr ⟨_,_,rfl,rfl,q3,_,rfl,_,rfl,_,rfl,_,rfl,hfit,.inr ⟨_,_,rfl,rfl,q4,fin _ q1 q2⟩⟩⟩
 refine⟨_,rfl,_,_,.d,.d,rfl,_,rfl,eI (λ _=>?_) (λ _=>?_)⟩
 ·obtain⟨q1,q2,q3,q4⟩:=three (Txt.slice z none (some a)) sg (Txt.slice z (some (a+1)) none) (za _ _) sa (za _ _) (zl _ _) sl (zl _ _);exact⟨_,rfl,_,rfl,_,rfl,_,rfl,hfit,_,rfl,.inr ⟨_,_,rfl,rfl,q3,_,rfl,_,rfl,.inl ⟨_,_,rfl,rfl,_,rfl,_,rfl,hfit,.inr ⟨_,_,rfl,rfl,q4,fin _ q1 q2⟩⟩⟩⟩
 refine⟨_,rfl,_,_,.d,.d,rfl,_,rfl,eI (λ _=>?_) (λ _=>?_)⟩
 ·have l1:=zl none (some a);have l2:=zl (some (a+1)) none;exact⟨_,rfl,_,rfl,_,rfl,_,rfl,hfit,_,rfl,_,rfl,.inl ⟨_,_,rfl,rfl,_,rfl,_,rfl,hfit,.inr ⟨_,_,rfl,rfl,by omega,fin _ (oD (za _ _) (za _ _)) (by rw[tO];omega)⟩⟩⟩
 refine⟨_,rfl,_,_,.d,.d,rfl,_,rfl,eI (λ _=>?_) (λ _=>?_)⟩
 ·have w1:=cutW none (some kk);have w2:=cutW (some (kk+1)) none;have l1:=cutL none (some kk);have l2:=cutL (some (kk+1)) none;obtain⟨j1,j2,j3⟩:=jn (D.cutD wds none (some kk)++D.cutD wds (some (kk+1)) none) (λ y hy=>by rcases List.mem_append.mp hy with hy | hy<;>exact cutA _ _ y hy) (by rw[uf];omega);refine⟨⟨_,rfl⟩,_,rfl,_,rfl,_,rfl,_,gL wds none (some kk),rfl,_,rfl,_,rfl,.inl ⟨_,_,rfl,rfl,_,rfl,_,gL wds (some (kk+1)) none,rfl,_,_,.d,.d,by simp;omega, " ",_,rfl,by rw[<- List.map_append],j3,fin _ j1 j2⟩⟩
 refine⟨_,rfl,_,_,.d,.d,rfl,_,rfl,eI (λ _=>?_) (λ _=>?_)⟩
 ·have w1:=cutW none (some (kk+1));have w2:=cutW (some kk) none;have l1:=cutL none (some (kk+1));have l2:=cutL (some kk) none;obtain⟨j1,j2,j3⟩:=jn (D.cutD wds none (some (kk+1))++D.cutD wds (some kk) none) (λ y hy=>by rcases List.mem_append.mp hy with hy | hy<;>exact cutA _ _ y hy) (by rw[uf];omega);refine⟨⟨_,rfl⟩,_,rfl,_,rfl,.inl ⟨_,_,rfl,rfl,_,rfl,_,gL wds none (some (kk+1)),rfl,_,rfl,_,rfl,_,rfl,_,gL wds (some kk) none,rfl,_,_,.d,.d,by simp;omega, " ",_,rfl,by rw[<- List.map_append],j3,fin _ j1 j2⟩⟩
 ·refine⟨⟨_,rfl⟩,_,rfl,_,rfl,_,rfl,_,gL wds none (some kk),rfl,_,rfl,p,rfl,b4,λ y M5 hy b5 f5=>?_⟩;have w1:=cutW none (some kk);have w2:=cutW (some (kk+1)) none;have l1:=cutL none (some kk);have l2:=cutL (some (kk+1)) none;have y8:=(fB hy).2;have wy:wt [y]<=9:=by
   have e1:(" " : Str).length=1:=by decide +kernel
   unfold wt;simp only[List.map_cons,List.map_nil,List.sum_cons,List.sum_nil,e1];omega
  obtain⟨j1,j2,j3⟩:=jn ((D.cutD wds none (some kk)++[y])++D.cutD wds (some (kk+1)) none) (λ y' hy'=>by
   rcases List.mem_append.mp hy' with hy' | hy'
   ·rcases List.mem_append.mp hy' with hy' | hy'
    ·exact cutA _ _ y' hy'
    ·rw[List.mem_singleton.mp hy'];exact cn (gz hy)
   ·exact cutA _ _ y' hy') (by rw[uf,uf];omega)
  exact⟨_,rfl,few (by simp),_,_,.d,.d,by simp;omega,_,rfl,_,rfl,.inl ⟨_,_,rfl,rfl,_,rfl,_,gL wds (some (kk+1)) none,rfl,_,_,.d,.d,by simp;omega, " ",_,rfl,by rw[List.map_append,List.map_append];rfl,j3,k _ M5 (lC j1) j2 b5⟩⟩
theorem uT(a:Array Nat):∀ (n:Nat) (acc:Array Nat),((List.replicate n a).foldl (· ++ ·) acc).toList=acc.toList++(List.replicate n a.toList).flatten
 | 0,acc=>by simp
 | n+1,acc=>by rw[List.replicate_succ,List.foldl_cons,uT a n,List.replicate_succ,List.flatten_cons];simp
def mz:Str:=Txt.mul "9" 4400
theorem aaE(n:Nat):((List.replicate n #[57]).foldl (· ++ ·) #[]).toList=(List.replicate n [57]).flatten:=by rw[uT];rfl
theorem lZ:mz.cps.toList=(List.replicate (4400:Int).toNat [57]).flatten:=by
 have e1:("9" : Str)=⟨#[57]⟩:=by decide +kernel
 have e:mz=⟨(List.replicate (4400:Int).toNat #[57]).foldl (· ++ ·) #[]⟩:=by
  unfold mz Txt.mul;rw[e1,if_neg (by decide),if_neg (by decide)]
 rw[e];exact aaE _
theorem uY{c:Nat}(hc:c∈mz.cps.toList):c=57:=by rw[lZ] at hc;obtain⟨l,hl,hc⟩:=List.mem_flatten.mp hc;rw[List.eq_of_mem_replicate hl] at hc;exact List.mem_singleton.mp hc
theorem nP:dU mz=true/\mz.length=4400:=by
 constructor
 ·refine lC λ c hc=>?_;rw[uY hc]
  decide
 ·rw[<- str_len,lZ,List.length_flatten,List.map_replicate,List.sum_replicate_nat];simp
theorem zm{y:Str}(hl:10<y.length)(h32:32 ∉ y.cps.toList):ph ("fail " ++ y)=none:=by
 have ef:("fail " : Str) = "fail" ++ " ":= by decide +kernel
 have e:("fail " : Str)++y=Str.join " " [("fail" : Str),y]:=by rw[ef];rfl
 have es:Txt.split ("fail " ++ y) " " = [("fail" : Str),y]:=by
  rw[e,<- eS];refine fw (by simp) λ p hp=>?_;simp only[List.mem_cons,List.not_mem_nil,or_false] at hp;rcases hp with rfl | rfl
  ·decide +kernel
  ·exact h32
 rw[l6 es];unfold ip;rw[show df "fail" = some [.number] by decide +kernel];show(dP rH [.number] (uV 1 [y])).map _=_;rw[kO (by simp),eK (j:=0) (f:=.number) (y:=y) rfl rfl]
 ·rfl
 ·show rS (.n 0 1000000000) y=none;simp only[rS];have er:rn y=.none:=by
   unfold rn;rw[if_neg λ h=>?_];unfold dX at h;simp only[Bool.and_eq_true,decide_eq_true_eq] at h;omega
  rw[er];rfl
theorem acM:ph ("fail " ++ mz)=none:=zm (by have:=nP.2;omega) λ h=>absurd (uY h) (by decide)
theorem none_of{z:Str}(h:(ph z).isNone=true):ph z=none:=Option.isNone_iff_eq_none.mp h
def aex:List Str:=["", " ", "up ", "turn"]
theorem acP:∀ z∈aex,(ph z).isNone=true/\dU z=true/\z.length<=10:=by decide +kernel
def Bn:Nat->Nat
 | 0=>500
 | n+1=>2 * Bn n+20
theorem aeR:∀ n<4,Bn n<=5000:=by decide
def k8:SpD:=λ ws M Q=>∃ ns:List Int,ws=[.d (.list (ns.map PyData.int))]/\ns.length<=63/\∀ M',Q (.d (.bool true)) M'
theorem acw:Ln k8 1:=by rintro ws M Q ⟨d,rfl,_⟩;rfl
theorem aaD:∀ ns:List Int,ns.length<=63->k8 [.d (.list (ns.map PyData.int))] (λ _=>none) (λ w _=>w=.d (.bool true)):=λ ns h=>⟨ns,rfl,h,λ _=>rfl⟩
theorem lW(d:PyData):gC (told d)=true:=pO (by decide) ze.1 ze.2
theorem aba:Rd k8 (afy eU bF bh cb cL aA cx eV) afQ:=by
 rintro ws M Q ⟨ns,rfl,hl,k⟩;have s16':=s16;refine⟨_,rfl,ns,rfl,by omega,λ p M1 _ f1 b1=>?_⟩;refine⟨_,rfl,by omega,by omega,?_⟩;refine⟨λ i τ M'=>Bag M' p/\∃ x0 y2 y3 y4 y5 y6 y7,τ=[x0,some (.m p),y2,y3,y4,y5,y6,y7],⟨b1,_,_,_,_,_,_,_,rfl⟩,?_,?_⟩
 ·rintro i w τ M' hw ⟨b,x0,y2,y3,y4,y5,y6,y7,rfl⟩;refine⟨_,rfl,p,rfl,b,λ x hx ds M2 hd b2=>?_⟩;obtain⟨ta,tl⟩:=agY hx hd;have hr:=ac4 hx hd;have gh:Gh (dd x.1 ds):=⟨x,hx,ds,rfl,hd⟩;obtain⟨g1,g2⟩:=abo gh;refine⟨_,rfl,x,hx,ds,rfl,hd,?_⟩;refine⟨_,rfl,_,rfl,x,hx,ds,rfl,hd,_,_,.d,.d,rfl,_,rfl,dw (sR _) ?_⟩;refine⟨_,rfl,.str _,rfl,.inr ⟨_,rfl,ta,by omega⟩,λ M3 x3=>⟨_,_,rfl,.d,lW _,_,rfl,_,rfl,few (by simp),_,_,rfl,.d,pO (by decide) g1 g2,_,_,.d,.d,rfl,_,rfl,?_⟩⟩;rw[iO hr];refine dw (sR _) ?_;have b3:=Ext.bag x3 b2;refine⟨_,rfl,p,3,rfl,b3,by decide,by decide,λ r M4 r0 r1 b4 f4=>.inl ⟨_,_,rfl,rfl,1+r,rfl,by omega,by omega,?_⟩⟩;refine⟨λ i τ M'=>Bag M' p/\∃ z:Str,dU z=true/\z.length<=Bn i/\∃ x0 y2 y5 y6 y7,τ=[x0,some (.m p),y2,some (.d (dd x.1 ds)),some (.d (.str z)),y5,y6,y7],⟨b4,_,ta,tl,_,_,_,_,_,rfl⟩,?_,?_⟩
  ·rintro j w τ M5 hw ⟨b5,z,za,zl,x0,y2,y5,y6,y7,rfl⟩;obtain⟨hj,rfl⟩:=zc hw;have h2:=aeR j (by omega);refine⟨_,rfl,_,rfl,p,z,rfl,b5,za,by omega,λ y M6 hy ly b6=>⟨b6,y,hy,?_,_,_,_,_,_,rfl⟩⟩;show y.length<=2 * Bn j+20;omega
  ·rintro τ M5 ⟨b5,z,za,zl,x0,y2,y5,y6,y7,rfl⟩;have h3:=aeR (kS 0 (1+r).toNat).length (by simp[kS];omega);have zl':z.length<=5000:=by omega
   refine⟨_,rfl,by omega,by omega,?_⟩;refine⟨λ i τ M'=>Bag M' p/\∃ x0 y2 y5 y6 y7,τ=[x0,some (.m p),y2,some (.d (dd x.1 ds)),some (.d (.str z)),y5,y6,y7],⟨b5,_,_,_,_,_,rfl⟩,?_,?_⟩
   ·rintro j w τ M6 hw ⟨b6,x0,y2,y5,y6,y7,rfl⟩;refine⟨_,rfl,.str z,rfl,.inr ⟨z,rfl,za,by omega⟩,λ M7 x7=>⟨_,_,rfl,.d,lW _,_,rfl,z,rfl,za,by omega,λ M8 x8=>⟨_,_,rfl,.d,lW _,_,_,.d,.d,rfl,_,rfl,dw (sR _) ⟨Ext.bag x8 (Ext.bag x7 b6),_,_,_,_,_,rfl⟩⟩⟩⟩
   ·rintro τ M6 ⟨b6,x0,y2,y5,y6,y7,rfl⟩;have e5:("fail " : Str).length=5:=by decide +kernel
    have facts:dU (Txt.mul "9" 4400)=true/\(Txt.mul "9" 4400).length=4400/\ph ("fail " ++ Txt.mul "9" 4400)=none:=⟨nP.1,nP.2,acM⟩;refine⟨_,rfl,few (by simp),_,rfl,few (by simp),_,rfl, "9",4400,rfl,rfl,by decide +kernel,by decide,by decide,?_⟩;generalize Txt.mul "9" 4400=mz at facts;obtain⟨n1,n44,n3⟩:=facts;have hsz:("fail " : Str).length+mz.length<=sizeLine:=by omega
    refine .inr ⟨_,_,rfl,rfl,hsz,_,rfl,few (by simp),?_⟩;refine⟨_,rfl,_,rfl,p,12,rfl,b6,by decide,by decide,λ r2 M7 s0 s1 b7 f7=>?_⟩;obtain⟨od,eod,hod⟩:=acp (M:=M7) (ds:=[.none,.int 5,.bool true,.list [.str "up"],.tuple [.str "up"],.dict [],dd x.1 ds,.str "",.str " ",.str "up ",.str "turn",.str ("fail " ++ mz)]) s0 (by simpa using s1);have key:Od od/\told od=refused:=by
     have four:∀ z∈aex,Od (.str z)/\told (.str z)=refused:=λ z hz=>by obtain⟨h1,h2,h3⟩:=acP z hz;exact⟨.inr ⟨z,rfl,h2,by omega⟩,gD (none_of h1)⟩
     simp only[List.mem_cons,List.not_mem_nil,or_false] at hod;rcases hod with rfl | rfl | rfl | rfl | rfl | rfl | rfl | rfl | rfl | rfl | rfl | rfl
     ·exact⟨.inl rfl,rfl⟩
     ·exact⟨.inl rfl,rfl⟩
     ·exact⟨.inl rfl,rfl⟩
     ·exact⟨.inl rfl,rfl⟩
     ·exact⟨.inl rfl,rfl⟩
     ·exact⟨.inl rfl,rfl⟩
     ·exact⟨.inl rfl,rfl⟩
     ·exact four _ (by simp[aex])
     ·exact four _ (by simp[aex])
     ·exact four _ (by simp[aex])
     ·exact four _ (by simp[aex])
     ·refine⟨.inr ⟨_,rfl,lC (oD (kE (by decide +kernel)) (cn n1)),?_⟩,gD n3⟩;rw[tO];omega
    refine⟨r2,_,rfl,eod,rfl,od,rfl,key.1,λ M8 x8=>?_⟩;rw[key.2];refine⟨_,rfl,few (by simp),refused,refused,.d,.d,ug (k:=5) (by decide) fA.1 fA.1,_,rfl,dw (by rw[acT fA.1];rfl) ?_⟩;exact⟨Ext.bag x8 b7,_,_,_,_,_,_,_,rfl⟩
 ·rintro τ M' ⟨b,x0,y2,y3,y4,y5,y6,y7,rfl⟩;exact k M'
abbrev q_0:List Str:=["_law_script"]
abbrev q_1:List Str:=["_law_bag_here", "_law_many"]
abbrev q_2:List Str:=["_law_bag_here"]
abbrev q_3:List Str:=["_law_bag_here", "_law_forms_here"]
abbrev q_4:List Str:=["parts"]
abbrev q_5:List Str:=["deed"]
abbrev q_6:List Str:=["form", "part"]
abbrev q_7:List Str:=["row"]
abbrev q_8:List Str:=["_law_row"]
abbrev q_9:List Str:=["thing"]
abbrev aev:List Str:=["thing", "low", "high"]
abbrev aey:List Str:=["forms", "deed"]
abbrev aeu:List Str:=["_law_thing"]
abbrev aeF:List Str:=["_law_bag_here", "_law_text"]
abbrev pq:List Str:=["_law_text"]
abbrev aeE:List Str:=["_law_text", "_law_least", "_law_most"]
abbrev aeG:List Str:=["_law_forms_here", "_law_words"]
abbrev ny:List Str:=["text"]
abbrev vW:List Str:=["form", "text"]
local macro_rules | `(tactic| walk_at "sc")=>`(tactic| exact⟨rfl,rfl,rfl,by decide +kernel,rfl,by decide +kernel,by decide +kernel⟩)
local macro_rules | `(tactic| walk_at "b3")=>`(tactic| (intro _ _ _ _ _ _ us hl;obtain⟨_,_,_,e⟩:=D.ahx hl;subst e;rfl))
local macro_rules | `(tactic| walk_at "b2")=>`(tactic| (intro _ _ _ _ _ _ us hl;obtain⟨_,_,e⟩:=D.afh hl;subst e;rfl))
local macro_rules | `(tactic| walk_at "b1")=>`(tactic| (intro _ _ _ _ _ _ us hl;obtain⟨_,e⟩:=D.adl hl;subst e;rfl))
def top(i:Nat):Stmt:=PySem.Challenge.pw_placedworks_k40_happenings_written.main.body.getD i (.Pass ⟨0,0,0,0⟩)
abbrev oX:Stmt:=top 41
abbrev kA:Stmt:=top 42
abbrev dN:Stmt:=top 50
abbrev iB:Stmt:=top 51
abbrev gn:Stmt:=top 46
abbrev cK:Stmt:=top 47
abbrev dZ:Stmt:=top 52
abbrev fj:Stmt:=top 30
abbrev fR:Stmt:=top 29
abbrev pd:Stmt:=top 37
abbrev cO:Stmt:=top 36
abbrev fT:Stmt:=top 43
abbrev dn:Stmt:=top 33
abbrev fU:Stmt:=top 32
abbrev iL:Stmt:=top 11
abbrev gK:Stmt:=top 9
abbrev fH:Stmt:=top 10
abbrev iQ:Stmt:=top 17
abbrev fO:Stmt:=top 18
abbrev gH:Stmt:=top 16
abbrev fN:Stmt:=top 31
abbrev fQ:Stmt:=top 39
abbrev dY:Stmt:=top 25
abbrev uz:Stmt:=top 24
abbrev dF:Stmt:=top 23
abbrev cN:Stmt:=top 38
abbrev ku:Stmt:=top 54
abbrev gO:Stmt:=top 53
abbrev kz:Stmt:=top 44
abbrev gJ:Stmt:=top 45
abbrev iM:Stmt:=top 48
abbrev ji:Stmt:=top 49
abbrev nS:Stmt:=top 55
abbrev nY:Stmt:=top 56
structure Env(w:World)(K:FG)(mg:Str->Option Value):Prop where
 m_NoDeed:mg "NoDeed" = some (.ref iH)
 m_NoLine:mg "NoLine" = some (.ref iI)
 m_NoRow:mg "NoRow" = some (.ref kX)
 m_NoText:mg "NoText" = some (.ref aD)
 m_PlaceError:mg "PlaceError" = some (.ref fi)
 x_NoText:XO.XC K aD
 e_NoText_PlaceError:W.exmOne K (.ref aD) (.ref fi)=some true
 i_NoText_NoRow_NoLine_NoDeed:W.kitAny K (.ref aD) [.ref kX,.ref iI,.ref iH]=some false
 i_NoText_NoText:W.kitAny K (.ref aD) [.ref aD]=some true
 i_NoText_ValueError:W.kitAny K (.ref aD) [.type "ValueError"]=some true
 xk_NoText:W.keepIn K (.ref aD)=true
 xn_NoText:XO.xno K aD=true
 xt_NoText:W.typeIn K (.ref aD)=some (.type "type")
 m_BOUNDS:mg "BOUNDS" = some (.ref iC)
 m_ENDING_SORTS:mg "ENDING_SORTS" = some (.ref dH)
 m_FORMS:mg "FORMS" = some (.ref kL)
 m_PARTS:mg "PARTS" = some (.ref lI)
 m_RANGES:mg "RANGES" = some (.ref iV)
 m_TRUTHS:mg "TRUTHS" = some (.ref iU)
 k_BOUNDS:gx w K iC fE
 k_FORMS:gx w K kL fk
 k_PARTS:gx w K lI gw
 k_RANGES:gx w K iV fe
 k_TRUTHS:gx w K iU bT
 t_ENDING_SORTS:sM K (.ref dH) (.tuple [.str "wish",.str "store",.str "door",.str "rule"])=true
 b_ValueError:mg "ValueError" = none
 b_abs:mg "abs" = none
 b_all:mg "all" = none
 b_bool:mg "bool" = none
 b_int:mg "int" = none
 b_isinstance:mg "isinstance" = none
 b_len:mg "len" = none
 b_max:mg "max" = none
 b_min:mg "min" = none
 b_range:mg "range" = none
 b_repr:mg "repr" = none
 b_sorted:mg "sorted" = none
 b_str:mg "str" = none
 b_tuple:mg "tuple" = none
 b_zip:mg "zip" = none
 c_FIGURES:∃ t,mg "FIGURES" = some (.str "0123456789" t)
 c_LONGEST_WORD:∃ t,mg "LONGEST_WORD" = some (.int 8 t)
 c_MOST_FIGURES:∃ t,mg "MOST_FIGURES" = some (.int 10 t)
 c_MOST_LETTERS:∃ t,mg "MOST_LETTERS" = some (.int 12 t)
section
variable (P:Program)(w:World)(K:FG)(mg:Str->Option Value)(base:Heap)
abbrev xk:=ZZ P w K mg base (Fn K mg "_law_bag" oX q_0) 1 q_0 eU
abbrev gZ:=ZZ P w K mg base (Fn K mg "_law_take" kA q_1) 1 q_1 aA
abbrev dG:=ZZ P w K mg base (Fn K mg "_law_drawn_word" dN q_2) 2 q_2 aG
abbrev rL:=ZZ P w K mg base (Fn K mg "_law_drawn" iB q_3) 3 q_3 cA
abbrev lD:=ZZ P w K mg base (Fn K mg "_law_forms" gn []) 1 [] bz
abbrev fq:=ZZ P w K mg base (Fn K mg "_law_deed_forms" cK []) 1 [] aN
abbrev iR:=ZZ P w K mg base (Fn K mg "_law_happening" dZ q_2) 4 q_2 bF
abbrev gI:=ZZ P w K mg base (Fn K mg "show_parts" fj q_4) 1 q_4 bb
abbrev lG:=ZZ P w K mg base (Fn K mg "show_deed" fR q_5) 2 q_5 bP
abbrev yC:=ZZ P w K mg base (Fn K mg "shown" pd q_6) 3 q_6 fg
abbrev fZ:=ZZ P w K mg base (Fn K mg "show_happening" cO q_7) 4 q_7 bh
abbrev lq:=ZZ P w K mg base (Fn K mg "_law_written" fT q_8) 1 q_8 cb
abbrev la:=ZZ P w K mg base (Fn K mg "is_word" iL q_9) 1 q_9 bN
abbrev mZ:=ZZ P w K mg base (Fn K mg "is_whole" gK q_9) 1 q_9 cv
abbrev ij:=ZZ P w K mg base (Fn K mg "is_within" fH aev) 2 aev bu
abbrev qd:=ZZ P w K mg base (Fn K mg "is_part" iQ q_6) 3 q_6 cW
abbrev mf:=ZZ P w K mg base (Fn K mg "keep_fits" fO aey) 1 aey cm
abbrev iK:=ZZ P w K mg base (Fn K mg "are_letters" dY q_9) 1 q_9 bE
abbrev abE:=ZZ P w K mg base (Fn K mg "fits" uz q_6) 5 q_6 gA
abbrev uU:=ZZ P w K mg base (Fn K mg "_law_told" ku aeu) 8 aeu cL
abbrev mU:=ZZ P w K mg base (Fn K mg "_law_spoilt" gO aeF) 3 aeF cx
abbrev nR:=ZZ P w K mg base (Fn K mg "_law_word" kz pq) 1 pq bZ
abbrev nr:=ZZ P w K mg base (Fn K mg "_law_number" gJ aeE) 1 aeE cw
abbrev rP:=ZZ P w K mg base (Fn K mg "_law_parts" iM aeG) 2 aeG bO
abbrev pQ:=ZZ P w K mg base (Fn K mg "_law_reads" ji pq) 3 pq cS
abbrev wD:=ZZ P w K mg base (Fn K mg "_law_due" nS pq) 4 pq eV
end
section
variable {P:Program}{w:World}{K:FG}{mg:Str->Option Value}{base:Heap}
theorem aia:(["_law_cell"]:List Str).Nodup:=by decide +kernel
theorem aaJ:aQ yb q_0 (ao oX):=by walk_at "sc"
theorem aak(E:Env w K mg)(F:Fn K mg "_law_bag" oX q_0 f fd) :
  cU P w K mg base CX0 1 f fd q_0 (eQ K eU):=by
 refine bH (t:=xY) F.fn aaJ zo (λ cdv A outer s H E' hr=>?_) vO;refine Jd.h ?_;exact ai (ak (ow (aq (ag) (aq (ag) (aq (ag) (aq (fb rfl (se (own:=(["_law_cell"]:List Str)) (fr:=[]) rfl) (cp (aK (dvQ 0) (aM) (aL (ag)))) (λ _ _ _ _ _ _=>aF (i:=0) aia rfl (Or.inl rfl)) (λ _ _ _ _ _ _=>bJ) (λ _ _ _ _ _ _=>dO aag afN rfl E.b_abs aeZ (aq (dvQ 0) (aa)))) (aa)))))))
theorem fD:aQ ur q_1 (ao kA):=by walk_at "sc"
theorem yc(E:Env w K mg)(F:Fn K mg "_law_take" kA q_1 f fd) :
  cU P w K mg base CX0 1 f fd q_1 (eQ K aA):=by
 refine bH (t:=uv) F.fn fD vk (λ cdv A outer s H E' hr=>?_) tm;refine Jd.h ?_;exact af (az (au (abU hr.h) agT (aU aT aS (dvQ 0) (ag)) (ag))
   (af (aw (i:=2) fD.nd rfl (Or.inl rfl) (ag)) <|
   af (az (au agN abL (aU aT aS (dvQ 0) (ag)) (dO bw cJ rfl E.b_len cF (aq (aU aT aS (dvQ 0) (ag)) (aa))))
    (ai (aw (i:=2) fD.nd rfl (Or.inl rfl) (aU aT aS (aU aT aS (dvQ 0) (ag)) (aU aT aS (dvQ 0) (ag)))))
    (ar)) <|
   af (yg (dvQ 0) (ag) (ag) aeL) <|
   af (az (au ahr ag0 (dvQ 2) (ag))
    (ai (g9 (dvQ 2) (n9 (dvQ 0) (ag))))
    (ar)) <|
   ai (g9 (aJ jP gF (aJ bq aX (aJ bq aX (aJ mY jw (aU aT aS (dvQ 0) (ag)) (ag)) (aJ jP gF (dvQ 2) (ag))) (aJ mY jw (ag) (aU aT aS (dvQ 0) (ag)))) (ag)) (n9 (dvQ 0) (ag))))
   (ar)) <|
  af (az (au qA jK (aU aT aS (dvQ 0) (ag)) (ag))
   (af (aw (i:=3) fD.nd rfl (Or.inl rfl) (aJ jP gF (aU aT aS (dvQ 0) (ag)) (dvQ 1))) <|
   af (g9 (aJ yo wK (aU aT aS (dvQ 0) (ag)) (dvQ 1)) (n9 (dvQ 0) (ag))) <|
   ai (ak (dvQ 3)))
   (ar)) <|
  af (aw (i:=4) fD.nd rfl (Or.inl rfl) (aJ jP gF (aJ mY jw (aJ bq aX (aU aT aS (dvQ 0) (ag)) (ag)) (ag)) (ag))) <|
  af (aw (i:=5) fD.nd rfl (Or.inl rfl) (aJ jP gF (aJ mY jw (aJ jP gF (aJ mY jw (dvQ 4) (dvQ 4)) (ag)) (ag)) (ag))) <|
  af (az (au qA jK (dvQ 1) (ag))
   (ai (ak (aJ jP gF (aJ bq aX (aJ mY jw (dvQ 5) (ag)) (dvQ 4)) (dvQ 1))))
   (ar)) <|
  ai (ak (aJ jP gF (aJ yo wK (dvQ 5) (ag)) (dvQ 1)))
theorem ahl:(["_law_k", "_law_letters", "_law_bag_here"]:List Str).Nodup:=by decide +kernel
theorem gE:aQ h7 q_2 (ao dN):=by walk_at "sc"
theorem kP(E:Env w K mg)(F:Fn K mg "_law_drawn_word" dN q_2 f fd)(z1:gZ P w K mg base) :
  cU P w K mg base CX0 2 f fd q_2 (eQ K aG):=by
 obtain⟨_,_,G1,O1⟩:=z1;refine bH (t:=hV aA) F.fn gE jV (λ cdv A outer s H E' hr=>?_) jA;refine Jd.h ?_;exact af (aw (i:=1) gE.nd rfl (Or.inr rfl) (ah)) <|
  af (az (au (bL hr.h) bp (dm O1 hr.m rfl G1.mg G1.fn.kp G1.bd (aq (dvQ 0) (aq (ag) (aa)))) (ag))
   (ai (ak (aU aT aS (aZ (aq (ah) (aq (ah) (aq (ah) (aq (ah) (aq (ah) (aq (ah) (aa)))))))) (dm O1 hr.m rfl G1.mg G1.fn.kp G1.bd (aq (dvQ 0) (aq (ag) (aa)))))))
   (ar)) <|
  ai (ak (ff (ah) (fb rfl (se (own:=(["_law_k"]:List Str)) (fr:=[1,0]) rfl) (eG rfl E.b_range (aq (aJ bq aX (ag) (dm O1 hr.m rfl G1.mg G1.fn.kp G1.bd (aq (dvQ 0) (aq (ag) (aa))))) (aa))) (λ _ _ _ _ _ _=>aF (i:=0) ahl rfl (Or.inl rfl)) (λ _ _ _ _ _ _=>bJ) (λ _ _ _ _ _ _=>aU aT aS (dvQ 1) (dm O1 hr.m rfl G1.mg G1.fn.kp G1.bd (aq (dvQ 2) (aq (ag) (aa))))))))
theorem dy:aQ qI q_3 (ao iB):=by walk_at "sc"
theorem ve(E:Env w K mg)(F:Fn K mg "_law_drawn" iB q_3 f fd)(z1:gZ P w K mg base)(z2:dG P w K mg base) :
  cU P w K mg base CX0 3 f fd q_3 (eQ K cA):=by
 obtain⟨_,_,G1,O1⟩:=z1;obtain⟨_,_,G2,O2⟩:=z2;refine bH (t:=pR aA aG) F.fn dy tR (λ cdv A outer s H E' hr=>?_) rC;refine Jd.h ?_;exact af (aw (i:=2) dy.nd rfl (Or.inl rfl) (aU aT aS (aad (dO (qN rfl) aay rfl E.b_sorted x9 (aq (dvQ 1) (aa)))) (dm O1 hr.m rfl G1.mg G1.fn.kp G1.bd (aq (dvQ 0) (aq (dO xw ad5 rfl E.b_len cF (aq (dvQ 1) (aa))) (aa)))))) <|
  af (aw (i:=3) dy.nd rfl (Or.inl rfl) (ow (aq (dvQ 2) (aa)))) <|
  af (gU PassesOwn.never rfl (cp (aah (aaN hr) (dvQ 1) (dvQ 2))) (aF (i:=4) dy.nd rfl (Or.inl rfl))
   (ai (az (au (bL hr.h) bp (dvQ 4) (ah))
    (ai (cM (dB (dvQ 3) (dm O2 hr.m rfl G2.mg G2.fn.kp G2.bd (aq (dvQ 0) (aa))))))
    (ai (az (au (bL hr.h) bp (dvQ 4) (ah))
     (ai (cM (dB (dvQ 3) (aU aT aS (aZ (aq (ah) (aq (ah) (aq (ah) (aq (ah) (aa)))))) (dm O1 hr.m rfl G1.mg G1.fn.kp G1.bd (aq (dvQ 0) (aq (ag) (aa))))))))
     (ai (az (au (bL hr.h) bp (dvQ 4) (ah))
      (ai (cM (dB (dvQ 3) (fW (bL hr.h) bp (dm O1 hr.m rfl G1.mg G1.fn.kp G1.bd (aq (dvQ 0) (aq (ag) (aa)))) (ag)))))
      (af (g9 (dvQ 4) (d5 rfl (a6 (aF (i:=5) dy.nd rfl (Or.inl rfl)) (a6 (aF (i:=6) dy.nd rfl (Or.inl rfl)) (cY))))) <|
      af (aw (i:=7) dy.nd rfl (Or.inl rfl) (aZ (aq (dvQ 5) (aq (dvQ 6) (aq (aJ bq aX (dvQ 5) (dm O1 hr.m rfl G1.mg G1.fn.kp G1.bd (aq (dvQ 0) (aq (aJ bq aX (aJ qV kU (dvQ 6) (dvQ 5)) (ag)) (aa))))) (aa)))))) <|
      ai (cM (dB (dvQ 3) (aU aT aS (dvQ 7) (dm O1 hr.m rfl G1.mg G1.fn.kp G1.bd (aq (dvQ 0) (aq (ag) (aa))))))))))))))) <|
  ai (ak (zf dW gP rfl E.b_tuple fX (aq (dvQ 3) (aa))))
theorem nj:aQ qS [] (ao gn):=by walk_at "sc"
theorem vV(E:Env w K mg)(F:Fn K mg "_law_forms" gn [] f fd) :
  cU P w K mg base CX0 1 f fd [] (eQ K bz):=by
 refine bH (t:=pI) F.fn nj sd (λ cdv A outer s H E' hr=>?_) q0;refine Jd.h ?_;exact af (aw (i:=0) nj.nd rfl (Or.inl rfl) (i9 (trs:=[(dS "rise",dq (ae (dS "w") (av))),(dS "fall",dq (ae (dS "w") (av))),(dS "cut",dq (ae (dS "w") (av))),(dS "join",dq (ae (dS "w") (av))),(dS "late",dq (ae (dS "w") (ae (eX (ae (dI 0) (ae (dI 2) (av)))) (av)))),(dS "twice",dq (ae (dS "w") (ae (dS "y") (av))))]) (aI (ah) (aZ (aq (ah) (aa))) (aI (ah) (aZ (aq (ah) (aa))) (aI (ah) (aZ (aq (ah) (aa))) (aI (ah) (aZ (aq (ah) (aa))) (aI (ah) (aZ (aq (ah) (aq (ba (aq (ag) (aq (ag) (aa)))) (aa)))) (aI (ah) (aZ (aq (ah) (aq (ah) (aa)))) (fJ))))))))) <|
  af (cM (nW (dvQ 0) (og (trs:=[(dS "fail",dq (ae (eX (ae (dI 0) (ae (dOp ad0 (dI 10) (dI 9)) (av)))) (av))),(dS "ask",dq (ae (dS "w") (ae (dS "w") (ae (eX (ae (dI 1) (ae (dI 40) (av)))) (av))))),(dS "down",dq (av)),(dS "up",dq (av)),(dS "again",dq (av))]) (aI (ah) (aZ (aq (ba (aq (ag) (aq (aJ agD adm (ag) (ag)) (aa)))) (aa))) (aI (ah) (aZ (aq (ah) (aq (ah) (aq (ba (aq (ag) (aq (ag) (aa)))) (aa))))) (aI (ah) (aZ (aa)) (aI (ah) (aZ (aa)) (aI (ah) (aZ (aa)) (fJ))))))))) <|
  ai (ak (dvQ 0))
theorem eJ:aQ hJ [] (ao cK):=by walk_at "sc"
theorem lS(E:Env w K mg)(F:Fn K mg "_law_deed_forms" cK [] f fd) :
  cU P w K mg base CX0 1 f fd [] (eQ K aN):=by
 refine bH (t:=h9) F.fn eJ j8 (λ cdv A outer s H E' hr=>?_) jD;refine Jd.h ?_;exact af (aa4 (i:=0) (j:=1) rfl eJ.nd rfl rfl (by decide) rfl rfl (aq (aZ (aq (ba (aq (ag) (aq (ag) (aa)))) (aq (ba (aq (ag) (aq (ag) (aa)))) (aa)))) (aq (aZ (aq (ah) (aq (ah) (aq (ba (aq (ag) (aq (ag) (aa)))) (aq (ba (aq (ag) (aq (ag) (aa)))) (aq (ba (aq (ag) (aq (ag) (aa)))) (aq (ba (aq (ag) (aq (ag) (aa)))) (aa)))))))) (aa)))) <|
  af (aw (i:=2) eJ.nd rfl (Or.inl rfl) (i9 (trs:=[(dS "group",dq (ae (dS "w") (ae (eX (ae (dI 1) (ae (dI 9) (av)))) (av)))),(dS "wish",aj 1),(dS "copies",vB (dq (ae (dS "w") (av))) (aj 0)),(dS "edition",dq (ae (dS "w") (ae (eX (ae (dI 0) (ae (dI 2) (av)))) (ae (eX (ae (dI 1) (ae (dI 3) (av)))) (av)))))]) (aI (ah) (aZ (aq (ah) (aq (ba (aq (ag) (aq (ag) (aa)))) (aa)))) (aI (ah) (dvQ 1) (aI (ah) (fF (aZ (aq (ah) (aa))) (dvQ 0)) (aI (ah) (aZ (aq (ah) (aq (ba (aq (ag) (aq (ag) (aa)))) (aq (ba (aq (ag) (aq (ag) (aa)))) (aa))))) (fJ))))))) <|
  af (cM (nW (dvQ 2) (og (trs:=[(dS "back",dq (ae (dS "w") (av))),(dS "rank",dq (ae (dS "w") (ae (eX (ae (dI 0) (ae (dI 7) (av)))) (av)))),(dS "store",dq (ae (dS "w") (ae (dS "w") (av)))),(dS "door",dq (ae (dS "w") (ae (dS "w") (av))))]) (aI (ah) (aZ (aq (ah) (aa))) (aI (ah) (aZ (aq (ah) (aq (ba (aq (ag) (aq (ag) (aa)))) (aa)))) (aI (ah) (aZ (aq (ah) (aq (ah) (aa)))) (aI (ah) (aZ (aq (ah) (aq (ah) (aa)))) (fJ)))))))) <|
  af (cM (nW (dvQ 2) (og (trs:=[(dS "rule",vB (dq (ae (dS "w") (ae (dS "w") (ae (eX (ae (dI 1) (ae (dI 20) (av)))) (av))))) (aj 0)),(dS "empty",dq (ae (dS "w") (av))),(dS "fill",dq (ae (dS "w") (av))),(dS "end",dq (ae (dS "e") (ae (dS "w") (av))))]) (aI (ah) (fF (aZ (aq (ah) (aq (ah) (aq (ba (aq (ag) (aq (ag) (aa)))) (aa))))) (dvQ 0)) (aI (ah) (aZ (aq (ah) (aa))) (aI (ah) (aZ (aq (ah) (aa))) (aI (ah) (aZ (aq (ah) (aq (ah) (aa)))) (fJ)))))))) <|
  ai (ak (dvQ 2))
theorem aiC:(["_law_k", "_law_signs", "_law_bag_here"]:List Str).Nodup:=by decide +kernel
theorem bS:aQ iT q_2 (ao dZ):=by walk_at "sc"
theorem mq(E:Env w K mg)(F:Fn K mg "_law_happening" dZ q_2 f fd)(z1:gZ P w K mg base)(z3:rL P w K mg base)(z4:lD P w K mg base)(z2:dG P w K mg base)(z5:fq P w K mg base) :
  cU P w K mg base CX0 4 f fd q_2 (eQ K bF):=by
 obtain⟨_,_,G1,O1⟩:=z1;obtain⟨_,_,G3,O3⟩:=z3;obtain⟨_,_,G4,O4⟩:=z4;obtain⟨_,_,G2,O2⟩:=z2;obtain⟨_,_,G5,O5⟩:=z5;refine bH (t:=iy aA cA bz aG aN) F.fn bS lg (λ cdv A outer s H E' hr=>?_) j9;refine Jd.h ?_;exact af (aw (i:=1) bS.nd rfl (Or.inl rfl) (dm O1 hr.m rfl G1.mg G1.fn.kp G1.bd (aq (dvQ 0) (aq (ag) (aa))))) <|
  af (az (au (bL hr.h) bp (dvQ 1) (ag))
   (ai (ak (dm O3 hr.m rfl G3.mg G3.fn.kp G3.bd (aq (dvQ 0) (aq (iF O4 hr.m rfl G4.mg G4.fn.kp G4.bd) (aa))))))
   (ar)) <|
  af (az (au (bL hr.h) bp (dvQ 1) (ag))
   (af (aw (i:=2) bS.nd rfl (Or.inr rfl) (ah)) <|
   af (aw (i:=3) bS.nd rfl (Or.inl rfl) (ff (ah) (fb rfl (se (own:=(["_law_k"]:List Str)) (fr:=[2,0]) rfl) (eG rfl E.b_range (aq (dm O1 hr.m rfl G1.mg G1.fn.kp G1.bd (aq (dvQ 0) (aq (ag) (aa)))) (aa))) (λ _ _ _ _ _ _=>aF (i:=0) aiC rfl (Or.inl rfl)) (λ _ _ _ _ _ _=>bJ) (λ _ _ _ _ _ _=>aU aT aS (dvQ 1) (dm O1 hr.m rfl G1.mg G1.fn.kp G1.bd (aq (dvQ 2) (aq (dO bw cJ rfl E.b_len cF (aq (dvQ 1) (aa))) (aa)))))))) <|
   ai (ak (ba (aq (ah) (aq (dm O2 hr.m rfl G2.mg G2.fn.kp G2.bd (aq (dvQ 0) (aa))) (aq (aU aT aS (aZ (aq (aK (ah) (aM) (aL (dm O1 hr.m rfl G1.mg G1.fn.kp G1.bd (aq (dvQ 0) (aq (ag) (aa)))))) (aq (dvQ 3) (aa)))) (dm O1 hr.m rfl G1.mg G1.fn.kp G1.bd (aq (dvQ 0) (aq (ag) (aa))))) (aa)))))))
   (ar)) <|
  af (aw (i:=4) bS.nd rfl (Or.inl rfl) (dm O3 hr.m rfl G3.mg G3.fn.kp G3.bd (aq (dvQ 0) (aq (iF O5 hr.m rfl G5.mg G5.fn.kp G5.bd) (aa))))) <|
  af (aw (i:=5) bS.nd rfl (Or.inl rfl) (ub (aaN hr) (i9 (trs:=[(dS "wish",dI 3),(dS "copies",dI 2),(dS "rule",dI 4)]) (aI (ah) (ag) (aI (ah) (ag) (aI (ah) (ag) (fJ))))) (aU aT aS (dvQ 4) (ag)) (ag))) <|
  af (az (au qA jK (dvQ 5) (ag))
   (ai (aw (i:=4) bS.nd rfl (Or.inl rfl) (aJ om kj (aJ om kj (aK (dvQ 4) (aM) (aL (aJ bq aX (dvQ 5) (ag)))) (ba (aq (dO (yi rfl) ab9 rfl E.b_min ae4 (aq (aU aT aS (dvQ 4) (aJ bq aX (dvQ 5) (ag))) (aq (dO (kD rfl) tQ rfl E.b_max wH (aq (ag) (aq (aJ qV kU (aU aT aS (dvQ 4) (dvQ 5)) (ag)) (aa)))) (aa)))) (aa)))) (aK (dvQ 4) (aL (aJ bq aX (dvQ 5) (ag))) (aM)))))
   (ar)) <|
  ai (ak (ba (aq (ah) (aq (dvQ 4) (aa)))))
theorem ail:(["part"]:List Str).Nodup:=by decide +kernel
theorem oN:aQ jL q_4 (ao fj):=by walk_at "sc"
theorem oS(E:Env w K mg)(F:Fn K mg "show_parts" fj q_4 f fd) :
  cU P w K mg base CX0 1 f fd q_4 (eQ K bb):=by
 refine bH (t:=jT) F.fn oN mD (λ cdv A outer s H E' hr=>?_) lh;refine Jd.h ?_;exact ai (ak (ff (ah) (fb rfl (se (own:=(["part"]:List Str)) (fr:=[]) rfl) (cp (dvQ 0)) (λ _ _ _ _ _ _=>aF (i:=0) ail rfl (Or.inl rfl)) (λ _ _ _ _ _ _=>bJ) (λ _ _ _ _ _ _=>zf qm abg rfl E.b_str jf (aq (dvQ 0) (aa))))))
theorem qh:aQ lb q_5 (ao fR):=by walk_at "sc"
theorem pH(E:Env w K mg)(F:Fn K mg "show_deed" fR q_5 f fd)(z7:gI P w K mg base) :
  cU P w K mg base CX0 2 f fd q_5 (eQ K bP):=by
 obtain⟨_,_,G7,O7⟩:=z7;refine bH (t:=lH bb) F.fn qh nL (λ cdv A outer s H E' hr=>?_) mH;refine Jd.h ?_;exact ai (ak (dm O7 hr.m rfl G7.mg G7.fn.kp G7.bd (aq (dvQ 0) (aa))))
theorem aa8:aQ oF q_6 (ao pd):=by walk_at "sc"
theorem aaT(E:Env w K mg)(F:Fn K mg "shown" pd q_6 f fd)(z8:lG P w K mg base) :
  cU P w K mg base CX0 3 f fd q_6 (eQ K fg):=by
 obtain⟨_,_,G8,O8⟩:=z8;refine bH (t:=yG bP) F.fn aa8 zb (λ cdv A outer s H E' hr=>?_) vK;refine Jd.h ?_;exact af (az (au (bL hr.h) bp (dvQ 0) (ah))
   (ai (ak (dm O8 hr.m rfl G8.mg G8.fn.kp G8.bd (aq (dvQ 1) (aa)))))
   (ar)) <|
  af (az (au (bL hr.h) bp (dvQ 0) (ah))
   (ai (ak (je (jz (dvQ 1)) (ah) (ah))))
   (ar)) <|
  ai (ak (dvQ 1))
theorem agO:(["form", "part"]:List Str).Nodup:=by decide +kernel
theorem jx:aQ gf q_7 (ao cO):=by walk_at "sc"
theorem js(E:Env w K mg)(F:Fn K mg "show_happening" cO q_7 f fd)(z7:gI P w K mg base)(z9:yC P w K mg base) :
  cU P w K mg base CX0 4 f fd q_7 (eQ K bh):=by
 obtain⟨_,_,G7,O7⟩:=z7;obtain⟨_,_,G9,O9⟩:=z9;refine bH (t:=f9 bb fg) F.fn jx i6 (λ cdv A outer s H E' hr=>?_) ir;refine Jd.h ?_;exact ai (ak (dm O7 hr.m rfl G7.mg G7.fn.kp G7.bd (aq (fF (aZ (aq (aU aT aS (dvQ 0) (ag)) (aa))) (fb rfl (se (own:=(["form", "part"]:List Str)) (fr:=[]) rfl) (lY rfl E.b_zip (aq (tS rfl E.m_FORMS E.k_FORMS (aU aT aS (dvQ 0) (ag))) (aq (aK (dvQ 0) (aL (ag)) (aM)) (aa)))) (λ _ _ _ _ _ _=>d5 rfl (a6 (aF (i:=0) agO rfl (Or.inl rfl)) (a6 (aF (i:=1) agO rfl (Or.inl rfl)) (cY)))) (λ _ _ _ _ _ _=>bJ) (λ _ _ _ _ _ _=>dm O9 hr.m rfl G9.mg G9.fn.kp G9.bd (aq (dvQ 0) (aq (dvQ 1) (aa)))))) (aa))))
theorem ahE:(["_law_part"]:List Str).Nodup:=by decide +kernel
theorem eZ:aQ lO q_8 (ao fT):=by walk_at "sc"
theorem pA(E:Env w K mg)(F:Fn K mg "_law_written" fT q_8 f fd) :
  cU P w K mg base CX0 1 f fd q_8 (eQ K cb):=by
 refine bH (t:=ma) F.fn eZ oR (λ cdv A outer s H E' hr=>?_) mF;refine Jd.h ?_;exact af (aw (i:=1) eZ.nd rfl (Or.inl rfl) (dvQ 0)) <|
  af (az (au (bL hr.h) bp (aU aT aS (dvQ 0) (ag)) (ah))
   (ai (aw (i:=1) eZ.nd rfl (Or.inl rfl) (aJ om kj (ba (aq (ah) (aa))) (aU aT aS (dvQ 0) (ag)))))
   (ar)) <|
  af (az (au (bL hr.h) bp (aU aT aS (dvQ 0) (ag)) (ah))
   (ai (aw (i:=1) eZ.nd rfl (Or.inl rfl) (aJ om kj (aK (dvQ 0) (aM) (aL (ag))) (ba (aq (aU aT aS (aZ (aq (ah) (aq (ah) (aa)))) (zf wQ afx rfl E.b_int nH (aq (aU aT aS (dvQ 0) (ag)) (aa)))) (aa))))))
   (ar)) <|
  ai (ak (ff (ah) (fb rfl (se (own:=(["_law_part"]:List Str)) (fr:=[]) rfl) (cp (dvQ 1)) (λ _ _ _ _ _ _=>aF (i:=0) ahE rfl (Or.inl rfl)) (λ _ _ _ _ _ _=>bJ) (λ _ _ _ _ _ _=>zf qm abg rfl E.b_str jf (aq (dvQ 0) (aa))))))
theorem aic:(["sign"]:List Str).Nodup:=by decide +kernel
theorem mJ:aQ iW ny (ao dn):=by walk_at "sc"
theorem ml(E:Env w K mg)(F:Fn K mg "read_number" dn ny f fd) :
  cU P w K mg base CX0 1 f fd ny (eQ K aV):=by
 refine bH (t:=iP) F.fn mJ mh (λ cdv A outer s H E' hr=>?_) jZ;refine Jd.h ?_;exact af (az (bA (gS cT bV cT bV (ag) (dO bw cJ rfl E.b_len cF (aq (dvQ 0) (aa))) (lE rfl (E.c_MOST_FIGURES).choose_spec)))
   (ai (ak (bM)))
   (ar)) <|
  af (az (bA (bB (dO (eC rfl) lz rfl E.b_all lj (aq (fb rfl (se (own:=(["sign"]:List Str)) (fr:=[]) rfl) (cp (dvQ 0)) (λ _ _ _ _ _ _=>aF (i:=0) aic rfl (Or.inl rfl)) (λ _ _ _ _ _ _=>bJ) (λ _ _ _ _ _ _=>fW wA sF (dvQ 0) (wC rfl (E.c_FIGURES).choose_spec))) (aa)))))
   (ai (ak (bM)))
   (ar)) <|
  af (az (cy (cP (au (bL hr.h) bp (aU aT aS (dvQ 0) (ag)) (ah)) (cz (au (ia hr.h) fo (dvQ 0) (ah)))))
   (ai (ak (bM)))
   (ar)) <|
  ai (ak (zf iA ou rfl E.b_int nH (aq (dvQ 0) (aa))))
theorem rl:aQ lV vW (ao fU):=by walk_at "sc"
theorem qF(E:Env w K mg)(F:Fn K mg "read_part" fU vW f fd)
  (G12:Fn K mg "read_number" dn ny f12 fd12)(O12:cU P w K mg base CX0 1 f12 fd12 ny (eQ K aV)) :
  cU P w K mg base CX0 2 f fd vW (eQ K ck):=by
 refine bH (t:=me aV) F.fn rl nZ (λ cdv A outer s H E' hr=>?_) mG;refine Jd.h ?_;exact ai (ak (je (oY rfl E.m_BOUNDS E.k_BOUNDS (dvQ 0)) (dm O12 hr.m rfl G12.mg G12.fn.kp G12.bd (aq (dvQ 1) (aa))) (dvQ 1)))
theorem ah2:(["sign"]:List Str).Nodup:=by decide +kernel
theorem vC:aQ pV q_9 (ao iL):=by walk_at "sc"
theorem vT(E:Env w K mg)(F:Fn K mg "is_word" iL q_9 f fd) :
  cU P w K mg base CX0 1 f fd q_9 (eQ K bN):=by
 refine bH (t:=qz) F.fn vC si (λ cdv A outer s H E' hr=>?_) rh;refine Jd.h ?_;exact af (az (cy (cZ (bA (bB (dO bX dE rfl E.b_isinstance aY (aq (dvQ 0) (aq (cC rfl E.b_str jf) (aa)))))) (cQ (bA (gS cT bV cT bV (ag) (dO bw cJ rfl E.b_len cF (aq (dvQ 0) (aa))) (lE rfl (E.c_LONGEST_WORD).choose_spec))))))
   (ai (ak (gj)))
   (ar)) <|
  ai (ak (dO (eC rfl) lz rfl E.b_all lj (aq (fb rfl (se (own:=(["sign"]:List Str)) (fr:=[]) rfl) (cp (dvQ 0)) (λ _ _ _ _ _ _=>aF (i:=0) ah2 rfl (Or.inl rfl)) (λ _ _ _ _ _ _=>bJ) (λ _ _ _ _ _ _=>gr cT bV cT bV (ah) (dvQ 0) (ah))) (aa))))
theorem tE:aQ nv q_9 (ao gK):=by walk_at "sc"
theorem tI(E:Env w K mg)(F:Fn K mg "is_whole" gK q_9 f fd) :
  cU P w K mg base CX0 1 f fd q_9 (eQ K cv):=by
 refine bH (t:=nE) F.fn tE rN (λ cdv A outer s H E' hr=>?_) oZ;refine Jd.h ?_;exact ai (ak (lM (dO bX dE rfl E.b_isinstance aY (aq (dvQ 0) (aq (cC rfl E.b_int nH) (aa)))) (jE (ad3 (dO bX dE rfl E.b_isinstance aY (aq (dvQ 0) (aq (cC rfl E.b_bool xp) (aa))))))))
theorem qc:aQ lN aev (ao fH):=by walk_at "sc"
theorem pW(E:Env w K mg)(F:Fn K mg "is_within" fH aev f fd)(z15:mZ P w K mg base) :
  cU P w K mg base CX0 2 f fd aev (eQ K bu):=by
 obtain⟨_,_,G15,O15⟩:=z15;refine bH (t:=k9 cv) F.fn qc n8 (λ cdv A outer s H E' hr=>?_) mr;refine Jd.h ?_;exact ai (ak (lM (dm O15 hr.m rfl G15.mg G15.fn.kp G15.bd (aq (dvQ 0) (aa))) (jE (gr cT bV cT bV (dvQ 1) (dvQ 0) (dvQ 2)))))
theorem jC:aQ qy q_6 (ao iQ):=by walk_at "sc"
theorem vz(E:Env w K mg)(F:Fn K mg "is_part" iQ q_6 f fd)(z14:la P w K mg base)(z16:ij P w K mg base) :
  cU P w K mg base CX0 3 f fd q_6 (eQ K cW):=by
 obtain⟨_,_,G14,O14⟩:=z14;obtain⟨_,_,G16,O16⟩:=z16;refine bH (t:=qx bN bu) F.fn jC sf (λ cdv A outer s H E' hr=>?_) qR;refine Jd.h ?_;exact af (az (au (bL hr.h) bp (dvQ 0) (ah))
   (ai (ak (dm O14 hr.m rfl G14.mg G14.fn.kp G14.bd (aq (dvQ 1) (aa)))))
   (ar)) <|
  af (az (au (bL hr.h) bp (dvQ 0) (ah))
   (ai (ak (lM (dO bX dE rfl E.b_isinstance aY (aq (dvQ 1) (aq (cC rfl E.b_str jf) (aa)))) (jE (fW (afv hr.h) adq (dvQ 1) (xh rfl E.m_ENDING_SORTS E.t_ENDING_SORTS))))))
   (ar)) <|
  af (g9 (tS rfl E.m_BOUNDS E.k_BOUNDS (dvQ 0)) (d5 rfl (a6 (aF (i:=2) jC.nd rfl (Or.inl rfl)) (a6 (aF (i:=3) jC.nd rfl (Or.inl rfl)) (cY))))) <|
  ai (ak (dm O16 hr.m rfl G16.mg G16.fn.kp G16.bd (aq (dvQ 1) (aq (dvQ 2) (aq (dvQ 3) (aa))))))
theorem gG:aQ lA aey (ao fO):=by walk_at "sc"
theorem rQ(E:Env w K mg)(F:Fn K mg "keep_fits" fO aey f fd) :
  cU P w K mg base CX0 1 f fd aey (eQ K cm):=by
 refine bH (t:=lQ) F.fn gG o8 (λ cdv A outer s H E' hr=>?_) mB;refine Jd.h ?_;exact af (aw (i:=2) gG.nd rfl (Or.inl rfl) (aU aT aS (dvQ 1) (aJ bq aX (rO hr (dvQ 0) (ah)) (ag)))) <|
  af (aw (i:=3) gG.nd rfl (Or.inl rfl) (aU aT aS (dvQ 1) (aJ bq aX (rO hr (dvQ 0) (ah)) (ag)))) <|
  ai (ak (fW cT bV (dvQ 3) (dO (kD rfl) tQ rfl E.b_max wH (aq (aJ qV kU (dvQ 2) (ag)) (aq (ag) (aa))))))
theorem gW:aQ pU q_9 (ao gH):=by walk_at "sc"
theorem vv(E:Env w K mg)(F:Fn K mg "is_deed" gH q_9 f fd)(z17:qd P w K mg base)(z18:mf P w K mg base) :
  cU P w K mg base CX0 4 f fd q_9 (eQ K bG):=by
 obtain⟨_,_,G17,O17⟩:=z17;obtain⟨_,_,G18,O18⟩:=z18;refine bH (t:=rg cW cm) F.fn gW tL (λ cdv A outer s H E' hr=>?_) rm;refine Jd.h ?_;exact af (az (cy (cZ (bA (bB (dO bX dE rfl E.b_isinstance aY (aq (dvQ 0) (aq (cC rfl E.b_tuple fX) (aa)))))) (cZ (bA (jz (dvQ 0))) (cQ (bA (bB (dO bX dE rfl E.b_isinstance aY (aq (aU aT aS (dvQ 0) (ag)) (aq (cC rfl E.b_str jf) (aa))))))))))
   (ai (ak (gj)))
   (ar)) <|
  af (aw (i:=1) gW.nd rfl (Or.inl rfl) (ki rfl E.m_PARTS E.k_PARTS (aU aT aS (dvQ 0) (ag)))) <|
  af (az (cy (cZ (au nA jv (dvQ 1) (bM)) (cQ (au (ia hr.h) fo (dO bw cJ rfl E.b_len cF (aq (dvQ 0) (aa))) (aJ bq aX (dO bw cJ rfl E.b_len cF (aq (dvQ 1) (aa))) (ag))))))
   (ai (ak (gj)))
   (ar)) <|
  af (gU PassesOwn.never rfl (lY rfl E.b_zip (aq (dvQ 1) (aq (aK (dvQ 0) (aL (ag)) (aM)) (aa)))) (d5 rfl (a6 (aF (i:=2) gW.nd rfl (Or.inl rfl)) (a6 (aF (i:=3) gW.nd rfl (Or.inl rfl)) (cY))))
   (ai (az (bA (bB (dm O17 hr.m rfl G17.mg G17.fn.kp G17.bd (aq (dvQ 2) (aq (dvQ 3) (aa))))))
    (ai (ak (gj)))
    (ar)))) <|
  ai (ak (agK (fW (yM hr.h) vR (ah) (dvQ 1)) (jE (dm O18 hr.m rfl G18.mg G18.fn.kp G18.bd (aq (dvQ 1) (aq (dvQ 0) (aa)))))))
theorem agr:(["form", "part"]:List Str).Nodup:=by decide +kernel
theorem eW:aQ k7 ny (ao fN):=by walk_at "sc"
theorem rj(E:Env w K mg)(F:Fn K mg "read_deed" fN ny f fd)
  (G13:Fn K mg "read_part" fU vW f13 fd13)(O13:cU P w K mg base CX0 2 f13 fd13 vW (eQ K ck))
  (G19:Fn K mg "is_deed" gH q_9 f19 fd19)(O19:cU P w K mg base CX0 4 f19 fd19 q_9 (eQ K bG)) :
  cU P w K mg base (CXE P w) 5 f fd ny (oz K cf):=by
 refine zg (t:=λ Ex=>lK Ex ck bG) F.fn eW nU (λ cdv A outer s H E' Ex hr hE hP=>?_) my;refine Jd.h ?_;exact af (az (bA (bB (dO bX dE rfl E.b_isinstance aY (aq (dvQ 0) (aq (cC rfl E.b_str jf) (aa))))))
   (ai (eD hE E.x_NoText E.xn_NoText E.xt_NoText E.xk_NoText hr rfl E.m_NoText (aq (ah) (aa))))
   (ar)) <|
  af (aw (i:=1) eW.nd rfl (Or.inl rfl) (lF (dvQ 0) (ah))) <|
  af (aw (i:=2) eW.nd rfl (Or.inl rfl) (ki rfl E.m_PARTS E.k_PARTS (aU aT aS (dvQ 1) (ag)))) <|
  af (az (cy (cZ (au nA jv (dvQ 2) (bM)) (cQ (au (ia hr.h) fo (dO bw cJ rfl E.b_len cF (aq (dvQ 1) (aa))) (aJ bq aX (dO bw cJ rfl E.b_len cF (aq (dvQ 2) (aa))) (ag))))))
   (ai (eD hE E.x_NoText E.xn_NoText E.xt_NoText E.xk_NoText hr rfl E.m_NoText (aq (ah) (aa))))
   (ar)) <|
  af (aw (i:=3) eW.nd rfl (Or.inl rfl) (zf dW gP rfl E.b_tuple fX (aq (fF (aK (dvQ 1) (aM) (aL (ag))) (fb rfl (se (own:=(["form", "part"]:List Str)) (fr:=[]) rfl) (nq rfl E.b_zip (aq (dvQ 2) (aq (aK (dvQ 1) (aL (ag)) (aM)) (aa)))) (λ _ _ _ _ _ _=>d5 rfl (a6 (aF (i:=0) agr rfl (Or.inl rfl)) (a6 (aF (i:=1) agr rfl (Or.inl rfl)) (cY)))) (λ _ _ _ _ _ _=>bJ) (λ _ _ _ _ _ _=>dm O13 hr.m rfl G13.mg G13.fn.kp G13.bd (aq (dvQ 0) (aq (dvQ 1) (aa)))))) (aa)))) <|
  af (az (bA (bB (dm O19 hr.m rfl G19.mg G19.fn.kp G19.bd (aq (dvQ 3) (aa)))))
   (ai (eD hE E.x_NoText E.xn_NoText E.xt_NoText E.xk_NoText hr rfl E.m_NoText (aq (ah) (aa))))
   (ar)) <|
  ai (ak (dvQ 3))
theorem qg:aQ kJ vW (ao fQ):=by walk_at "sc"
theorem qZ(E:Env w K mg)(F:Fn K mg "read_form" fQ vW f fd)
  (G12:Fn K mg "read_number" dn ny f12 fd12)(O12:cU P w K mg base CX0 1 f12 fd12 ny (eQ K aV))
  (G20:Fn K mg "read_deed" fN ny f20 fd20)(O20:cU P w K mg base (CXE P w) 5 f20 fd20 ny (oz K cf)) :
  cU P w K mg base (CXE P w) 6 f fd vW (oz K b9):=by
 refine zg (t:=λ Ex=>kY Ex aV cf) F.fn qg oB (λ cdv A outer s H E' Ex hr hE hP=>?_) mw;refine Jd.h ?_;exact af (az (oY rfl E.m_RANGES E.k_RANGES (dvQ 0))
   (ai (ak (dm O12 hr.m rfl G12.mg G12.fn.kp G12.bd (aq (dvQ 1) (aa)))))
   (ar)) <|
  af (az (au (bL hr.h) bp (dvQ 0) (ah))
   (ai (ak (ki rfl E.m_TRUTHS E.k_TRUTHS (dvQ 1))))
   (ar)) <|
  af (az (au (bL hr.h) bp (dvQ 0) (ah))
   (ai (ak (aiv hE O20 hr.m rfl G20.mg G20.fn.kp G20.bd (aq (dvQ 1) (aa)))))
   (ar)) <|
  ai (ak (dvQ 1))
theorem aiu:(["sign"]:List Str).Nodup:=by decide +kernel
theorem mv:aQ i8 q_9 (ao dY):=by walk_at "sc"
theorem mI(E:Env w K mg)(F:Fn K mg "are_letters" dY q_9 f fd) :
  cU P w K mg base CX0 1 f fd q_9 (eQ K bE):=by
 refine bH (t:=iX) F.fn mv lu (λ cdv A outer s H E' hr=>?_) jY;refine Jd.h ?_;exact af (az (cy (cZ (bA (bB (dO bX dE rfl E.b_isinstance aY (aq (dvQ 0) (aq (cC rfl E.b_str jf) (aa)))))) (cQ (au qA jK (dO bw cJ rfl E.b_len cF (aq (dvQ 0) (aa))) (lE rfl (E.c_MOST_LETTERS).choose_spec)))))
   (ai (ak (gj)))
   (ar)) <|
  ai (ak (dO (eC rfl) lz rfl E.b_all lj (aq (fb rfl (se (own:=(["sign"]:List Str)) (fr:=[]) rfl) (cp (dvQ 0)) (λ _ _ _ _ _ _=>aF (i:=0) aiu rfl (Or.inl rfl)) (λ _ _ _ _ _ _=>bJ) (λ _ _ _ _ _ _=>gr cT bV cT bV (ah) (dvQ 0) (ah))) (aa))))
theorem tV:aQ abJ q_6 (ao uz):=by walk_at "sc"
theorem adO(E:Env w K mg)(F:Fn K mg "fits" uz q_6 f fd)(z16:ij P w K mg base)
  (G19:Fn K mg "is_deed" gH q_9 f19 fd19)(O19:cU P w K mg base CX0 4 f19 fd19 q_9 (eQ K bG))(z22:iK P w K mg base)(z14:la P w K mg base) :
  cU P w K mg base CX0 5 f fd q_6 (eQ K gA):=by
 obtain⟨_,_,G16,O16⟩:=z16;obtain⟨_,_,G22,O22⟩:=z22;obtain⟨_,_,G14,O14⟩:=z14;refine bH (t:=abn bu bG bE bN) F.fn tV aas (λ cdv A outer s H E' hr=>?_) wk;refine Jd.h ?_;exact af (az (oY rfl E.m_RANGES E.k_RANGES (dvQ 0))
   (af (g9 (tS rfl E.m_RANGES E.k_RANGES (dvQ 0)) (d5 rfl (a6 (aF (i:=2) tV.nd rfl (Or.inl rfl)) (a6 (aF (i:=3) tV.nd rfl (Or.inl rfl)) (cY))))) <|
   ai (ak (dm O16 hr.m rfl G16.mg G16.fn.kp G16.bd (aq (dvQ 1) (aq (dvQ 2) (aq (dvQ 3) (aa)))))))
   (ar)) <|
  af (az (au (bL hr.h) bp (dvQ 0) (ah))
   (ai (ak (dO bX dE rfl E.b_isinstance aY (aq (dvQ 1) (aq (cC rfl E.b_bool xp) (aa))))))
   (ar)) <|
  af (az (au (bL hr.h) bp (dvQ 0) (ah))
   (ai (ak (dm O19 hr.m rfl G19.mg G19.fn.kp G19.bd (aq (dvQ 1) (aa)))))
   (ar)) <|
  af (az (au (bL hr.h) bp (dvQ 0) (ah))
   (ai (ak (dm O22 hr.m rfl G22.mg G22.fn.kp G22.bd (aq (dvQ 1) (aa)))))
   (ar)) <|
  ai (ak (dm O14 hr.m rfl G14.mg G14.fn.kp G14.bd (aq (dvQ 1) (aa))))
theorem abz:(["form", "part"]:List Str).Nodup:=by decide +kernel
theorem gu:aQ hW q_9 (ao dF):=by walk_at "sc"
theorem kR(E:Env w K mg)(F:Fn K mg "is_happening" dF q_9 f fd)(z23:abE P w K mg base) :
  cU P w K mg base CX0 6 f fd q_9 (eQ K bx):=by
 obtain⟨_,_,G23,O23⟩:=z23;refine bH (t:=hU gA) F.fn gu j6 (λ cdv A outer s H E' hr=>?_) jJ;refine Jd.h ?_;exact af (az (cy (cZ (bA (bB (dO bX dE rfl E.b_isinstance aY (aq (dvQ 0) (aq (cC rfl E.b_tuple fX) (aa)))))) (cZ (bA (jz (dvQ 0))) (cQ (bA (bB (dO bX dE rfl E.b_isinstance aY (aq (aU aT aS (dvQ 0) (ag)) (aq (cC rfl E.b_str jf) (aa))))))))))
   (ai (ak (gj)))
   (ar)) <|
  af (aw (i:=1) gu.nd rfl (Or.inl rfl) (ki rfl E.m_FORMS E.k_FORMS (aU aT aS (dvQ 0) (ag)))) <|
  af (az (cy (cZ (au nA jv (dvQ 1) (bM)) (cQ (au (ia hr.h) fo (dO bw cJ rfl E.b_len cF (aq (dvQ 0) (aa))) (aJ bq aX (dO bw cJ rfl E.b_len cF (aq (dvQ 1) (aa))) (ag))))))
   (ai (ak (gj)))
   (ar)) <|
  ai (ak (dO (eC rfl) lz rfl E.b_all lj (aq (fb rfl (se (own:=(["form", "part"]:List Str)) (fr:=[]) rfl) (lY rfl E.b_zip (aq (dvQ 1) (aq (aK (dvQ 0) (aL (ag)) (aM)) (aa)))) (λ _ _ _ _ _ _=>d5 rfl (a6 (aF (i:=0) abz rfl (Or.inl rfl)) (a6 (aF (i:=1) abz rfl (Or.inl rfl)) (cY)))) (λ _ _ _ _ _ _=>bJ) (λ _ _ _ _ _ _=>dm O23 hr.m rfl G23.mg G23.fn.kp G23.bd (aq (dvQ 0) (aq (dvQ 1) (aa))))) (aa))))
theorem abD:(["form", "part"]:List Str).Nodup:=by decide +kernel
theorem cB:aQ gc ny (ao cN):=by walk_at "sc"
theorem jF(E:Env w K mg)(F:Fn K mg "read_happening" cN ny f fd)
  (G21:Fn K mg "read_form" fQ vW f21 fd21)(O21:cU P w K mg base (CXE P w) 6 f21 fd21 vW (oz K b9))
  (G24:Fn K mg "is_happening" dF q_9 f24 fd24)(O24:cU P w K mg base CX0 6 f24 fd24 q_9 (eQ K bx)) :
  cU P w K mg base (CXE P w) 7 f fd ny (oz K bf):=by
 refine aaB (t:=λ Ex=>f6 Ex b9 bx) F.fn cB jm (λ cdv A outer s H E' Ex hr hE hE2 hP=>?_) iu;refine Jd.h ?_;exact af (az (bA (bB (dO bX dE rfl E.b_isinstance aY (aq (dvQ 0) (aq (cC rfl E.b_str jf) (aa))))))
   (ai (eD hE E.x_NoText E.xn_NoText E.xt_NoText E.xk_NoText hr rfl E.m_NoText (aq (ah) (aa))))
   (ar)) <|
  af (aw (i:=1) cB.nd rfl (Or.inl rfl) (yY rfl E.m_FORMS E.k_FORMS (aU aT aS (aaI (dvQ 0) (ah)) (ag)) (ba (aa)))) <|
  af (aw (i:=2) cB.nd rfl (Or.inl rfl) (vd (dvQ 0) (ah) (dO bw cJ rfl E.b_len cF (aq (dvQ 1) (aa))))) <|
  af (aw (i:=3) cB.nd rfl (Or.inl rfl) (zf dW gP rfl E.b_tuple fX (aq (fF (aK (dvQ 2) (aM) (aL (ag))) (acn rfl (se (own:=(["form", "part"]:List Str)) (fr:=[]) rfl) (nq rfl E.b_zip (aq (dvQ 1) (aq (aK (dvQ 2) (aL (ag)) (aM)) (aa)))) (λ _ _ _ _ _ _=>d5 rfl (a6 (aF (i:=0) abD rfl (Or.inl rfl)) (a6 (aF (i:=1) abD rfl (Or.inl rfl)) (cY)))) (λ _ _ _ _ _ _=>bJ) (λ _ _ _ _ _ _ _ Ex hE=>aiv hE O21 hr.m rfl G21.mg G21.fn.kp G21.bd (aq (dvQ 0) (aq (dvQ 1) (aa)))) rfl rfl hE2)) (aa)))) <|
  af (az (bA (bB (dm O24 hr.m rfl G24.mg G24.fn.kp G24.bd (aq (dvQ 3) (aa)))))
   (ai (eD hE E.x_NoText E.xn_NoText E.xt_NoText E.xk_NoText hr rfl E.m_NoText (aq (ah) (aa))))
   (ar)) <|
  ai (ak (dvQ 3))
theorem qO:aQ uM aeu (ao ku):=by walk_at "sc"
theorem xb(E:Env w K mg)(F:Fn K mg "_law_told" ku aeu f fd)
  (G25:Fn K mg "read_happening" cN ny f25 fd25)(O25:cU P w K mg base (CXE P w) 7 f25 fd25 ny (oz K bf)) :
  cU P w K mg base CX0 8 f fd aeu (eQ K cL):=by
 refine bH (t:=uE bf) F.fn qO va (λ cdv A outer s H E' hr=>?_) sC;refine Jd.h ?_;exact af (aa6 rfl rfl (λ _ _ _ _ hE hP =>
   ai (ak (ba (aq (ah) (aq (aiv hE O25 hr.m rfl G25.mg G25.fn.kp G25.bd (aq (dvQ 0) (aa))) (aa)))))) (afs (i:=1) rfl E.m_PlaceError (pE.cons E.e_NoText_PlaceError (pE.nil)) qO.nd rfl rfl rfl (λ _ =>
   ai (az (cy (cP (bB (zz E.b_isinstance (pE.cons ⟨E.x_NoText,E.i_NoText_NoText⟩ (pE.nil)) rfl E.m_NoText (dvQ 1))) (cP (bB (zM E.b_isinstance (pE.cons ⟨E.x_NoText,E.i_NoText_ValueError⟩ (pE.nil)) rfl E.b_ValueError oo (dvQ 1))) (cz (bA (bB (zO (cs:=[.ref kX,.ref iI,.ref iH]) E.b_isinstance (pE.cons ⟨E.x_NoText,E.i_NoText_NoRow_NoLine_NoDeed⟩ (pE.nil)) (oV rfl E.m_NoRow (oV rfl E.m_NoLine (oV rfl E.m_NoDeed (adG)))) (dvQ 1))))))))
     (ai (ak (ba (aq (ah) (aq (bM) (aa))))))
     (ar))) (aai))) <|
  ai (ak (ba (aq (ah) (aq (bM) (aa)))))
theorem dv:aQ nu aeF (ao gO):=by walk_at "sc"
theorem sZ(E:Env w K mg)(F:Fn K mg "_law_spoilt" gO aeF f fd)(z1:gZ P w K mg base)(z2:dG P w K mg base) :
  cU P w K mg base CX0 3 f fd aeF (eQ K cx):=by
 obtain⟨_,_,G1,O1⟩:=z1;obtain⟨_,_,G2,O2⟩:=z2;refine bH (t:=nF aA aG) F.fn dv rW (λ cdv A outer s H E' hr=>?_) pg;refine Jd.h ?_;exact af (aw (i:=2) dv.nd rfl (Or.inl rfl) (dm O1 hr.m rfl G1.mg G1.fn.kp G1.bd (aq (dvQ 0) (aq (aJ bq aX (dO bw cJ rfl E.b_len cF (aq (dvQ 1) (aa))) (ag)) (aa))))) <|
  af (aw (i:=3) dv.nd rfl (Or.inl rfl) (dm O1 hr.m rfl G1.mg G1.fn.kp G1.bd (aq (dvQ 0) (aq (ag) (aa))))) <|
  af (aw (i:=4) dv.nd rfl (Or.inl rfl) (aU aT aS (aZ (aq (ah) (aq (ah) (aq (ah) (aq (ah) (aq (ah) (aq (ah) (aq (ah) (aq (ah) (aq (ah) (aq (ah) (aq (ah) (aq (ah) (aq (ah) (aq (ah) (aa)))))))))))))))) (dm O1 hr.m rfl G1.mg G1.fn.kp G1.bd (aq (dvQ 0) (aq (ag) (aa)))))) <|
  af (aw (i:=5) dv.nd rfl (Or.inl rfl) (lF (dvQ 1) (ah))) <|
  af (aw (i:=6) dv.nd rfl (Or.inl rfl) (dm O1 hr.m rfl G1.mg G1.fn.kp G1.bd (aq (dvQ 0) (aq (dO bw cJ rfl E.b_len cF (aq (dvQ 5) (aa))) (aa))))) <|
  af (az (au agN abL (dvQ 3) (ag))
   (ai (ak (aJ bq aX (aJ bq aX (aK (dvQ 1) (aM) (aL (dvQ 2))) (dvQ 4)) (aK (dvQ 1) (aL (dvQ 2)) (aM)))))
   (ar)) <|
  af (az (au (bL hr.h) bp (dvQ 3) (ag))
   (ai (ak (aJ bq aX (aJ bq aX (aK (dvQ 1) (aM) (aL (dvQ 2))) (dvQ 4)) (aK (dvQ 1) (aL (aJ bq aX (dvQ 2) (ag))) (aM)))))
   (ar)) <|
  af (az (au (bL hr.h) bp (dvQ 3) (ag))
   (ai (ak (aJ bq aX (aK (dvQ 1) (aM) (aL (dvQ 2))) (aK (dvQ 1) (aL (aJ bq aX (dvQ 2) (ag))) (aM)))))
   (ar)) <|
  af (az (au (bL hr.h) bp (dvQ 3) (ag))
   (ai (ak (ff (ah) (fF (aK (dvQ 5) (aM) (aL (dvQ 6))) (aK (dvQ 5) (aL (aJ bq aX (dvQ 6) (ag))) (aM))))))
   (ar)) <|
  af (az (au (bL hr.h) bp (dvQ 3) (ag))
   (ai (ak (ff (ah) (fF (aK (dvQ 5) (aM) (aL (aJ bq aX (dvQ 6) (ag)))) (aK (dvQ 5) (aL (dvQ 6)) (aM))))))
   (ar)) <|
  ai (ak (ff (ah) (fF (fF (aK (dvQ 5) (aM) (aL (dvQ 6))) (aZ (aq (dm O2 hr.m rfl G2.mg G2.fn.kp G2.bd (aq (dvQ 0) (aa))) (aa)))) (aK (dvQ 5) (aL (aJ bq aX (dvQ 6) (ag))) (aM)))))
theorem agn:(["_law_sign"]:List Str).Nodup:=by decide +kernel
theorem xT:aQ ud pq (ao kz):=by walk_at "sc"
theorem yL(E:Env w K mg)(F:Fn K mg "_law_word" kz pq f fd) :
  cU P w K mg base CX0 1 f fd pq (eQ K bZ):=by
 refine bH (t:=uo) F.fn xT vp (λ cdv A outer s H E' hr=>?_) tZ;refine Jd.h ?_;exact ai (ak (lM (gr cT bV cT bV (ag) (dO bw cJ rfl E.b_len cF (aq (dvQ 0) (aa))) (ag)) (jE (dO (eC rfl) lz rfl E.b_all lj (aq (fb rfl (se (own:=(["_law_sign"]:List Str)) (fr:=[]) rfl) (cp (dvQ 0)) (λ _ _ _ _ _ _=>aF (i:=0) agn rfl (Or.inl rfl)) (λ _ _ _ _ _ _=>bJ) (λ _ _ _ _ _ _=>fW wA sF (dvQ 0) (ah))) (aa))))))
theorem agk:(["_law_sign"]:List Str).Nodup:=by decide +kernel
theorem sN:aQ jq aeE (ao gJ):=by walk_at "sc"
theorem tF(E:Env w K mg)(F:Fn K mg "_law_number" gJ aeE f fd) :
  cU P w K mg base CX0 1 f fd aeE (eQ K cw):=by
 refine bH (t:=nz) F.fn sN qP (λ cdv A outer s H E' hr=>?_) oy;refine Jd.h ?_;exact af (az (cy (cZ (bA (gS cT bV cT bV (ag) (dO bw cJ rfl E.b_len cF (aq (dvQ 0) (aa))) (ag))) (cQ (bA (bB (dO (eC rfl) lz rfl E.b_all lj (aq (fb rfl (se (own:=(["_law_sign"]:List Str)) (fr:=[]) rfl) (cp (dvQ 0)) (λ _ _ _ _ _ _=>aF (i:=0) agk rfl (Or.inl rfl)) (λ _ _ _ _ _ _=>bJ) (λ _ _ _ _ _ _=>fW wA sF (dvQ 0) (ah))) (aa))))))))
   (ai (ak (bM)))
   (ar)) <|
  af (az (cy (cZ (cy (cP (au (bL hr.h) bp (aU aT aS (dvQ 0) (ag)) (ah)) (cz (au (ia hr.h) fo (dvQ 0) (ah))))) (cQ (bA (gS cT bV cT bV (dvQ 1) (zf iA ou rfl E.b_int nH (aq (dvQ 0) (aa))) (dvQ 2))))))
   (ai (ak (bM)))
   (ar)) <|
  ai (ak (zf iA ou rfl E.b_int nH (aq (dvQ 0) (aa))))
theorem fC:aQ rR aeG (ao iM):=by walk_at "sc"
theorem vo(E:Env w K mg)(F:Fn K mg "_law_parts" iM aeG f fd)(z28:nR P w K mg base)(z29:nr P w K mg base) :
  cU P w K mg base CX0 2 f fd aeG (eQ K bO):=by
 obtain⟨_,_,G28,O28⟩:=z28;obtain⟨_,_,G29,O29⟩:=z29;refine bH (t:=qC bZ cw) F.fn fC sk (λ cdv A outer s H E' hr=>?_) qr;refine Jd.h ?_;exact af (aw (i:=2) fC.nd rfl (Or.inl rfl) (zV (aaN hr) (dvQ 0) (aU aT aS (dvQ 1) (ag)))) <|
  af (az (cy (cZ (au nA jv (dvQ 2) (bM)) (cQ (au (ia hr.h) fo (dO bw cJ rfl E.b_len cF (aq (dvQ 2) (aa))) (aJ qV kU (dO bw cJ rfl E.b_len cF (aq (dvQ 1) (aa))) (ag))))))
   (ai (ak (bM)))
   (ar)) <|
  af (aw (i:=3) fC.nd rfl (Or.inl rfl) (ow (aq (aU aT aS (dvQ 1) (ag)) (aa)))) <|
  af (gU PassesOwn.never rfl (zE rfl E.b_zip (aq (dvQ 2) (aq (aK (dvQ 1) (aL (ag)) (aM)) (aa)))) (d5 rfl (a6 (aF (i:=4) fC.nd rfl (Or.inl rfl)) (a6 (aF (i:=5) fC.nd rfl (Or.inl rfl)) (cY))))
   (ai (az (cy (cZ (cy (cP (au (bL hr.h) bp (dvQ 4) (ah)) (cz (bB (dm O28 hr.m rfl G28.mg G28.fn.kp G28.bd (aq (dvQ 5) (aa))))))) (cQ (cy (cP (au (bL hr.h) bp (dvQ 4) (ah)) (cz (au rJ (u5 false) (dvQ 5) (ba (aq (ah) (aq (ah) (aq (ah) (aq (ah) (aa)))))))))))))
    (ai (cM (dB (dvQ 3) (dvQ 5))))
    (ai (az (cy (cP (au (bL hr.h) bp (dvQ 4) (ah)) (cz (au rJ (u5 false) (dvQ 5) (ba (aq (ah) (aq (ah) (aa))))))))
     (ai (cM (dB (dvQ 3) (fW (bL hr.h) bp (dvQ 5) (ah)))))
     (ai (az (cy (cP (bB (dO bX dE rfl E.b_isinstance aY (aq (dvQ 4) (aq (cC rfl E.b_tuple fX) (aa))))) (cz (au acB aaY (dm O29 hr.m rfl G29.mg G29.fn.kp G29.bd (aq (dvQ 5) (aq (aU aT aS (dvQ 4) (ag)) (aq (aU aT aS (dvQ 4) (ag)) (aa))))) (bM)))))
      (ai (cM (dB (dvQ 3) (zf iA ou rfl E.b_int nH (aq (dvQ 5) (aa))))))
      (ai (ak (bM)))))))))) <|
  ai (ak (zf dW gP rfl E.b_tuple fX (aq (dvQ 3) (aa))))
theorem afH:(["_law_sign"]:List Str).Nodup:=by decide +kernel
theorem d9:aQ pX pq (ao ji):=by walk_at "sc"
theorem vi(E:Env w K mg)(F:Fn K mg "_law_reads" ji pq f fd)(z28:nR P w K mg base)(z30:rP P w K mg base)(z5:fq P w K mg base)(z4:lD P w K mg base) :
  cU P w K mg base CX0 3 f fd pq (eQ K cS):=by
 obtain⟨_,_,G28,O28⟩:=z28;obtain⟨_,_,G30,O30⟩:=z30;obtain⟨_,_,G5,O5⟩:=z5;obtain⟨_,_,G4,O4⟩:=z4;refine bH (t:=qB bZ bO aN bz) F.fn d9 tN (λ cdv A outer s H E' hr=>?_) rM;refine Jd.h ?_;exact af (aw (i:=1) d9.nd rfl (Or.inl rfl) (lF (dvQ 0) (ah))) <|
  af (az (cy (cP (au (bL hr.h) bp (aU aT aS (dvQ 1) (ag)) (ah)) (cz (au qA jK (dO bw cJ rfl E.b_len cF (aq (dvQ 1) (aa))) (ag)))))
   (af (aw (i:=2) d9.nd rfl (Or.inl rfl) (ff (ah) (aK (dvQ 1) (aL (ag)) (aM)))) <|
   af (aw (i:=3) d9.nd rfl (Or.inl rfl) (lM (fW cT bV (dO bw cJ rfl E.b_len cF (aq (dvQ 2) (aa))) (ag)) (jE (dO (eC rfl) lz rfl E.b_all lj (aq (fb rfl (se (own:=(["_law_sign"]:List Str)) (fr:=[]) rfl) (cp (dvQ 2)) (λ _ _ _ _ _ _=>aF (i:=0) afH rfl (Or.inl rfl)) (λ _ _ _ _ _ _=>bJ) (λ _ _ _ _ _ _=>gr cT bV cT bV (ah) (dvQ 0) (ah))) (aa)))))) <|
   ai (ak (je (cy (cP (bB (dvQ 3)) (cz (bB (dm O28 hr.m rfl G28.mg G28.fn.kp G28.bd (aq (aU aT aS (dvQ 1) (ag)) (aa))))))) (ba (aq (ah) (aq (aU aT aS (dvQ 1) (ag)) (aq (dvQ 2) (aa))))) (bM))))
   (ar)) <|
  af (az (cy (cP (au (bL hr.h) bp (aU aT aS (dvQ 1) (ag)) (ah)) (cz (au qA jK (dO bw cJ rfl E.b_len cF (aq (dvQ 1) (aa))) (ag)))))
   (af (aw (i:=4) d9.nd rfl (Or.inl rfl) (dm O30 hr.m rfl G30.mg G30.fn.kp G30.bd (aq (iF O5 hr.m rfl G5.mg G5.fn.kp G5.bd) (aq (aK (dvQ 1) (aL (ag)) (aM)) (aa))))) <|
   af (az (au nA jv (dvQ 4) (bM))
    (ai (ak (bM)))
    (ar)) <|
   af (aw (i:=5) d9.nd rfl (Or.inl rfl) (ub (aaN hr) (i9 (trs:=[(dS "wish",dI 3),(dS "copies",dI 2),(dS "rule",dI 4)]) (aI (ah) (ag) (aI (ah) (ag) (aI (ah) (ag) (fJ))))) (aU aT aS (dvQ 4) (ag)) (ag))) <|
   af (az (cy (cP (au qA jK (dvQ 5) (ag)) (cz (au qA jK (aU aT aS (dvQ 4) (aJ bq aX (dvQ 5) (ag))) (dO (kD rfl) tQ rfl E.b_max wH (aq (ag) (aq (aJ qV kU (aU aT aS (dvQ 4) (dvQ 5)) (ag)) (aa))))))))
    (ai (ak (bM)))
    (ar)) <|
   ai (ak (ba (aq (ah) (aq (dvQ 4) (aa))))))
   (ar)) <|
  ai (ak (dm O30 hr.m rfl G30.mg G30.fn.kp G30.bd (aq (iF O4 hr.m rfl G4.mg G4.fn.kp G4.bd) (aq (dvQ 1) (aa)))))
theorem u4:aQ yX pq (ao nS):=by walk_at "sc"
theorem aaC(E:Env w K mg)(F:Fn K mg "_law_due" nS pq f fd)(z31:pQ P w K mg base) :
  cU P w K mg base CX0 4 f fd pq (eQ K eV):=by
 obtain⟨_,_,G31,O31⟩:=z31;refine bH (t:=yB cS) F.fn u4 wX (λ cdv A outer s H E' hr=>?_) vb;refine Jd.h ?_;exact af (aw (i:=1) u4.nd rfl (Or.inl rfl) (dm O31 hr.m rfl G31.mg G31.fn.kp G31.bd (aq (dvQ 0) (aa)))) <|
  ai (ak (je (au nA jv (dvQ 1) (bM)) (ba (aq (ah) (aq (bM) (aa)))) (ba (aq (ah) (aq (dvQ 1) (aa))))))
theorem jd:aQ afQ q_0 (ao nY):=by walk_at "sc"
theorem afO(E:Env w K mg)(F:Fn K mg "law" nY q_0 f fd)(z0:xk P w K mg base)(z6:iR P w K mg base)(z10:fZ P w K mg base)(z11:lq P w K mg base)(z26:uU P w K mg base)(z1:gZ P w K mg base)(z27:mU P w K mg base)(z32:wD P w K mg base) :
  cU P w K mg base CX0 9 f fd q_0 (eQ K k8):=by
 obtain⟨_,_,G0,O0⟩:=z0;obtain⟨_,_,G6,O6⟩:=z6;obtain⟨_,_,G10,O10⟩:=z10;obtain⟨_,_,G11,O11⟩:=z11;obtain⟨_,_,G26,O26⟩:=z26;obtain⟨_,_,G1,O1⟩:=z1;obtain⟨_,_,G27,O27⟩:=z27;obtain⟨_,_,G32,O32⟩:=z32;refine bH (t:=afy eU bF bh cb cL aA cx eV) F.fn jd acw (λ cdv A outer s H E' hr=>?_) aba;refine Jd.h ?_;exact af (aw (i:=1) jd.nd rfl (Or.inl rfl) (dm O0 hr.m rfl G0.mg G0.fn.kp G0.bd (aq (dvQ 0) (aa)))) <|
  af (gU PassesOwn.never rfl (eG rfl E.b_range (aq (ag) (aa))) (aF (i:=2) jd.nd rfl (Or.inl rfl))
   (af (aw (i:=3) jd.nd rfl (Or.inl rfl) (dm O6 hr.m rfl G6.mg G6.fn.kp G6.bd (aq (dvQ 1) (aa)))) <|
   af (aw (i:=4) jd.nd rfl (Or.inl rfl) (dm O10 hr.m rfl G10.mg G10.fn.kp G10.bd (aq (dvQ 3) (aa)))) <|
   af (az (cy (cZ (au (ia hr.h) fo (dvQ 4) (dm O11 hr.m rfl G11.mg G11.fn.kp G11.bd (aq (dvQ 3) (aa)))) (cQ (au (ia hr.h) fo (dO (gQ hr.h) kB rfl E.b_repr o9 (aq (dm O26 hr.m rfl G26.mg G26.fn.kp G26.bd (aq (dvQ 4) (aa))) (aa))) (dO (gQ hr.h) kB rfl E.b_repr o9 (aq (ba (aq (ah) (aq (dvQ 3) (aa)))) (aa)))))))
    (ai (ak (gj)))
    (ar)) <|
   af (gU PassesOwn.never rfl (eG rfl E.b_range (aq (aJ bq aX (ag) (dm O1 hr.m rfl G1.mg G1.fn.kp G1.bd (aq (dvQ 1) (aq (ag) (aa))))) (aa))) (aF (i:=5) jd.nd rfl (Or.inl rfl))
    (ai (aw (i:=4) jd.nd rfl (Or.inl rfl) (dm O27 hr.m rfl G27.mg G27.fn.kp G27.bd (aq (dvQ 1) (aq (dvQ 4) (aa))))))) <|
   af (gU PassesOwn.never rfl (eG rfl E.b_range (aq (ag) (aa))) (aF (i:=6) jd.nd rfl (Or.inl rfl))
    (ai (az (au (ia hr.h) fo (dO (gQ hr.h) kB rfl E.b_repr o9 (aq (dm O26 hr.m rfl G26.mg G26.fn.kp G26.bd (aq (dvQ 4) (aa))) (aa))) (dO (gQ hr.h) kB rfl E.b_repr o9 (aq (dm O32 hr.m rfl G32.mg G32.fn.kp G32.bd (aq (dvQ 4) (aa))) (aa))))
     (ai (ak (gj)))
     (ar)))) <|
   af (aw (i:=7) jd.nd rfl (Or.inl rfl) (aZ (aq (bM) (aq (ag) (aq (gj) (aq (aZ (aq (ah) (aa))) (aq (ba (aq (ah) (aa))) (aq (wO) (aq (dvQ 3) (aq (ah) (aq (ah) (aq (ah) (aq (ah) (aq (aJ bq aX (ah) (aJ adN aaq (ah) (ag))) (aa))))))))))))))) <|
   ai (az (au (ia hr.h) fo (dm O26 hr.m rfl G26.mg G26.fn.kp G26.bd (aq (aU aT aS (dvQ 7) (dm O1 hr.m rfl G1.mg G1.fn.kp G1.bd (aq (dvQ 1) (aq (ag) (aa))))) (aa))) (ba (aq (ah) (aq (bM) (aa)))))
    (ai (ak (gj)))
    (ar)))) <|
  ai (ak (gj))
theorem all_mk{l:W.OpenLaw}{w:World}{K:FG}{h:Heap}{mg:Str->Option Value}{fa:Addr}(X:K.In h)(G:h.Ns mainGlobals mg)(hfa:mg "law" = some (.ref fa))
  (p0:PFn K "_law_bag" oX)
  (p1:PFn K "_law_take" kA)
  (p2:PFn K "_law_drawn_word" dN)
  (p3:PFn K "_law_drawn" iB)
  (p4:PFn K "_law_forms" gn)
  (p5:PFn K "_law_deed_forms" cK)
  (p6:PFn K "_law_happening" dZ)
  (p7:PFn K "show_parts" fj)
  (p8:PFn K "show_deed" fR)
  (p9:PFn K "shown" pd)
  (p10:PFn K "show_happening" cO)
  (p11:PFn K "_law_written" fT)
  (p12:PFn K "read_number" dn)
  (p13:PFn K "read_part" fU)
  (p14:PFn K "is_word" iL)
  (p15:PFn K "is_whole" gK)
  (p16:PFn K "is_within" fH)
  (p17:PFn K "is_part" iQ)
  (p18:PFn K "keep_fits" fO)
  (p19:PFn K "is_deed" gH)
  (p20:PFn K "read_deed" fN)
  (p21:PFn K "read_form" fQ)
  (p22:PFn K "are_letters" dY)
  (p23:PFn K "fits" uz)
  (p24:PFn K "is_happening" dF)
  (p25:PFn K "read_happening" cN)
  (p26:PFn K "_law_told" ku)
  (p27:PFn K "_law_spoilt" gO)
  (p28:PFn K "_law_word" kz)
  (p29:PFn K "_law_number" gJ)
  (p30:PFn K "_law_parts" iM)
  (p31:PFn K "_law_reads" ji)
  (p32:PFn K "_law_due" nS)
  {f33:Addr}{oc33 kV33 dc33 pm33 cd33 ct33:Value}{od33 an33:Option Addr}{sl33:Array (Option Value)}
  (a33:W.nsIn K mainGlobals "law" = some (some (.ref f33)))(l33:K.lookup f33=some ⟨oc33,od33,.func (W.fnOf "law" "law" (cI nY) (bU nY) (ao nY) .none kV33 dc33 pm33 an33 cd33 ct33),sl33⟩)(c33:W.codeIn K cd33 "law" = true)(k33:W.keepIn K (.ref f33)=true)
  (xg_NoDeed:W.nsIn K mainGlobals "NoDeed" = some (some (.ref iH)))
  (xg_NoLine:W.nsIn K mainGlobals "NoLine" = some (some (.ref iI)))
  (xg_NoRow:W.nsIn K mainGlobals "NoRow" = some (some (.ref kX)))
  (xg_NoText:W.nsIn K mainGlobals "NoText" = some (some (.ref aD)))
  (xg_PlaceError:W.nsIn K mainGlobals "PlaceError" = some (some (.ref fi)))
  (xg1:W.specialIn K (.builtin "object.__class__") "__get__" = some (some (.builtin "getset_descriptor.__get__")))(xg2:W.takesIn K (.builtin "object.__class__")=some true)
  (x1_NoText:PXc K aD)
  (xf_e_NoText_PlaceError:W.exmOne K (.ref aD) (.ref fi)=some true)
  (xf_i_NoText_NoRow_NoLine_NoDeed:W.kitAny K (.ref aD) [.ref kX,.ref iI,.ref iH]=some false)
  (xf_i_NoText_NoText:W.kitAny K (.ref aD) [.ref aD]=some true)
  (xf_i_NoText_ValueError:W.kitAny K (.ref aD) [.type "ValueError"]=some true)
  (xf_xk_NoText:W.keepIn K (.ref aD)=true)
  (xf_xn_NoText:XO.xno K aD=true)
  (xf_xt_NoText:W.typeIn K (.ref aD)=some (.type "type"))
  (gm_BOUNDS:W.nsIn K mainGlobals "BOUNDS" = some (some (.ref iC)))
  (gm_ENDING_SORTS:W.nsIn K mainGlobals "ENDING_SORTS" = some (some (.ref dH)))
  (gm_FORMS:W.nsIn K mainGlobals "FORMS" = some (some (.ref kL)))
  (gm_PARTS:W.nsIn K mainGlobals "PARTS" = some (some (.ref lI)))
  (gm_RANGES:W.nsIn K mainGlobals "RANGES" = some (some (.ref iV)))
  (gm_TRUTHS:W.nsIn K mainGlobals "TRUTHS" = some (some (.ref iU)))
  (ki_BOUNDS:acK K iC fE=true)(kh_BOUNDS:hashesOf K iC=some (fE.map λ p=>PyData.keyHash w.params p.1))
  (ki_FORMS:acK K kL fk=true)(kh_FORMS:hashesOf K kL=some (fk.map λ p=>PyData.keyHash w.params p.1))
  (ki_PARTS:acK K lI gw=true)(kh_PARTS:hashesOf K lI=some (gw.map λ p=>PyData.keyHash w.params p.1))
  (ki_RANGES:acK K iV fe=true)(kh_RANGES:hashesOf K iV=some (fe.map λ p=>PyData.keyHash w.params p.1))
  (ki_TRUTHS:acK K iU bT=true)(kh_TRUTHS:hashesOf K iU=some (bT.map λ p=>PyData.keyHash w.params p.1))
  (tt_ENDING_SORTS:sM K (.ref dH) (.tuple [.str "wish",.str "store",.str "door",.str "rule"])=true)
  (b_ValueError:W.nsIn K mainGlobals "ValueError" = some none)
  (b_abs:W.nsIn K mainGlobals "abs" = some none)
  (b_all:W.nsIn K mainGlobals "all" = some none)
  (b_bool:W.nsIn K mainGlobals "bool" = some none)
  (b_int:W.nsIn K mainGlobals "int" = some none)
  (b_isinstance:W.nsIn K mainGlobals "isinstance" = some none)
  (b_len:W.nsIn K mainGlobals "len" = some none)
  (b_max:W.nsIn K mainGlobals "max" = some none)
  (b_min:W.nsIn K mainGlobals "min" = some none)
  (b_range:W.nsIn K mainGlobals "range" = some none)
  (b_repr:W.nsIn K mainGlobals "repr" = some none)
  (b_sorted:W.nsIn K mainGlobals "sorted" = some none)
  (b_str:W.nsIn K mainGlobals "str" = some none)
  (b_tuple:W.nsIn K mainGlobals "tuple" = some none)
  (b_zip:W.nsIn K mainGlobals "zip" = some none)
  {t_FIGURES:Tok}(g_FIGURES:W.nsIn K mainGlobals "FIGURES" = some (some (.str "0123456789" t_FIGURES)))
  {t_LONGEST_WORD:Tok}(g_LONGEST_WORD:W.nsIn K mainGlobals "LONGEST_WORD" = some (some (.int 8 t_LONGEST_WORD)))
  {t_MOST_FIGURES:Tok}(g_MOST_FIGURES:W.nsIn K mainGlobals "MOST_FIGURES" = some (some (.int 10 t_MOST_FIGURES)))
  {t_MOST_LETTERS:Tok}(g_MOST_LETTERS:W.nsIn K mainGlobals "MOST_LETTERS" = some (some (.int 12 t_MOST_LETTERS))) :
  ∃ fd:FuncData,(∀ (s:Shared) (v:Value),BindsTo s fd ⟨[v],[]⟩ [("_law_script",v)])/\∀ base:Heap,K.In base->base.Ns mainGlobals mg->cU l.prog w K mg base CX0 9 fa fd q_0 (eQ K k8):=by
 have e:=hfa.symm.trans (W.mg_of X G a33);cases e;have E:Env w K mg:=⟨W.mg_of X G xg_NoDeed,W.mg_of X G xg_NoLine,W.mg_of X G xg_NoRow,W.mg_of X G xg_NoText,W.mg_of X G xg_PlaceError,x1_NoText.xc xg1 xg2,xf_e_NoText_PlaceError,xf_i_NoText_NoRow_NoLine_NoDeed,xf_i_NoText_NoText,xf_i_NoText_ValueError,xf_xk_NoText,xf_xn_NoText,xf_xt_NoText,W.mg_of X G gm_BOUNDS,W.mg_of X G gm_ENDING_SORTS,W.mg_of X G gm_FORMS,W.mg_of X G gm_PARTS,W.mg_of X G gm_RANGES,W.mg_of X G gm_TRUTHS,⟨ki_BOUNDS,kh_BOUNDS,by decide +kernel,by decide⟩,⟨ki_FORMS,kh_FORMS,by decide +kernel,by decide⟩,⟨ki_PARTS,kh_PARTS,by decide +kernel,by decide⟩,⟨ki_RANGES,kh_RANGES,by decide +kernel,by decide⟩,⟨ki_TRUTHS,kh_TRUTHS,by decide +kernel,by decide⟩,tt_ENDING_SORTS,W.mg_none_of X G b_ValueError,W.mg_none_of X G b_abs,W.mg_none_of X G b_all,W.mg_none_of X G b_bool,W.mg_none_of X G b_int,W.mg_none_of X G b_isinstance,W.mg_none_of X G b_len,W.mg_none_of X G b_max,W.mg_none_of X G b_min,W.mg_none_of X G b_range,W.mg_none_of X G b_repr,W.mg_none_of X G b_sorted,W.mg_none_of X G b_str,W.mg_none_of X G b_tuple,W.mg_none_of X G b_zip,⟨_,W.mg_of X G g_FIGURES⟩,⟨_,W.mg_of X G g_LONGEST_WORD⟩,⟨_,W.mg_of X G g_MOST_FIGURES⟩,⟨_,W.mg_of X G g_MOST_LETTERS⟩⟩;obtain⟨_,_,G0⟩:=p0.fn (ps:=q_0) X G (by walk_at "b1");obtain⟨_,_,G1⟩:=p1.fn (ps:=q_1) X G (by walk_at "b2");obtain⟨_,_,G2⟩:=p2.fn (ps:=q_2) X G (by walk_at "b1");obtain⟨_,_,G3⟩:=p3.fn (ps:=q_3) X G (by walk_at "b2");obtain⟨_,_,G4⟩:∃ f fd,Fn K mg "_law_forms" gn [] f fd:=p4.fn X G (λ _ _ _ _ _ _ us hl=>by obtain rfl:=D.aef hl;rfl);obtain⟨_,_,G5⟩:∃ f fd,Fn K mg "_law_deed_forms" cK [] f fd:=p5.fn X G (λ _ _ _ _ _ _ us hl=>by obtain rfl:=D.aef hl;rfl);obtain⟨_,_,G6⟩:=p6.fn (ps:=q_2) X G (by walk_at "b1");obtain⟨_,_,G7⟩:=p7.fn (ps:=q_4) X G (by walk_at "b1");obtain⟨_,_,G8⟩:=p8.fn (ps:=q_5) X G (by walk_at "b1");obtain⟨_,_,G9⟩:=p9.fn (ps:=q_6) X G (by walk_at "b2");obtain⟨_,_,G10⟩:=p10.fn (ps:=q_7) X G (by walk_at "b1");obtain⟨_,_,G11⟩:=p11.fn (ps:=q_8) X G (by walk_at "b1");obtain⟨_,_,G12⟩:=p12.fn (ps:=ny) X G (by walk_at "b1");obtain⟨_,_,G13⟩:=p13.fn (ps:=vW) X G (by walk_at "b2");obtain⟨_,_,G14⟩:=p14.fn (ps:=q_9) X G (by walk_at "b1");obtain⟨_,_,G15⟩:=p15.fn (ps:=q_9) X G (by walk_at "b1");obtain⟨_,_,G16⟩:=p16.fn (ps:=aev) X G (by walk_at "b3");obtain⟨_,_,G17⟩:=p17.fn (ps:=q_6) X G (by walk_at "b2");obtain⟨_,_,G18⟩:=p18.fn (ps:=aey) X G (by walk_at "b2");obtain⟨_,_,G19⟩:=p19.fn (ps:=q_9) X G (by walk_at "b1");obtain⟨_,_,G20⟩:=p20.fn (ps:=ny) X G (by walk_at "b1");obtain⟨_,_,G21⟩:=p21.fn (ps:=vW) X G (by walk_at "b2");obtain⟨_,_,G22⟩:=p22.fn (ps:=q_9) X G (by walk_at "b1");obtain⟨_,_,G23⟩:=p23.fn (ps:=q_6) X G (by walk_at "b2");obtain⟨_,_,G24⟩:=p24.fn (ps:=q_9) X G (by walk_at "b1");obtain⟨_,_,G25⟩:=p25.fn (ps:=ny) X G (by walk_at "b1");obtain⟨_,_,G26⟩:=p26.fn (ps:=aeu) X G (by walk_at "b1");obtain⟨_,_,G27⟩:=p27.fn (ps:=aeF) X G (by walk_at "b2");obtain⟨_,_,G28⟩:=p28.fn (ps:=pq) X G (by walk_at "b1");obtain⟨_,_,G29⟩:=p29.fn (ps:=aeE) X G (by walk_at "b3");obtain⟨_,_,G30⟩:=p30.fn (ps:=aeG) X G (by walk_at "b2");obtain⟨_,_,G31⟩:=p31.fn (ps:=pq) X G (by walk_at "b1");obtain⟨_,_,G32⟩:=p32.fn (ps:=pq) X G (by walk_at "b1");have G33:Fn K mg "law" nY q_0 _ _:=agd X G a33 l33 c33 k33 (λ _ _ _ _ _ _ us hl=>by obtain⟨_,rfl⟩:=D.adl hl;rfl);refine⟨W.fnOf "law" "law" (cI nY) (bU nY) (ao nY) .none kV33 dc33 pm33 an33 cd33 ct33,λ s v=>.of_eq rfl,λ base _ _=>?_⟩;have z0:xk l.prog w K mg base:=⟨_,_,G0,aak E G0⟩;have z1:gZ l.prog w K mg base:=⟨_,_,G1,yc E G1⟩;have z2:dG l.prog w K mg base:=⟨_,_,G2,kP E G2 z1⟩;have z3:rL l.prog w K mg base:=⟨_,_,G3,ve E G3 z1 z2⟩;have z4:lD l.prog w K mg base:=⟨_,_,G4,vV E G4⟩;have z5:fq l.prog w K mg base:=⟨_,_,G5,lS E G5⟩;have z6:iR l.prog w K mg base:=⟨_,_,G6,mq E G6 z1 z3 z4 z2 z5⟩;have z7:gI l.prog w K mg base:=⟨_,_,G7,oS E G7⟩;have z8:lG l.prog w K mg base:=⟨_,_,G8,pH E G8 z7⟩;have z9:yC l.prog w K mg base:=⟨_,_,G9,aaT E G9 z8⟩;have z10:fZ l.prog w K mg base:=⟨_,_,G10,js E G10 z7 z9⟩;have z11:lq l.prog w K mg base:=⟨_,_,G11,pA E G11⟩;have O12:=ml (P:=l.prog) (base:=base) E G12;have O13:=qF (P:=l.prog) (base:=base) E G13 G12 O12;have z14:la l.prog w K mg base:=⟨_,_,G14,vT E G14⟩;have z15:mZ l.prog w K mg base:=⟨_,_,G15,tI E G15⟩;have z16:ij l.prog w K mg base:=⟨_,_,G16,pW E G16 z15⟩;have z17:qd l.prog w K mg base:=⟨_,_,G17,vz E G17 z14 z16⟩;have z18:mf l.prog w K mg base:=⟨_,_,G18,rQ E G18⟩;have O19:=vv (P:=l.prog) (base:=base) E G19 z17 z18;have O20:=rj (P:=l.prog) (base:=base) E G20 G13 O13 G19 O19;have O21:=qZ (P:=l.prog) (base:=base) E G21 G12 O12 G20 O20;have z22:iK l.prog w K mg base:=⟨_,_,G22,mI E G22⟩;have z23:abE l.prog w K mg base:=⟨_,_,G23,adO E G23 z16 G19 O19 z22 z14⟩;have O24:=kR (P:=l.prog) (base:=base) E G24 z23;have O25:=jF (P:=l.prog) (base:=base) E G25 G21 O21 G24 O24;have z26:uU l.prog w K mg base:=⟨_,_,G26,xb E G26 G25 O25⟩;have z27:mU l.prog w K mg base:=⟨_,_,G27,sZ E G27 z1 z2⟩;have z28:nR l.prog w K mg base:=⟨_,_,G28,yL E G28⟩;have z29:nr l.prog w K mg base:=⟨_,_,G29,tF E G29⟩;have z30:rP l.prog w K mg base:=⟨_,_,G30,vo E G30 z28 z29⟩;have z31:pQ l.prog w K mg base:=⟨_,_,G31,vi E G31 z28 z30 z5 z4⟩;have z32:wD l.prog w K mg base:=⟨_,_,G32,aaC E G32 z31⟩;have O33:=afO (P:=l.prog) (base:=base) E G33 z0 z6 z10 z11 z26 z1 z27 z32;exact O33
end
theorem walk{l:W.OpenLaw}{q:Program}{loose:List Str}{XP:(Str->Option Value)->Heap->Prop}{YP:World->Heap->Prop}{d:DefRec}{K:Params->FG}(hq:PyProof.Rows.importsNone q=true)(hn:l.most=some 63)(hdf:d.params.defaults=[])
  (hY:∀ (w:World) (h:Heap),YP w h->(K w.params).In h)
  (F:∀ (w:World) (mg:Str->Option Value) (fa:Addr) (h:Heap),(K w.params).In h->h.Ns mainGlobals mg->mg d.name=some (.ref fa) ->
   ∃ fd:FuncData,(∀ (s:Shared) (u:Value),BindsTo s fd ⟨[u],[]⟩ [("_law_script",u)])/\∀ base:Heap,(K w.params).In base->base.Ns mainGlobals mg->cU l.prog w (K w.params) mg base CX0 9 fa fd q_0 (eQ (K w.params) k8)) :
  W.WalkO q loose XP YP l.row.toRowW d [] (λ f vs=>PySem.call f vs):=
 L2.adH (n:=63) (k:=9) (x:= "_law_script") (CX:=λ _=>CX0) (sp:=λ w=>eQ (K w.params) k8) hq hn (by decide) hdf ⟨rfl,rfl,by decide,by decide⟩ hY F (λ _ H a ns hl hO hS=>D.wM hl hO hS aaD) λ _ _ _ _ _ z=>z
end K40
end
namespace PySem.W.Fast
def tw9434745614767594782:=0
def tw13118194578281853436:=0
def tw10860104991783023163:=0
def tw12797057383891508635:=0
def tw16639723022879844603:=0
def tw1505749194479859130:=0
def tw2469877926862037401:=0
def tw711461412130383764:=0
def tw3884338658214732293:=0
def tw8955882537077937509:=0
def tw2845464078200798084:=0
def tw2966370652540256612:=0
def tw12146209171739053667:=0
def tw3104941214585669122:=0
def tw7038694481421130528:=0
def tw2429365843950818776:=0
end PySem.W.Fast
open PySem PySem.W PyProof.Rows
local macro_rules | `(tactic| walk_at "kf")=>`(tactic| (refine' D.afK ?a ?l ?c ?k; (case a=>k_is); (case l=>k_is); (case c=>k_is); (case k=>k_is)))
local macro_rules | `(tactic| walk_at "km")=>`(tactic| (refine' D.afL ?a ?i ?l ?c ?k; (case a=>k_is); (case i=>k_is); (case l=>k_is); (case c=>k_is); (case k=>k_is)))
local macro_rules | `(tactic| walk_at "kx")=>`(tactic| (refine' D.aeQ ?a ?i ?l ?c ?k ?m ?t ?n; (case a=>k_is); (case i=>k_is); (case l=>k_is); (case c=>k_is); (case k=>k_is); (case m=>kernel_rfl); (case t=>k_is); (case n=>k_is)))
local macro_rules | `(tactic| walk_at "ke")=>`(tactic| (refine' ⟨?a,?b,?c,?d,?e⟩; (case a=>kernel_rfl); (case b=>k_is); (case c=>k_is); (case d=>k_is); (case e=>k_is)))
set_option maxRecDepth 100000
set_option maxHeartbeats 0
theorem PySem.Challenge.cw_placedworks_k40_happenings_written_holds : PySem.Challenge.rw_placedworks_k40_happenings_written.Holds := by
 w_on;o_law;k_head; (case hw=>w_witness2)
 k_fill
 refine K40.walk (l:=PySem.Challenge.rw_placedworks_k40_happenings_written) ?Q rfl rfl (λ w h Y=>PySem.W.kIn_of Y) ?F
 case Q=>kernel_rfl
 case F =>
  intro w mg fa h KX G hmg;refine' K40.all_mk KX G hmg ?v0 ?v1 ?v2 ?v3 ?v4 ?v5 ?v6 ?v7 ?v8 ?v9 ?v10 ?v11 ?v12 ?v13 ?v14 ?v15 ?v16 ?v17 ?v18 ?v19 ?v20 ?v21 ?v22 ?v23 ?v24 ?v25 ?v26 ?v27 ?v28 ?v29 ?v30 ?v31 ?v32 ?v33 ?v34 ?v35 ?v36 ?v37 ?v38 ?v39 ?v40 ?v41 ?v42 ?v43 ?v44 ?v45 ?v46 ?v47 ?v48 ?v49 ?v50 ?v51 ?v52 ?v53 ?v54 ?v55 ?v56 ?v57 ?v58 ?v59 ?v60 ?v61 ?v62 ?v63 ?v64 ?v65 ?v66 ?v67 ?v68 ?v69 ?v70 ?v71 ?v72 ?v73 ?v74 ?v75 ?v76 ?v77 ?v78 ?v79 ?v80 ?v81 ?v82 ?v83 ?v84 ?v85 ?v86 ?v87
  (case v0 | v1 | v2 | v3 | v4 | v5 | v6 | v7 | v8 | v9 | v10 | v11 | v12 | v13 | v14 | v15 | v16 | v17 | v18 | v19 | v20 | v21 | v22 | v23 | v24 | v25 | v26 | v27 | v28 | v29 | v30 | v31 | v32=>walk_at "kf")
  (case v33 | v34 | v35 | v36 | v37 | v38 | v39 | v40 | v41 | v42 | v43 | v52 | v53 | v54 | v55 | v56 | v57 | v69 | v70 | v71 | v72 | v73 | v74 | v75 | v76 | v77 | v78 | v79 | v80 | v81 | v82 | v83 | v84 | v85 | v86 | v87=>k_is)
  (case v44=>walk_at "ke")
  (case v45 | v46 | v47 | v48 | v49 | v50 | v51 | v58 | v59 | v60 | v61 | v62 | v63 | v64 | v65 | v66 | v67 | v68=>kernel_rfl)
